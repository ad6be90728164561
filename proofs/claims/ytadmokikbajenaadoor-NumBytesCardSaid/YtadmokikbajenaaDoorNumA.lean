/-
  Layer 1's small functions, walked: figures and its closure, the document's value and figure.
-/
import Derived.Test.YtadmokikbajenaaDoorBase
import Derived.Deep.QuietTactic
import Derived.BigQuiet
namespace Go.Proofs.YtadmokikbajenaaDoor
open Go.RowKit

/-- What a character is worth as a figure of sixteen; 99: it is none. -/
def figV (c : Int) : Int := if 48 ≤ c ∧ c ≤ 57 then c - 48 else if 65 ≤ c ∧ c ≤ 70 then c - 55 else if 97 ≤ c ∧ c ≤ 102 then c - 87 else 99

set_option maxHeartbeats 400000 in
theorem figures_any (n : Int) (w : World) :
    Calls Tryd.prog 18 #[.int .i64 n] w fun e w' => e = .returned (.func (.func 22) #[] #[.pointer (some ⟨w.heap.size, 0, none⟩)]) ∧ w' = w.alloc (.cells #[.int .i64 n] 3) := by
  have hmf : ∀ (fn : Fn) (first cap : Array Value) (w : World), (Instr.makeFunc fn first cap).run Tryd.prog w = .ok (.func fn first cap) w := fun _ _ _ _ => rfl
  go_enter Tryd.func18, Tryd.ntmps18
  go_wp2
  go_ret
  exact ⟨rfl, rfl⟩

def figA (c n : Int) : Int := if figV c < n then figV c else 0
def figB (c n : Int) : Bool := decide (figV c < n)

set_option maxHeartbeats 1000000 in
/-- The closure: what the character is worth, if that is below the base. -/
theorem figure_any (c n : Int) (a : Addr) (w : World) (h0 : 0 ≤ c) (h1 : c ≤ 2147483647) (hn0 : 1 ≤ n) (hn1 : n ≤ 36) (hc : w.cell? a = some (.int .i64 n)) :
    Calls Tryd.prog 22 #[.int .i32 c, .pointer (some a)] w fun e w' =>
      e = .returned (.tuple #[.int .i64 (figA c n), .bool (figB c n)]) ∧ w' = w := by
  go_enter Tryd.func22, Tryd.ntmps22
  go_wp2
  all_goals go_ret2
  all_goals
    refine ⟨ret_ib ?_ ?_, rfl⟩
    · unfold figA figV
      (repeat' split) <;> omega
    · unfold figB figV
      (repeat' split) <;> first | (rw [eq_comm, decide_eq_true_eq]; omega) | (rw [eq_comm, decide_eq_false_iff_not]; omega)

/-- The document's value of a figure. -/
def valV (c : Int) : Int := if figV c = 99 then -1 else figV c
set_option maxHeartbeats 1000000 in
theorem value_any (c : Int) (w : World) (h0 : 0 ≤ c) (h1 : c < 256) :
    Calls Tryd.prog 20 #[.int .u8 c] w fun e w' => e = .returned (.int .i64 (valV c)) ∧ w' = w := by
  go_enter Tryd.func20, Tryd.ntmps20
  go_wp2
  all_goals go_ret
  all_goals
    refine ⟨ret_i ?_, rfl⟩
    unfold valV figV
    (repeat' split) <;> omega

/-- The sign of a figure of sixteen. -/
def sixD (n : Int) : Int := if n < 10 then 48 + n else 55 + n
set_option maxHeartbeats 1000000 in
theorem six_any (n : Int) (w : World) (h0 : 0 ≤ n) (h1 : n < 16) :
    Calls Tryd.prog 21 #[.int .i64 n] w fun e w' => e = .returned (.int .u8 (sixD n)) ∧ w' = w := by
  go_enter Tryd.func21, Tryd.ntmps21
  go_wp2
  all_goals go_ret
  all_goals
    refine ⟨ret_i ?_, rfl⟩
    unfold sixD
    (repeat' split) <;> omega
end Go.Proofs.YtadmokikbajenaaDoor
