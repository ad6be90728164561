/-
  Cut out of WirP: what names no function of any dump. Layer 1's small functions, walked: figures and its closure, the document's value and figure.
-/
import Derived.Test.YtkkjahhilcjpgaaDoorG01
import Derived.Test.YtkkjahhilcjpgaaDoorG02
import Derived.Test.YtkkjahhilcjpgaaDoorG13
import Derived.Deep.QuietTactic
import Derived.BigQuiet
namespace Go.Proofs.YtkkjahhilcjpgaaDoor
open Go.RowKit
theorem all_no {p : UInt8 → Bool} {l : List UInt8} {k : Nat} (hk : k < l.length) (h : p l[k] = false) : l.all p = false := by
 rw [List.all_eq_false]
 exact ⟨_, List.getElem_mem hk, by simp [h]⟩
def partB (p : List Int) : Bool := decide (1 ≤ p.length) && decide (p.length ≤ 8) && p.all fun n => decide (-1 ≤ n) && decide (n ≤ 1114111)
theorem parOk_eq (l : List (List Int)) : parOk l = (decide (l.length ≤ 16) && decide (l ≠ [[-1]]) && l.all partB) := rfl
theorem par_long {l : List (List Int)} (h : 16 < l.length) : parOk l = false := by rw [parOk_eq, decide_eq_false (by omega)]; rfl
theorem par_no {l : List (List Int)} {k : Nat} (hk : k < l.length) (h : partB l[k] = false) : parOk l = false := by
 rw [parOk_eq, show l.all partB = false from List.all_eq_false.2 ⟨_, List.getElem_mem hk, by simp [h]⟩, Bool.and_false]
theorem part_len {p : List Int} (h : ¬ (1 ≤ p.length ∧ p.length ≤ 8)) : partB p = false := by
 unfold partB
 by_cases h1 : 1 ≤ p.length
 ·rw [decide_eq_false (p := p.length ≤ 8) (by omega), Bool.and_false, Bool.false_and]
 ·rw [decide_eq_false h1, Bool.false_and, Bool.false_and]
def numOk (n : Int) : Bool := decide (-1 ≤ n) && decide (n ≤ 1114111)
theorem partB_yes {p : List Int} (h1 : 1 ≤ p.length) (h2 : p.length ≤ 8) (h : p.all numOk = true) : partB p = true := by
 unfold partB
 rw [decide_eq_true h1, decide_eq_true h2]
 exact h
theorem parOk_yes {l : List (List Int)} (h : l.length ≤ 16) (h1 : l ≠ [[-1]]) (h2 : l.all partB = true) : parOk l = true := by
 rw [parOk_eq, decide_eq_true h, decide_eq_true h1, h2]; rfl
theorem numOk_iff (n : Int) : numOk n = true ↔ -1 ≤ n ∧ n ≤ 1114111 := by simp [numOk]
set_option maxHeartbeats 400000 in
theorem figures_any (n : Int) (w : World) :
 Calls Tryd.prog 49 #[.int .i64 n] w fun e w' => e = .returned (.func (.func 57) #[] #[.pointer (some ⟨w.heap.size, 0, none⟩)]) ∧ w' = w.alloc (.cells #[.int .i64 n] 3) := by
 have hmf : ∀ (fn : Fn) (first cap : Array Value) (w : World), (Instr.makeFunc fn first cap).run Tryd.prog w = .ok (.func fn first cap) w := fun _ _ _ _ => rfl
 go_enter Tryd.func49, Tryd.ntmps49
 go_wp2
 go_ret
 exact ⟨rfl, rfl⟩
set_option maxHeartbeats 1000000 in
theorem figure_any (c n : Int) (a : Addr) (w : World) (h0 : 0 ≤ c) (h1 : c ≤ 2147483647) (hn0 : 1 ≤ n) (hn1 : n ≤ 36) (hc : w.cell? a = some (.int .i64 n)) :
 Calls Tryd.prog 57 #[.int .i32 c, .pointer (some a)] w fun e w' =>
  e = .returned (.tuple #[.int .i64 (figA c n), .bool (figB c n)]) ∧ w' = w := by
 go_enter Tryd.func57, Tryd.ntmps57
 go_wp2
 all_goals go_ret2
 all_goals
  refine ⟨ret_ib ?_ ?_, rfl⟩
  ·unfold figA figV
   (repeat' split) <;> omega
  ·unfold figB figV
   (repeat' split) <;> first | (rw [eq_comm, decide_eq_true_eq]; omega) | (rw [eq_comm, decide_eq_false_iff_not]; omega)
set_option maxHeartbeats 1000000 in
theorem value_any (c : Int) (w : World) (h0 : 0 ≤ c) (h1 : c < 256) :
 Calls Tryd.prog 41 #[.int .u8 c] w fun e w' => e = .returned (.int .i64 (valV c)) ∧ w' = w := by
 go_enter Tryd.func41, Tryd.ntmps41
 go_wp2
 all_goals go_ret
 all_goals
  refine ⟨ret_i ?_, rfl⟩
  unfold valV figV
  (repeat' split) <;> omega
set_option maxHeartbeats 1000000 in
theorem six_any (n : Int) (w : World) (h0 : 0 ≤ n) (h1 : n < 16) :
 Calls Tryd.prog 34 #[.int .i64 n] w fun e w' => e = .returned (.int .u8 (sixD n)) ∧ w' = w := by
 go_enter Tryd.func34, Tryd.ntmps34
 go_wp2
 all_goals go_ret
 all_goals
  refine ⟨ret_i ?_, rfl⟩
  unfold sixD
  (repeat' split) <;> omega
end Go.Proofs.YtkkjahhilcjpgaaDoor
