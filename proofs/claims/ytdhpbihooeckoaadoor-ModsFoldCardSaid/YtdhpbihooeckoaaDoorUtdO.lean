/-
  Layer 2: what takes and puts answer. (No function of any dump.)
-/
import Derived.Test.YtdhpbihooeckoaaDoorOwn
import Derived.Test.YtdhpbihooeckoaaDoorUtfM
import Derived.BigQuiet
import Derived.Deep.QuietTactic
namespace Go.Proofs.YtdhpbihooeckoaaDoor
open Go.RowKit

/-- A byte that was reckoned. -/
theorem byt_val (k : Int) (h : 0 ≤ k) (h1 : k < 256) : [Value.int .u8 k] = bs [byt k] := by
  show _ = [Value.int .u8 ((byt k).toNat : Int)]
  rw [byt_nat k h h1]

/-- A slice of bytes handed back, of the call's own. -/
def Out (l : List UInt8) (w : World) (e : Ending) (w' : World) : Prop := ∃ A c, e = .returned (.slice A l.length c) ∧ Rd w' A (bs l) ∧ Below w.heap.size w w'
theorem out_own {base : Nat} {t : TypeId} {v : Value} {n : Nat} {l : List UInt8} {w w' : World} (ho : Own w' base t 1 v n (bs l)) (hb : Below w.heap.size w w') : Out l w (.returned v) w' := by
  obtain ⟨A, c, rfl, hr⟩ := ho.form
  have := ho.1
  rw [bs_length] at this
  exact ⟨A, c, by rw [show n = l.length by omega], hr, hb⟩

theorem out_lit (w : World) (t : TypeId) {l : List UInt8} {L : List Value} {n : Nat} (hE : bs l = L) (hL : l.length = n) : Out l w (.returned (.slice (some ⟨w.heap.size, 0, none⟩) n n)) (w.alloc (.cells L.toArray t)) := by
  subst hL hE
  exact ⟨_, _, rfl, Rd.block (heap_alloc_new w _) (by simp), (Below.refl _ _).alloc (Nat.le_refl _) _⟩

theorem bs1 (a : Int) (ha : 0 ≤ a) (ha' : a < 256) : bs [byt a] = [.int .u8 a] := (byt_val a ha ha').symm
theorem bs_cons (a : Int) (ha : 0 ≤ a) (ha' : a < 256) (l : List UInt8) : bs (byt a :: l) = .int .u8 a :: bs l := by
  show _ :: _ = _
  rw [show B8 (byt a) = .int .u8 a by unfold B8; rw [byt_nat a ha ha']]
  rfl

theorem rd_lit (w : World) (x : Value) (t : TypeId) : Rd (w.alloc (.cells #[x] t)) (some ⟨w.heap.size, 0, none⟩) [x] := Rd.block (heap_alloc_new w _) rfl
/-- What Take answers. -/
def Tk (l : List UInt8) : Ending := .returned (.tuple #[.int .i64 (takeL l).1, .int .i64 ((takeL l).2 : Nat)])
theorem tk_zero {l : List UInt8} (h : takeL l = (0, 0)) : Ending.returned (.tuple #[.int .i64 0, .int .i64 0]) = Tk l := by unfold Tk; rw [h]; rfl
theorem tk_is {l : List UInt8} {x : Int} {n : Nat} {m : Int} (h : takeL l = (x, n)) (hm : m = n) : Ending.returned (.tuple #[.int .i64 x, .int .i64 m]) = Tk l := by unfold Tk; rw [h, hm]

end Go.Proofs.YtdhpbihooeckoaaDoor
