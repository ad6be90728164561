/-
  Layer 6: what a law needs of the program's modes (May, Set, Get, Own), whatever they keep; the example that each of the layer's statements asks, out of that.
-/
import Derived.Test.YtdjglfgdmakjgaaModS
namespace Go.Proofs.Ytdjglfgdmakjgaa
open Go.RowKit

def inI (n : Int) : Prop := -9223372036854775808 ≤ n ∧ n ≤ 9223372036854775807
def ValE (v : Value) (w : World) (e : Ending) (w' : World) : Prop := e = .returned v ∧ Below w.heap.size w w'
/-- Modes whose numbers are ints. -/
def okM (m : Mo) : Prop := inI m.mouse ∧ inI m.coding
theorem inI_zero : inI 0 := ⟨by decide, by decide⟩
theorem ok_set {m : Mo} (h : okM m) (p : Bool) {n : Int} (hn : inI n) (on : Bool) : okM (setM m p n on).1 := by
  unfold okM setM plainM oneM
  (repeat' split) <;> first | exact h | exact ⟨hn, h.2⟩ | exact ⟨h.1, hn⟩ | exact ⟨inI_zero, h.2⟩ | exact ⟨h.1, inI_zero⟩
structure ModC (Inv : World → Prop) : Prop where
  invB : ∀ {w w' : World}, Inv w → Below w.heap.size w w' → Inv w'
  may : ∀ (m : Mo) (w : World), Inv w → okM m → Calls Try.prog 14 #[moV m] w (ValE (.bool (mayM m)) w)
  set : ∀ (m : Mo) (p : Bool) (n : Int) (on : Bool) (w : World), Inv w → inI n → Calls Try.prog 10 #[moV m, .bool p, .int .i64 n, .bool on] w (MoE (setM m p n on).1 (setM m p n on).2 w)
  get : ∀ (m : Mo) (p : Bool) (n : Int) (w : World), Inv w → inI n → Calls Try.prog 12 #[moV m, .bool p, .int .i64 n] w (ValE (.int .i64 (getM m p n)) w)
  own : ∀ (w : World), Inv w → Calls Try.prog 16 #[] w (OwnE w)
section
variable {Inv : World → Prop}
theorem ModC.set_at (H : ModC Inv) {m m' : Mo} {p : Bool} {n : Int} {on q : Bool} (w : World) (hi : Inv w) (hn : inI n) (h : setM m p n on = (m', q)) : Calls Try.prog 10 #[moV m, .bool p, .int .i64 n, .bool on] w (MoE m' q w) := by
  have := H.set m p n on w hi hn
  rw [h] at this
  exact this
theorem ModC.get_at (H : ModC Inv) {m : Mo} {p : Bool} {n k : Int} (w : World) (hi : Inv w) (hn : inI n) (h : getM m p n = k) : Calls Try.prog 12 #[moV m, .bool p, .int .i64 n] w (ValE (.int .i64 k) w) := by
  have := H.get m p n w hi hn
  rw [h] at this
  exact this
theorem ModC.may_at (H : ModC Inv) {m : Mo} {q : Bool} (w : World) (hi : Inv w) (hm : okM m) (h : mayM m = q) : Calls Try.prog 14 #[moV m] w (ValE (.bool q) w) := by
  have := H.may m w hi hm
  rw [h] at this
  exact this
def moC (m : Mo) : Array Value := #[.bool m.cursor, .bool m.keypad, .bool m.back, .bool m.focus, .bool m.paste, .bool m.lock, .bool m.line, .int .i64 m.mouse, .int .i64 m.coding, .int .i64 m.other]
def m3 : Mo := ⟨false, false, false, false, false, false, false, 1003, 0, 0⟩
theorem below_step {w w1 w2 : World} {n : Nat} (h : Below n w w1) (h' : Below w1.heap.size w1 w2) (hn : n ≤ w1.heap.size) : Below n w w2 := h.trans (h'.mono hn)
set_option maxRecDepth 100000 in
set_option maxHeartbeats 8000000 in
theorem modesAwake (H : ModC Inv) (w : World) (hi : Inv w) : Calls Try.prog 9 #[] w (ValE (.bool true) w) := by
  have i1 := Lib.hid (show inI 1000 from ⟨by decide, by decide⟩)
  have i2 := Lib.hid (show inI 1003 from ⟨by decide, by decide⟩)
  have i3 := Lib.hid (show inI 25 from ⟨by decide, by decide⟩)
  have i4 := Lib.hid (show inI 99 from ⟨by decide, by decide⟩)
  go_enter Try.func9, Try.ntmps9
  go_wp2_with fail
  refine (H.set_at (m := mo0) (m' := ⟨false, false, false, false, false, false, false, 1000, 0, 0⟩) (q := true) w hi i1.out rfl).mono ?_
  rintro e w1 ⟨rfl, hb1⟩
  rw [moV]
  have hb2 := hb1.alloc hb1.size (.cells (moC ⟨false, false, false, false, false, false, false, 1000, 0, 0⟩) 23)
  have hi2 := H.invB hi hb2
  go_wp2_with fail
  refine (H.set_at (m := ⟨false, false, false, false, false, false, false, 1000, 0, 0⟩) (m' := m3) (q := true) _ hi2 i2.out rfl).mono ?_
  rintro e w3 ⟨rfl, hb3⟩
  have hb4 := (below_step hb2 hb3 hb2.size).alloc (below_step hb2 hb3 hb2.size).size (.cells (moC m3) 23)
  have hi4 := H.invB hi hb4
  have k4 := Blk.new w3 23 (moC m3)
  clear hb1 hb2 hb3 hi2
  rw [moV]
  obtain ⟨c0, c1, c2, c3, c4, c5, c6, c7, c8, c9⟩ := Blk.cells10 k4
  go_wp2_with fail
  refine (H.get_at (m := m3) (k := 2) _ hi4 i1.out rfl).mono ?_
  rintro e w5 ⟨rfl, ha5⟩
  have k5 := k4.below ha5 k4.lt
  have hb5 := below_step hb4 ha5 hb4.size
  have hi5 := H.invB hi hb5
  clear c0 c1 c2 c3 c4 c5 c6 c7 c8 c9
  obtain ⟨c0, c1, c2, c3, c4, c5, c6, c7, c8, c9⟩ := Blk.cells10 k5
  go_wp2_with fail
  refine (H.get_at (m := m3) (k := 1) _ hi5 i2.out rfl).mono ?_
  rintro e w6 ⟨rfl, ha6⟩
  have k6 := k5.below ha6 k5.lt
  have hb6 := below_step hb5 ha6 hb5.size
  have hi6 := H.invB hi hb6
  clear c0 c1 c2 c3 c4 c5 c6 c7 c8 c9
  obtain ⟨c0, c1, c2, c3, c4, c5, c6, c7, c8, c9⟩ := Blk.cells10 k6
  go_wp2_with fail
  refine (H.get_at (m := m3) (k := 3) _ hi6 i3.out rfl).mono ?_
  rintro e w7 ⟨rfl, ha7⟩
  have k7 := k6.below ha7 k6.lt
  have hb7 := below_step hb6 ha7 hb6.size
  have hi7 := H.invB hi hb7
  clear c0 c1 c2 c3 c4 c5 c6 c7 c8 c9
  obtain ⟨c0, c1, c2, c3, c4, c5, c6, c7, c8, c9⟩ := Blk.cells10 k7
  go_wp2_with fail
  refine (H.get_at (m := m3) (k := 0) _ hi7 i4.out rfl).mono ?_
  rintro e w8 ⟨rfl, ha8⟩
  have k8 := k7.below ha8 k7.lt
  have hb8 := below_step hb7 ha8 hb7.size
  have hi8 := H.invB hi hb8
  clear c0 c1 c2 c3 c4 c5 c6 c7 c8 c9
  obtain ⟨c0, c1, c2, c3, c4, c5, c6, c7, c8, c9⟩ := Blk.cells10 k8
  go_wp2_with fail
  refine (H.may_at (m := m3) (q := true) _ hi8 ⟨i2.out, inI_zero⟩ rfl).mono ?_
  rintro e w9 ⟨rfl, ha9⟩
  have hb9 := below_step hb8 ha9 hb8.size
  go_wp2_with fail
  go_ret
  exact ⟨rfl, hb9⟩
end
end Go.Proofs.Ytdjglfgdmakjgaa
