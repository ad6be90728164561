/-
  Layer 7: what was saved, as a value and as a box's cells.
-/
import Derived.Test.YtokhchejkfhmmaaSavM
import Derived.Test.YtokhchejkfhmmaaModB
namespace Go.Proofs.Ytokhchejkfhmmaa
open Go.RowKit

section
variable {w w' : World} {g : Nat} {t : TypeId} {p0 p1 p2 p3 p4 p5 p6 p7 p8 p9 p10 p11 : Value}
theorem Blk.cells12 (h : Blk w g t #[p0, p1, p2, p3, p4, p5, p6, p7, p8, p9, p10, p11]) : w.cell? ⟨g, 0, none⟩ = some p0 ∧ w.cell? ⟨g, 1, none⟩ = some p1 ∧ w.cell? ⟨g, 2, none⟩ = some p2 ∧ w.cell? ⟨g, 3, none⟩ = some p3 ∧ w.cell? ⟨g, 4, none⟩ = some p4 ∧ w.cell? ⟨g, 5, none⟩ = some p5 ∧ w.cell? ⟨g, 6, none⟩ = some p6 ∧ w.cell? ⟨g, 7, none⟩ = some p7 ∧ w.cell? ⟨g, 8, none⟩ = some p8 ∧ w.cell? ⟨g, 9, none⟩ = some p9 ∧ w.cell? ⟨g, 10, none⟩ = some p10 ∧ w.cell? ⟨g, 11, none⟩ = some p11 :=
  ⟨h.cell 0, h.cell 1, h.cell 2, h.cell 3, h.cell 4, h.cell 5, h.cell 6, h.cell 7, h.cell 8, h.cell 9, h.cell 10, h.cell 11⟩
theorem Blk.set12 (h : Blk w g t #[p0, p1, p2, p3, p4, p5, p6, p7, p8, p9, p10, p11]) (x0 x1 x2 x3 x4 x5 x6 x7 x8 x9 x10 x11 : Value) : Blk ((((((((((((w.setCell ⟨g, 0, none⟩ x0).setCell ⟨g, 1, none⟩ x1).setCell ⟨g, 2, none⟩ x2).setCell ⟨g, 3, none⟩ x3).setCell ⟨g, 4, none⟩ x4).setCell ⟨g, 5, none⟩ x5).setCell ⟨g, 6, none⟩ x6).setCell ⟨g, 7, none⟩ x7).setCell ⟨g, 8, none⟩ x8).setCell ⟨g, 9, none⟩ x9).setCell ⟨g, 10, none⟩ x10).setCell ⟨g, 11, none⟩ x11) g t #[x0, x1, x2, x3, x4, x5, x6, x7, x8, x9, x10, x11] := by
  have h0 : Blk _ g t #[x0, p1, p2, p3, p4, p5, p6, p7, p8, p9, p10, p11] := h.set 0 x0
  have h1 : Blk _ g t #[x0, x1, p2, p3, p4, p5, p6, p7, p8, p9, p10, p11] := h0.set 1 x1
  have h2 : Blk _ g t #[x0, x1, x2, p3, p4, p5, p6, p7, p8, p9, p10, p11] := h1.set 2 x2
  have h3 : Blk _ g t #[x0, x1, x2, x3, p4, p5, p6, p7, p8, p9, p10, p11] := h2.set 3 x3
  have h4 : Blk _ g t #[x0, x1, x2, x3, x4, p5, p6, p7, p8, p9, p10, p11] := h3.set 4 x4
  have h5 : Blk _ g t #[x0, x1, x2, x3, x4, x5, p6, p7, p8, p9, p10, p11] := h4.set 5 x5
  have h6 : Blk _ g t #[x0, x1, x2, x3, x4, x5, x6, p7, p8, p9, p10, p11] := h5.set 6 x6
  have h7 : Blk _ g t #[x0, x1, x2, x3, x4, x5, x6, x7, p8, p9, p10, p11] := h6.set 7 x7
  have h8 : Blk _ g t #[x0, x1, x2, x3, x4, x5, x6, x7, x8, p9, p10, p11] := h7.set 8 x8
  have h9 : Blk _ g t #[x0, x1, x2, x3, x4, x5, x6, x7, x8, x9, p10, p11] := h8.set 9 x9
  have h10 : Blk _ g t #[x0, x1, x2, x3, x4, x5, x6, x7, x8, x9, x10, p11] := h9.set 10 x10
  exact h10.set 11 x11
theorem below_set12 {B : Nat} {a : World} (h : Below B a w) (hB : B ≤ g) (x0 x1 x2 x3 x4 x5 x6 x7 x8 x9 x10 x11 : Value) : Below B a ((((((((((((w.setCell ⟨g, 0, none⟩ x0).setCell ⟨g, 1, none⟩ x1).setCell ⟨g, 2, none⟩ x2).setCell ⟨g, 3, none⟩ x3).setCell ⟨g, 4, none⟩ x4).setCell ⟨g, 5, none⟩ x5).setCell ⟨g, 6, none⟩ x6).setCell ⟨g, 7, none⟩ x7).setCell ⟨g, 8, none⟩ x8).setCell ⟨g, 9, none⟩ x9).setCell ⟨g, 10, none⟩ x10).setCell ⟨g, 11, none⟩ x11) :=
  ((((((((((((h.setCell (p := ⟨g, 0, none⟩) hB x0).setCell (p := ⟨g, 1, none⟩) hB x1).setCell (p := ⟨g, 2, none⟩) hB x2).setCell (p := ⟨g, 3, none⟩) hB x3).setCell (p := ⟨g, 4, none⟩) hB x4).setCell (p := ⟨g, 5, none⟩) hB x5).setCell (p := ⟨g, 6, none⟩) hB x6).setCell (p := ⟨g, 7, none⟩) hB x7).setCell (p := ⟨g, 8, none⟩) hB x8).setCell (p := ⟨g, 9, none⟩) hB x9).setCell (p := ⟨g, 10, none⟩) hB x10).setCell (p := ⟨g, 11, none⟩) hB x11)
end
theorem bs_inj : ∀ {a b : List UInt8}, bs a = bs b → a = b
  | [], [], _ => rfl
  | [], _ :: _, h => by simp [bs] at h
  | _ :: _, [], h => by simp [bs] at h
  | x :: a, y :: b, h => by
    simp only [bs, List.map_cons, List.cons.injEq] at h
    have h1 : (x.toNat : Int) = (y.toNat : Int) := by
      have := h.1
      simpa [B8] using this
    rw [UInt8.toNat_inj.1 (by omega : x.toNat = y.toNat), bs_inj (show bs a = bs b from h.2)]
/-- What was saved, as a value. -/
def savC (s : List UInt8) : Array Value := (bs s).toArray
def savV (s : List UInt8) : Value := .agg (savC s)
theorem of12 {s : List UInt8} (h : s.length = 12) : ∃ b0 b1 b2 b3 b4 b5 b6 b7 b8 b9 b10 b11 : UInt8, s = [b0, b1, b2, b3, b4, b5, b6, b7, b8, b9, b10, b11] := by
  match s, h with
  | [b0, b1, b2, b3, b4, b5, b6, b7, b8, b9, b10, b11], _ => exact ⟨b0, b1, b2, b3, b4, b5, b6, b7, b8, b9, b10, b11, rfl⟩
theorem savC_get {s : List UInt8} {k : Nat} (h : k < s.length) : (savC s)[k]? = some (B8 (s[k]'h)) := by
  simp [savC, bs, h]
theorem savC_set (s : List UInt8) (k : Nat) (v : UInt8) : (savC s).setIfInBounds k (B8 v) = savC (s.set k v) := by
  simp [savC, bs, List.map_set]
theorem savC_inj {a b : List UInt8} (h : savC a = savC b) : a = b := by
  have h1 : bs a = bs b := by
    have := congrArg Array.toList h
    simpa [savC] using this
  exact bs_inj h1
end Go.Proofs.Ytokhchejkfhmmaa
