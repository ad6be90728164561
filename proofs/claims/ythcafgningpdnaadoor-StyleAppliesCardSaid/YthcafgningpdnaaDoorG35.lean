/-
  Cut out of ModB: what names no function of any dump.
-/
import Derived.Test.YthcafgningpdnaaDoorG05
namespace Go.Proofs.YthcafgningpdnaaDoor
open Go.RowKit
section
section
variable {w w' : World} {g : Nat} {t : TypeId} {p0 p1 p2 p3 p4 p5 p6 p7 p8 p9 : Value}
theorem Blk.cells10 (h : Blk w g t #[p0, p1, p2, p3, p4, p5, p6, p7, p8, p9]) :
 w.cell? ⟨g, 0, none⟩ = some p0 ∧ w.cell? ⟨g, 1, none⟩ = some p1 ∧ w.cell? ⟨g, 2, none⟩ = some p2 ∧ w.cell? ⟨g, 3, none⟩ = some p3 ∧ w.cell? ⟨g, 4, none⟩ = some p4 ∧ w.cell? ⟨g, 5, none⟩ = some p5 ∧ w.cell? ⟨g, 6, none⟩ = some p6 ∧ w.cell? ⟨g, 7, none⟩ = some p7 ∧ w.cell? ⟨g, 8, none⟩ = some p8 ∧ w.cell? ⟨g, 9, none⟩ = some p9 :=
 ⟨h.cell 0, h.cell 1, h.cell 2, h.cell 3, h.cell 4, h.cell 5, h.cell 6, h.cell 7, h.cell 8, h.cell 9⟩
theorem Blk.set10 (h : Blk w g t #[p0, p1, p2, p3, p4, p5, p6, p7, p8, p9]) (x0 x1 x2 x3 x4 x5 x6 x7 x8 x9 : Value) : Blk ((((((((((w.setCell ⟨g, 0, none⟩ x0).setCell ⟨g, 1, none⟩ x1).setCell ⟨g, 2, none⟩ x2).setCell ⟨g, 3, none⟩ x3).setCell ⟨g, 4, none⟩ x4).setCell ⟨g, 5, none⟩ x5).setCell ⟨g, 6, none⟩ x6).setCell ⟨g, 7, none⟩ x7).setCell ⟨g, 8, none⟩ x8).setCell ⟨g, 9, none⟩ x9) g t #[x0, x1, x2, x3, x4, x5, x6, x7, x8, x9] := by
 have h0 : Blk _ g t #[x0, p1, p2, p3, p4, p5, p6, p7, p8, p9] := h.set 0 x0
 have h1 : Blk _ g t #[x0, x1, p2, p3, p4, p5, p6, p7, p8, p9] := h0.set 1 x1
 have h2 : Blk _ g t #[x0, x1, x2, p3, p4, p5, p6, p7, p8, p9] := h1.set 2 x2
 have h3 : Blk _ g t #[x0, x1, x2, x3, p4, p5, p6, p7, p8, p9] := h2.set 3 x3
 have h4 : Blk _ g t #[x0, x1, x2, x3, x4, p5, p6, p7, p8, p9] := h3.set 4 x4
 have h5 : Blk _ g t #[x0, x1, x2, x3, x4, x5, p6, p7, p8, p9] := h4.set 5 x5
 have h6 : Blk _ g t #[x0, x1, x2, x3, x4, x5, x6, p7, p8, p9] := h5.set 6 x6
 have h7 : Blk _ g t #[x0, x1, x2, x3, x4, x5, x6, x7, p8, p9] := h6.set 7 x7
 have h8 : Blk _ g t #[x0, x1, x2, x3, x4, x5, x6, x7, x8, p9] := h7.set 8 x8
 exact h8.set 9 x9
theorem below_set10 {B : Nat} {a : World} (h : Below B a w) (hB : B ≤ g) (x0 x1 x2 x3 x4 x5 x6 x7 x8 x9 : Value) : Below B a ((((((((((w.setCell ⟨g, 0, none⟩ x0).setCell ⟨g, 1, none⟩ x1).setCell ⟨g, 2, none⟩ x2).setCell ⟨g, 3, none⟩ x3).setCell ⟨g, 4, none⟩ x4).setCell ⟨g, 5, none⟩ x5).setCell ⟨g, 6, none⟩ x6).setCell ⟨g, 7, none⟩ x7).setCell ⟨g, 8, none⟩ x8).setCell ⟨g, 9, none⟩ x9) :=
 ((((((((((h.setCell (p := ⟨g, 0, none⟩) hB x0).setCell (p := ⟨g, 1, none⟩) hB x1).setCell (p := ⟨g, 2, none⟩) hB x2).setCell (p := ⟨g, 3, none⟩) hB x3).setCell (p := ⟨g, 4, none⟩) hB x4).setCell (p := ⟨g, 5, none⟩) hB x5).setCell (p := ⟨g, 6, none⟩) hB x6).setCell (p := ⟨g, 7, none⟩) hB x7).setCell (p := ⟨g, 8, none⟩) hB x8).setCell (p := ⟨g, 9, none⟩) hB x9)
end
theorem Blk.far10 {w : World} {g b : Nat} {t : TypeId} {cs : Array Value} (h : Blk w g t cs) (hb : g ≠ b) (x0 x1 x2 x3 x4 x5 x6 x7 x8 x9 : Value) : Blk ((((((((((w.setCell ⟨b, 0, none⟩ x0).setCell ⟨b, 1, none⟩ x1).setCell ⟨b, 2, none⟩ x2).setCell ⟨b, 3, none⟩ x3).setCell ⟨b, 4, none⟩ x4).setCell ⟨b, 5, none⟩ x5).setCell ⟨b, 6, none⟩ x6).setCell ⟨b, 7, none⟩ x7).setCell ⟨b, 8, none⟩ x8).setCell ⟨b, 9, none⟩ x9) g t cs :=
 (((((((((h.far (a := ⟨b, 0, none⟩) hb x0).far (a := ⟨b, 1, none⟩) hb x1).far (a := ⟨b, 2, none⟩) hb x2).far (a := ⟨b, 3, none⟩) hb x3).far (a := ⟨b, 4, none⟩) hb x4).far (a := ⟨b, 5, none⟩) hb x5).far (a := ⟨b, 6, none⟩) hb x6).far (a := ⟨b, 7, none⟩) hb x7).far (a := ⟨b, 8, none⟩) hb x8).far (a := ⟨b, 9, none⟩) hb x9
end
end Go.Proofs.YthcafgningpdnaaDoor
