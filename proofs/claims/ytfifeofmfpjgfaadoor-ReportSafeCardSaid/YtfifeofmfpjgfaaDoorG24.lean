/-
  From layer 18's walks to a law's row: a style, rows of numbers, four numbers, that came in. From layer 19's walks to a law's row: a screen that came in.
-/
import Derived.Test.YtfifeofmfpjgfaaDoorG12
import Derived.Test.YtfifeofmfpjgfaaDoorG17
import Derived.Test.YtfifeofmfpjgfaaDoorG23
import Derived.Test.YtfifeofmfpjgfaaDoorRows
import Derived.Deep.Matrix
import Derived.Deep.Slices
import Derived.OpenShut
import Derived.Deep.Grids
namespace Go.Proofs.YtfifeofmfpjgfaaDoor
open Go.RowKit Go.WideShapes Go.ChangeShapes Go.ChangeAt Go.ChangeMaps Go.Deep
section
section
variable {H : Type} {enc : TypeId × Value → H}
theorem okWide_sy {P : Program} {t : TypeId} {fs : Array Field} {W : World} {r : Reach} {b0 : Nat} {v : Value} (ht : P.underlying t = some (.struct fs)) (h : Value.okWide P W r b0 t v) : ∃ cs, v = .agg cs ∧ cs.size = P.cellsOf t := by
 simp only [Value.okWide, ht] at h
 obtain ⟨cs, h1, h2, _⟩ := h
 exact ⟨cs, h1, h2⟩
set_option maxRecDepth 100000 in
theorem sy_in {W : World} {held : Bool} {fuel : Nat} {cs : List Value} {x : DataW H × List MemPlace} (h : DataW.trod enc Tryd.prog W 0 (fun _ => true) held fuel 23 cs = some x) :
 ∃ s, cs = (syC s).toList ∧ okSy s := by
 obtain ⟨xs, n, _, hx, hlen, hxl, hf⟩ := DataW.trod_struct Tryd.underlying23 h
 rw [show Tryd.prog.cellsOf 23 = 10 by kernel_rfl] at hlen
 match cs, hlen with
 | [u0, u1, u2, u3, u4, u5, u6, u7, u8, u9], _ =>
   match xs, hxl with
   | [y0, y1, y2, y3, y4, y5, y6, y7, y8, y9], _ =>
     have ci : Tryd.prog.cellsOf 3 = 1 := by kernel_rfl
     have cb : Tryd.prog.cellsOf 4 = 1 := by kernel_rfl
     have g0 : DataW.trod enc Tryd.prog W 0 (fun _ => true) held n 4 (List.take (Tryd.prog.cellsOf 4) (List.drop 0 [u0, u1, u2, u3, u4, u5, u6, u7, u8, u9])) = some y0 := hf 0 _ rfl
     have g1 : DataW.trod enc Tryd.prog W 0 (fun _ => true) held n 4 (List.take (Tryd.prog.cellsOf 4) (List.drop 1 [u0, u1, u2, u3, u4, u5, u6, u7, u8, u9])) = some y1 := hf 1 _ rfl
     have g2 : DataW.trod enc Tryd.prog W 0 (fun _ => true) held n 4 (List.take (Tryd.prog.cellsOf 4) (List.drop 2 [u0, u1, u2, u3, u4, u5, u6, u7, u8, u9])) = some y2 := hf 2 _ rfl
     have g3 : DataW.trod enc Tryd.prog W 0 (fun _ => true) held n 4 (List.take (Tryd.prog.cellsOf 4) (List.drop 3 [u0, u1, u2, u3, u4, u5, u6, u7, u8, u9])) = some y3 := hf 3 _ rfl
     have g4 : DataW.trod enc Tryd.prog W 0 (fun _ => true) held n 4 (List.take (Tryd.prog.cellsOf 4) (List.drop 4 [u0, u1, u2, u3, u4, u5, u6, u7, u8, u9])) = some y4 := hf 4 _ rfl
     have g5 : DataW.trod enc Tryd.prog W 0 (fun _ => true) held n 4 (List.take (Tryd.prog.cellsOf 4) (List.drop 5 [u0, u1, u2, u3, u4, u5, u6, u7, u8, u9])) = some y5 := hf 5 _ rfl
     have g6 : DataW.trod enc Tryd.prog W 0 (fun _ => true) held n 4 (List.take (Tryd.prog.cellsOf 4) (List.drop 6 [u0, u1, u2, u3, u4, u5, u6, u7, u8, u9])) = some y6 := hf 6 _ rfl
     have g7 : DataW.trod enc Tryd.prog W 0 (fun _ => true) held n 3 (List.take (Tryd.prog.cellsOf 3) (List.drop 7 [u0, u1, u2, u3, u4, u5, u6, u7, u8, u9])) = some y7 := hf 7 _ rfl
     have g8 : DataW.trod enc Tryd.prog W 0 (fun _ => true) held n 3 (List.take (Tryd.prog.cellsOf 3) (List.drop 8 [u0, u1, u2, u3, u4, u5, u6, u7, u8, u9])) = some y8 := hf 8 _ rfl
     have g9 : DataW.trod enc Tryd.prog W 0 (fun _ => true) held n 3 (List.take (Tryd.prog.cellsOf 3) (List.drop 9 [u0, u1, u2, u3, u4, u5, u6, u7, u8, u9])) = some y9 := hf 9 _ rfl
     rw [cb] at g0 g1 g2 g3 g4 g5 g6
     rw [ci] at g7 g8 g9
     obtain ⟨z0, k0, _⟩ := DataW.trod_bool Tryd.underlying4 g0
     obtain ⟨z1, k1, _⟩ := DataW.trod_bool Tryd.underlying4 g1
     obtain ⟨z2, k2, _⟩ := DataW.trod_bool Tryd.underlying4 g2
     obtain ⟨z3, k3, _⟩ := DataW.trod_bool Tryd.underlying4 g3
     obtain ⟨z4, k4, _⟩ := DataW.trod_bool Tryd.underlying4 g4
     obtain ⟨z5, k5, _⟩ := DataW.trod_bool Tryd.underlying4 g5
     obtain ⟨z6, k6, _⟩ := DataW.trod_bool Tryd.underlying4 g6
     obtain ⟨z7, k7, _, w7⟩ := DataW.trod_int Tryd.underlying3 g7
     obtain ⟨z8, k8, _, w8⟩ := DataW.trod_int Tryd.underlying3 g8
     obtain ⟨z9, k9, _, w9⟩ := DataW.trod_int Tryd.underlying3 g9
     simp at k0 k1 k2 k3 k4 k5 k6 k7 k8 k9
     subst k0 k1 k2 k3 k4 k5 k6 k7 k8 k9
     have b7 := bounds_i64 w7
     have b8 := bounds_i64 w8
     have b9 := bounds_i64 w9
     exact ⟨⟨z0, z1, z2, z3, z4, z5, z6, z7, z8, z9⟩, rfl, b7, b8, b9⟩
end
end
section
def okSc (s : Sc) : Prop := in18 s.rows ∧ in18 s.cols ∧ in18 s.row ∧ in18 s.col ∧ in18 s.top ∧ in18 s.bottom ∧ in18 s.left ∧ in18 s.right ∧ in18 s.shape ∧ okSy s.style
section
variable {H : Type} {enc : TypeId × Value → H}
set_option maxRecDepth 100000 in
theorem sc_in {W : World} {held : Bool} {fuel : Nat} {cs : List Value} {x : DataW H × List MemPlace} (h : DataW.trod enc Tryd.prog W 0 (fun _ => true) held fuel 25 cs = some x) :
 ∃ s, cs = (scC s).toList ∧ okSc s := by
 obtain ⟨xs, n, _, hx, hlen, hxl, hf⟩ := DataW.trod_struct Tryd.underlying25 h
 rw [show Tryd.prog.cellsOf 25 = 19 by kernel_rfl] at hlen
 match cs, hlen with
 | [u0, u1, u2, u3, u4, u5, u6, u7, u8, u9, u10, u11, u12, u13, u14, u15, u16, u17, u18], _ =>
   match xs, hxl with
   | [y0, y1, y2, y3, y4, y5, y6, y7, y8, y9], _ =>
     have ci : Tryd.prog.cellsOf 3 = 1 := by kernel_rfl
     have cs : Tryd.prog.cellsOf 23 = 10 := by kernel_rfl
     have g0 : DataW.trod enc Tryd.prog W 0 (fun _ => true) held n 3 (List.take (Tryd.prog.cellsOf 3) (List.drop 0 [u0, u1, u2, u3, u4, u5, u6, u7, u8, u9, u10, u11, u12, u13, u14, u15, u16, u17, u18])) = some y0 := hf 0 _ rfl
     have g1 : DataW.trod enc Tryd.prog W 0 (fun _ => true) held n 3 (List.take (Tryd.prog.cellsOf 3) (List.drop 1 [u0, u1, u2, u3, u4, u5, u6, u7, u8, u9, u10, u11, u12, u13, u14, u15, u16, u17, u18])) = some y1 := hf 1 _ rfl
     have g2 : DataW.trod enc Tryd.prog W 0 (fun _ => true) held n 3 (List.take (Tryd.prog.cellsOf 3) (List.drop 2 [u0, u1, u2, u3, u4, u5, u6, u7, u8, u9, u10, u11, u12, u13, u14, u15, u16, u17, u18])) = some y2 := hf 2 _ rfl
     have g3 : DataW.trod enc Tryd.prog W 0 (fun _ => true) held n 3 (List.take (Tryd.prog.cellsOf 3) (List.drop 3 [u0, u1, u2, u3, u4, u5, u6, u7, u8, u9, u10, u11, u12, u13, u14, u15, u16, u17, u18])) = some y3 := hf 3 _ rfl
     have g4 : DataW.trod enc Tryd.prog W 0 (fun _ => true) held n 3 (List.take (Tryd.prog.cellsOf 3) (List.drop 4 [u0, u1, u2, u3, u4, u5, u6, u7, u8, u9, u10, u11, u12, u13, u14, u15, u16, u17, u18])) = some y4 := hf 4 _ rfl
     have g5 : DataW.trod enc Tryd.prog W 0 (fun _ => true) held n 3 (List.take (Tryd.prog.cellsOf 3) (List.drop 5 [u0, u1, u2, u3, u4, u5, u6, u7, u8, u9, u10, u11, u12, u13, u14, u15, u16, u17, u18])) = some y5 := hf 5 _ rfl
     have g6 : DataW.trod enc Tryd.prog W 0 (fun _ => true) held n 3 (List.take (Tryd.prog.cellsOf 3) (List.drop 6 [u0, u1, u2, u3, u4, u5, u6, u7, u8, u9, u10, u11, u12, u13, u14, u15, u16, u17, u18])) = some y6 := hf 6 _ rfl
     have g7 : DataW.trod enc Tryd.prog W 0 (fun _ => true) held n 3 (List.take (Tryd.prog.cellsOf 3) (List.drop 7 [u0, u1, u2, u3, u4, u5, u6, u7, u8, u9, u10, u11, u12, u13, u14, u15, u16, u17, u18])) = some y7 := hf 7 _ rfl
     have g8 : DataW.trod enc Tryd.prog W 0 (fun _ => true) held n 3 (List.take (Tryd.prog.cellsOf 3) (List.drop 8 [u0, u1, u2, u3, u4, u5, u6, u7, u8, u9, u10, u11, u12, u13, u14, u15, u16, u17, u18])) = some y8 := hf 8 _ rfl
     have g9 : DataW.trod enc Tryd.prog W 0 (fun _ => true) held n 23 (List.take (Tryd.prog.cellsOf 23) (List.drop 9 [u0, u1, u2, u3, u4, u5, u6, u7, u8, u9, u10, u11, u12, u13, u14, u15, u16, u17, u18])) = some y9 := hf 9 _ rfl
     rw [ci] at g0 g1 g2 g3 g4 g5 g6 g7 g8
     rw [cs] at g9
     obtain ⟨z0, k0, _, w0⟩ := DataW.trod_int Tryd.underlying3 g0
     obtain ⟨z1, k1, _, w1⟩ := DataW.trod_int Tryd.underlying3 g1
     obtain ⟨z2, k2, _, w2⟩ := DataW.trod_int Tryd.underlying3 g2
     obtain ⟨z3, k3, _, w3⟩ := DataW.trod_int Tryd.underlying3 g3
     obtain ⟨z4, k4, _, w4⟩ := DataW.trod_int Tryd.underlying3 g4
     obtain ⟨z5, k5, _, w5⟩ := DataW.trod_int Tryd.underlying3 g5
     obtain ⟨z6, k6, _, w6⟩ := DataW.trod_int Tryd.underlying3 g6
     obtain ⟨z7, k7, _, w7⟩ := DataW.trod_int Tryd.underlying3 g7
     obtain ⟨z8, k8, _, w8⟩ := DataW.trod_int Tryd.underlying3 g8
     obtain ⟨s9, k9, w9⟩ := sy_in g9
     simp at k0 k1 k2 k3 k4 k5 k6 k7 k8
     subst k0 k1 k2 k3 k4 k5 k6 k7 k8
     have b0 := bounds_i64 w0
     have b1 := bounds_i64 w1
     have b2 := bounds_i64 w2
     have b3 := bounds_i64 w3
     have b4 := bounds_i64 w4
     have b5 := bounds_i64 w5
     have b6 := bounds_i64 w6
     have b7 := bounds_i64 w7
     have b8 := bounds_i64 w8
     refine ⟨⟨z0, z1, z2, z3, z4, z5, z6, z7, z8, s9⟩, ?_, b0, b1, b2, b3, b4, b5, b6, b7, b8, w9⟩
     simp [syC] at k9
     obtain ⟨rfl, rfl, rfl, rfl, rfl, rfl, rfl, rfl, rfl, rfl⟩ := k9
     rfl
set_option maxRecDepth 100000 in
theorem open_sc {r : Reach} {b0 : Nat} {W : World} {v : Value} {d : DataW H} {ps : List MemPlace} (hval : Value.okWide Tryd.prog W r b0 25 v) (h : DataW.Trod enc Tryd.prog W 0 (fun _ => true) true 25 v d ps) :
 ∃ s, v = scV s ∧ okSc s := by
 obtain ⟨cs, rfl, _⟩ := okWide_sy Tryd.underlying25 hval
 obtain ⟨fuel, hf⟩ := h
 obtain ⟨m, hm, hk⟩ := sc_in hf
 refine ⟨m, ?_, hk⟩
 have e : cs = scC m := by
  apply Array.ext'
  simpa [Value.cells] using hm
 rw [e]
 rfl
end
end
end Go.Proofs.YtfifeofmfpjgfaaDoor
