/-
  From layer 10's walks on: a key's event that came in.
-/
import Derived.Test.YtdhpbihooeckoaaDoorMdsR
import Derived.Deep.Matrix
import Derived.Deep.Slices
import Derived.OpenShut
import Derived.Deep.Grids
namespace Go.Proofs.YtdhpbihooeckoaaDoor
open Go.RowKit Go.WideShapes Go.ChangeShapes Go.ChangeAt Go.ChangeMaps Go.Deep

section
variable {H : Type} {enc : TypeId × Value → H}
theorem okWide_sk {P : Program} {t : TypeId} {fs : Array Field} {W : World} {r : Reach} {b0 : Nat} {v : Value} (ht : P.underlying t = some (.struct fs)) (h : Value.okWide P W r b0 t v) : ∃ cs, v = .agg cs ∧ cs.size = P.cellsOf t := by
  simp only [Value.okWide, ht] at h
  obtain ⟨cs, h1, h2, _⟩ := h
  exact ⟨cs, h1, h2⟩
theorem in_of_wf {z : Int} (h : (Lit.int .i64 z).wf = true) : in10 z := by
  have := bounds_i64 h
  exact ⟨this.1, this.2⟩
set_option maxRecDepth 100000 in
theorem open_ky {r : Reach} {b0 : Nat} {W : World} {v : Value} {d : DataW H} {ps : List MemPlace} (hval : Value.okWide Tryd.prog W r b0 23 v) (h : DataW.Trod enc Tryd.prog W 0 (fun _ => true) true 23 v d ps) :
    ∃ k : Ky, v = kyV k ∧ okK k ∧ k.text.size ≤ maxLen ∧ ∃ y0 y1 y2 y3 y4, d = .agg [y0, y1, y2, y3, y4, .lit (.string k.text.data.toList)] := by
  obtain ⟨cs, rfl, _⟩ := okWide_sk Tryd.underlying23 hval
  obtain ⟨fuel, hf⟩ := h
  obtain ⟨xs, n, _, hx, hlen, hxl, hf⟩ := DataW.trod_struct Tryd.underlying23 hf
  rw [show Tryd.prog.cellsOf 23 = 6 by kernel_rfl] at hlen
  obtain ⟨l⟩ := cs
  simp only [Value.cells] at hlen hf
  match l, hlen with
  | [u0, u1, u2, u3, u4, u5], _ =>
    match xs, hxl with
    | [y0, y1, y2, y3, y4, y5], _ =>
      have ci : Tryd.prog.cellsOf 3 = 1 := by kernel_rfl
      have cs : Tryd.prog.cellsOf 9 = 1 := by kernel_rfl
      have g0 : DataW.trod enc Tryd.prog W 0 (fun _ => true) true n 3 (List.take (Tryd.prog.cellsOf 3) (List.drop 0 [u0, u1, u2, u3, u4, u5])) = some y0 := hf 0 _ rfl
      have g1 : DataW.trod enc Tryd.prog W 0 (fun _ => true) true n 3 (List.take (Tryd.prog.cellsOf 3) (List.drop 1 [u0, u1, u2, u3, u4, u5])) = some y1 := hf 1 _ rfl
      have g2 : DataW.trod enc Tryd.prog W 0 (fun _ => true) true n 3 (List.take (Tryd.prog.cellsOf 3) (List.drop 2 [u0, u1, u2, u3, u4, u5])) = some y2 := hf 2 _ rfl
      have g3 : DataW.trod enc Tryd.prog W 0 (fun _ => true) true n 3 (List.take (Tryd.prog.cellsOf 3) (List.drop 3 [u0, u1, u2, u3, u4, u5])) = some y3 := hf 3 _ rfl
      have g4 : DataW.trod enc Tryd.prog W 0 (fun _ => true) true n 3 (List.take (Tryd.prog.cellsOf 3) (List.drop 4 [u0, u1, u2, u3, u4, u5])) = some y4 := hf 4 _ rfl
      have g5 : DataW.trod enc Tryd.prog W 0 (fun _ => true) true n 9 (List.take (Tryd.prog.cellsOf 9) (List.drop 5 [u0, u1, u2, u3, u4, u5])) = some y5 := hf 5 _ rfl
      rw [ci] at g0 g1 g2 g3 g4
      rw [cs] at g5
      obtain ⟨z0, k0, _, w0⟩ := DataW.trod_int Tryd.underlying3 g0
      obtain ⟨z1, k1, _, w1⟩ := DataW.trod_int Tryd.underlying3 g1
      obtain ⟨z2, k2, _, w2⟩ := DataW.trod_int Tryd.underlying3 g2
      obtain ⟨z3, k3, _, w3⟩ := DataW.trod_int Tryd.underlying3 g3
      obtain ⟨z4, k4, _, w4⟩ := DataW.trod_int Tryd.underlying3 g4
      obtain ⟨s, k5, e5, w5⟩ := DataW.trod_string Tryd.underlying9 g5
      simp at k0 k1 k2 k3 k4 k5
      subst k0 k1 k2 k3 k4 k5
      refine ⟨⟨z0, z1, z2, z3, z4, s⟩, rfl, ⟨in_of_wf w0, in_of_wf w1, in_of_wf w2, in_of_wf w3, in_of_wf w4⟩, w5, y0.1, y1.1, y2.1, y3.1, y4.1, ?_⟩
      simp only [Prod.mk.injEq] at hx
      rw [hx.1, e5]
      rfl
end
end Go.Proofs.YtdhpbihooeckoaaDoor
