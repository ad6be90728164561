/-
  From layer 15's walks on: a mouse's event, a cell, that came in.
-/
import Derived.Test.YtbdpjhlfaelgpaaTrkV
import Derived.Test.YtbdpjhlfaelgpaaRows
import Derived.Deep.Matrix
import Derived.Deep.Slices
import Derived.OpenShut
import Derived.Deep.Grids
namespace Go.Proofs.Ytbdpjhlfaelgpaa
open Go.RowKit Go.WideShapes Go.ChangeShapes Go.ChangeAt Go.ChangeMaps Go.Deep

section
variable {H : Type} {enc : TypeId × Value → H}
theorem okWide_sm {P : Program} {t : TypeId} {fs : Array Field} {W : World} {r : Reach} {b0 : Nat} {v : Value} (ht : P.underlying t = some (.struct fs)) (h : Value.okWide P W r b0 t v) : ∃ cs, v = .agg cs ∧ cs.size = P.cellsOf t := by
  simp only [Value.okWide, ht] at h
  obtain ⟨cs, h1, h2, _⟩ := h
  exact ⟨cs, h1, h2⟩
set_option maxRecDepth 100000 in
theorem ms_in {W : World} {held : Bool} {fuel : Nat} {cs : List Value} {x : DataW H × List MemPlace} (h : DataW.trod enc Try.prog W 0 (fun _ => true) held fuel 25 cs = some x) : ∃ e : Ms, cs = (msC e).toList := by
  obtain ⟨xs, n, _, _, hlen, hxl, hf⟩ := DataW.trod_struct Try.underlying25 h
  rw [show Try.prog.cellsOf 25 = 5 by kernel_rfl] at hlen
  match cs, hlen with
  | [u0, u1, u2, u3, u4], _ =>
    match xs, hxl with
    | [y0, y1, y2, y3, y4], _ =>
      have ci : Try.prog.cellsOf 3 = 1 := by kernel_rfl
      have g0 : DataW.trod enc Try.prog W 0 (fun _ => true) held n 3 (List.take (Try.prog.cellsOf 3) (List.drop 0 [u0, u1, u2, u3, u4])) = some y0 := hf 0 _ rfl
      have g1 : DataW.trod enc Try.prog W 0 (fun _ => true) held n 3 (List.take (Try.prog.cellsOf 3) (List.drop 1 [u0, u1, u2, u3, u4])) = some y1 := hf 1 _ rfl
      have g2 : DataW.trod enc Try.prog W 0 (fun _ => true) held n 3 (List.take (Try.prog.cellsOf 3) (List.drop 2 [u0, u1, u2, u3, u4])) = some y2 := hf 2 _ rfl
      have g3 : DataW.trod enc Try.prog W 0 (fun _ => true) held n 3 (List.take (Try.prog.cellsOf 3) (List.drop 3 [u0, u1, u2, u3, u4])) = some y3 := hf 3 _ rfl
      have g4 : DataW.trod enc Try.prog W 0 (fun _ => true) held n 3 (List.take (Try.prog.cellsOf 3) (List.drop 4 [u0, u1, u2, u3, u4])) = some y4 := hf 4 _ rfl
      rw [ci] at g0 g1 g2 g3 g4
      obtain ⟨z0, k0, _, _⟩ := DataW.trod_int Try.underlying3 g0
      obtain ⟨z1, k1, _, _⟩ := DataW.trod_int Try.underlying3 g1
      obtain ⟨z2, k2, _, _⟩ := DataW.trod_int Try.underlying3 g2
      obtain ⟨z3, k3, _, _⟩ := DataW.trod_int Try.underlying3 g3
      obtain ⟨z4, k4, _, _⟩ := DataW.trod_int Try.underlying3 g4
      simp at k0 k1 k2 k3 k4
      subst k0 k1 k2 k3 k4
      exact ⟨⟨z0, z1, z2, z3, z4⟩, rfl⟩
theorem open_ms {r : Reach} {b0 : Nat} {W : World} {v : Value} {d : DataW H} {ps : List MemPlace} (hval : Value.okWide Try.prog W r b0 25 v) (h : DataW.Trod enc Try.prog W 0 (fun _ => true) true 25 v d ps) : ∃ e : Ms, v = msV e := by
  obtain ⟨cs, rfl, _⟩ := okWide_sm Try.underlying25 hval
  obtain ⟨fuel, hf⟩ := h
  obtain ⟨e, he⟩ := ms_in hf
  obtain ⟨l⟩ := cs
  simp only [Value.cells] at he
  subst he
  exact ⟨e, rfl⟩
set_option maxRecDepth 100000 in
theorem open_ce {r : Reach} {b0 : Nat} {W : World} {v : Value} {d : DataW H} {ps : List MemPlace} (hval : Value.okWide Try.prog W r b0 23 v) (h : DataW.Trod enc Try.prog W 0 (fun _ => true) true 23 v d ps) : ∃ s : Ce, v = ceV s := by
  obtain ⟨cs, rfl, _⟩ := okWide_sm Try.underlying23 hval
  obtain ⟨fuel, hf⟩ := h
  obtain ⟨xs, n, _, _, hlen, hxl, hf⟩ := DataW.trod_struct Try.underlying23 hf
  rw [show Try.prog.cellsOf 23 = 2 by kernel_rfl] at hlen
  obtain ⟨l⟩ := cs
  simp only [Value.cells] at hlen hf
  match l, hlen with
  | [u0, u1], _ =>
    match xs, hxl with
    | [y0, y1], _ =>
      have ci : Try.prog.cellsOf 3 = 1 := by kernel_rfl
      have g0 : DataW.trod enc Try.prog W 0 (fun _ => true) true n 3 (List.take (Try.prog.cellsOf 3) (List.drop 0 [u0, u1])) = some y0 := hf 0 _ rfl
      have g1 : DataW.trod enc Try.prog W 0 (fun _ => true) true n 3 (List.take (Try.prog.cellsOf 3) (List.drop 1 [u0, u1])) = some y1 := hf 1 _ rfl
      rw [ci] at g0 g1
      obtain ⟨z0, k0, _, _⟩ := DataW.trod_int Try.underlying3 g0
      obtain ⟨z1, k1, _, _⟩ := DataW.trod_int Try.underlying3 g1
      simp at k0 k1
      subst k0 k1
      exact ⟨⟨z0, z1⟩, rfl⟩
end
end Go.Proofs.Ytbdpjhlfaelgpaa
