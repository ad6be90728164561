/-
  From layer 18's walks to a law's row: a style, rows of numbers, four numbers, that came in.
-/
import Derived.Test.YthcafgningpdnaaDoorG06
import Derived.Test.YthcafgningpdnaaDoorG28
import Derived.Test.YthcafgningpdnaaDoorRows
import Derived.Deep.Matrix
import Derived.Deep.Slices
import Derived.OpenShut
import Derived.Deep.Grids
namespace Go.Proofs.YthcafgningpdnaaDoor
open Go.RowKit Go.WideShapes Go.ChangeShapes Go.ChangeAt Go.ChangeMaps Go.Deep
section
section
variable {H : Type} {enc : TypeId × Value → H}
theorem okWide_sy {P : Program} {t : TypeId} {fs : Array Field} {W : World} {r : Reach} {b0 : Nat} {v : Value} (ht : P.underlying t = some (.struct fs)) (h : Value.okWide P W r b0 t v) : ∃ cs, v = .agg cs ∧ cs.size = P.cellsOf t := by
 simp only [Value.okWide, ht] at h
 obtain ⟨cs, h1, h2, _⟩ := h
 exact ⟨cs, h1, h2⟩
set_option maxRecDepth 100000 in
theorem sy_in {W : World} {held : Bool} {fuel : Nat} {cs : List Value} {x : DataW H × List MemPlace} (h : DataW.trod enc Tryd.prog W 0 (fun _ => true) held fuel 23 cs = some x) :
 ∃ s, cs = (syC s).toList ∧ okSy s := by
 obtain ⟨xs, n, _, hx, hlen, hxl, hf⟩ := DataW.trod_struct Tryd.underlying23 h
 rw [show Tryd.prog.cellsOf 23 = 10 by kernel_rfl] at hlen
 match cs, hlen with
 | [u0, u1, u2, u3, u4, u5, u6, u7, u8, u9], _ =>
   match xs, hxl with
   | [y0, y1, y2, y3, y4, y5, y6, y7, y8, y9], _ =>
     have ci : Tryd.prog.cellsOf 3 = 1 := by kernel_rfl
     have cb : Tryd.prog.cellsOf 4 = 1 := by kernel_rfl
     have g0 : DataW.trod enc Tryd.prog W 0 (fun _ => true) held n 4 (List.take (Tryd.prog.cellsOf 4) (List.drop 0 [u0, u1, u2, u3, u4, u5, u6, u7, u8, u9])) = some y0 := hf 0 _ rfl
     have g1 : DataW.trod enc Tryd.prog W 0 (fun _ => true) held n 4 (List.take (Tryd.prog.cellsOf 4) (List.drop 1 [u0, u1, u2, u3, u4, u5, u6, u7, u8, u9])) = some y1 := hf 1 _ rfl
     have g2 : DataW.trod enc Tryd.prog W 0 (fun _ => true) held n 4 (List.take (Tryd.prog.cellsOf 4) (List.drop 2 [u0, u1, u2, u3, u4, u5, u6, u7, u8, u9])) = some y2 := hf 2 _ rfl
     have g3 : DataW.trod enc Tryd.prog W 0 (fun _ => true) held n 4 (List.take (Tryd.prog.cellsOf 4) (List.drop 3 [u0, u1, u2, u3, u4, u5, u6, u7, u8, u9])) = some y3 := hf 3 _ rfl
     have g4 : DataW.trod enc Tryd.prog W 0 (fun _ => true) held n 4 (List.take (Tryd.prog.cellsOf 4) (List.drop 4 [u0, u1, u2, u3, u4, u5, u6, u7, u8, u9])) = some y4 := hf 4 _ rfl
     have g5 : DataW.trod enc Tryd.prog W 0 (fun _ => true) held n 4 (List.take (Tryd.prog.cellsOf 4) (List.drop 5 [u0, u1, u2, u3, u4, u5, u6, u7, u8, u9])) = some y5 := hf 5 _ rfl
     have g6 : DataW.trod enc Tryd.prog W 0 (fun _ => true) held n 4 (List.take (Tryd.prog.cellsOf 4) (List.drop 6 [u0, u1, u2, u3, u4, u5, u6, u7, u8, u9])) = some y6 := hf 6 _ rfl
     have g7 : DataW.trod enc Tryd.prog W 0 (fun _ => true) held n 3 (List.take (Tryd.prog.cellsOf 3) (List.drop 7 [u0, u1, u2, u3, u4, u5, u6, u7, u8, u9])) = some y7 := hf 7 _ rfl
     have g8 : DataW.trod enc Tryd.prog W 0 (fun _ => true) held n 3 (List.take (Tryd.prog.cellsOf 3) (List.drop 8 [u0, u1, u2, u3, u4, u5, u6, u7, u8, u9])) = some y8 := hf 8 _ rfl
     have g9 : DataW.trod enc Tryd.prog W 0 (fun _ => true) held n 3 (List.take (Tryd.prog.cellsOf 3) (List.drop 9 [u0, u1, u2, u3, u4, u5, u6, u7, u8, u9])) = some y9 := hf 9 _ rfl
     rw [cb] at g0 g1 g2 g3 g4 g5 g6
     rw [ci] at g7 g8 g9
     obtain ⟨z0, k0, _⟩ := DataW.trod_bool Tryd.underlying4 g0
     obtain ⟨z1, k1, _⟩ := DataW.trod_bool Tryd.underlying4 g1
     obtain ⟨z2, k2, _⟩ := DataW.trod_bool Tryd.underlying4 g2
     obtain ⟨z3, k3, _⟩ := DataW.trod_bool Tryd.underlying4 g3
     obtain ⟨z4, k4, _⟩ := DataW.trod_bool Tryd.underlying4 g4
     obtain ⟨z5, k5, _⟩ := DataW.trod_bool Tryd.underlying4 g5
     obtain ⟨z6, k6, _⟩ := DataW.trod_bool Tryd.underlying4 g6
     obtain ⟨z7, k7, _, w7⟩ := DataW.trod_int Tryd.underlying3 g7
     obtain ⟨z8, k8, _, w8⟩ := DataW.trod_int Tryd.underlying3 g8
     obtain ⟨z9, k9, _, w9⟩ := DataW.trod_int Tryd.underlying3 g9
     simp at k0 k1 k2 k3 k4 k5 k6 k7 k8 k9
     subst k0 k1 k2 k3 k4 k5 k6 k7 k8 k9
     have b7 := bounds_i64 w7
     have b8 := bounds_i64 w8
     have b9 := bounds_i64 w9
     exact ⟨⟨z0, z1, z2, z3, z4, z5, z6, z7, z8, z9⟩, rfl, b7, b8, b9⟩
set_option maxRecDepth 100000 in
theorem open_sy {r : Reach} {b0 : Nat} {W : World} {v : Value} {d : DataW H} {ps : List MemPlace} (hval : Value.okWide Tryd.prog W r b0 23 v) (h : DataW.Trod enc Tryd.prog W 0 (fun _ => true) true 23 v d ps) :
 ∃ s, v = syV s ∧ okSy s := by
 obtain ⟨cs, rfl, _⟩ := okWide_sy Tryd.underlying23 hval
 obtain ⟨fuel, hf⟩ := h
 obtain ⟨m, hm, hk⟩ := sy_in hf
 refine ⟨m, ?_, hk⟩
 have e : cs = syC m := by
  apply Array.ext'
  simpa [Value.cells] using hm
 rw [e]
 rfl
set_option maxRecDepth 100000 in
theorem open_ll {r : Reach} {b0 : Nat} {W : World} {v : Value} {d : DataW H} {ps : List MemPlace} (hval : Value.okWide Tryd.prog W r b0 25 v) (h : DataW.Trod enc Tryd.prog W 0 (fun _ => true) true 25 v d ps) :
 ∃ A ls c, v = .slice A (ls : List (List Int)).length c ∧ ls.length ≤ maxLen ∧ (∀ p ∈ ls, p.length ≤ maxLen) ∧ LsIn W A ls := by
 obtain ⟨a0, len0, cap0, rfl⟩ := okWide_slice Tryd.underlying25 hval
 obtain ⟨fuel, hf⟩ := h
 rcases open_int_rows Tryd.underlying25 Tryd.underlying35 Tryd.underlying3 (by kernel_rfl) (by kernel_rfl) hf with ⟨hcs, _⟩ | ⟨a, len, cap, AA, L, C, Z, hcs, _, hlc, hcm, _, hr⟩
 ·simp [Value.cells] at hcs
  obtain ⟨rfl, rfl, rfl⟩ := hcs
  exact ⟨none, [], 0, rfl, by simp, by simp, RdPc.nil _ _, by simp⟩
 ·simp [Value.cells] at hcs
  obtain ⟨rfl, rfl, rfl⟩ := hcs
  refine ⟨some a, (List.range len0).map fun r => (Z r).take (L r), cap0, by simp, by simp; omega, fun p hp => ?_, fun hp => ?_, fun p hp n hn => ?_⟩
  case refine_1 =>
   obtain ⟨k, hk, rfl⟩ := List.mem_map.1 hp
   obtain ⟨_, h2, h3, _⟩ := hr k (by have := List.mem_range.1 hk; omega)
   rw [List.length_take]; omega
  case refine_3 =>
   obtain ⟨k, hk, rfl⟩ := List.mem_map.1 hp
   obtain ⟨_, _, _, _, h5, _⟩ := hr k (by have := List.mem_range.1 hk; omega)
   have hb := bounds_i64 (h5 n (List.mem_of_mem_take hn))
   exact ⟨by omega, by omega⟩
  simp only [List.length_map, List.length_range] at hp
  obtain ⟨b, o, sp⟩ := a
  obtain rfl : sp = none := by simpa [Addr.add] using World.cell?_spot (hr 0 (by omega)).1
  have h0 := (hr 0 (by omega)).1
  rw [addr_add_at, Nat.add_zero] at h0
  refine ⟨b, o, rfl, World.block_lt_of_cell? W _ h0, fun k hk => ?_⟩
  simp only [List.length_map, List.length_range] at hk
  obtain ⟨h1, h2, h3, h4, h5, h6, h7⟩ := hr k (by omega)
  rw [addr_add_at] at h1
  have hl : ((Z k).take (L k)).length = L k := by rw [List.length_take]; omega
  refine ⟨AA k, C k, by rw [List.getElem_map, List.getElem_range, hl]; omega, ?_, fun hp2 => ?_⟩
  ·rw [h1, List.getElem_map, List.getElem_range, hl]
  ·rw [is_length, List.getElem_map, List.getElem_range, hl] at hp2
   cases hA : AA k with
   | none => have := h6 hA; omega
   | some a' =>
     obtain ⟨_, hc⟩ := h7 a' hA
     obtain ⟨b', o', sp'⟩ := a'
     have hc0 := hc 0 (by omega)
     obtain rfl : sp' = none := by simpa [Addr.add] using World.cell?_spot hc0
     rw [addr_add_at, Nat.add_zero] at hc0
     refine ⟨b', o', rfl, World.block_lt_of_cell? W _ hc0, fun i u hu => ?_⟩
     rw [List.getElem_map, List.getElem_range] at hu
     have hi : i < L k := by
      have := (List.getElem?_eq_some_iff.1 hu).1
      rw [is_length, hl] at this
      exact this
     have := hc i (by omega)
     rw [addr_add_at] at this
     rw [this, ← hu]
     simp [is_, hi, List.getD, List.getElem?_eq_getElem (show i < (Z k).length by omega)]
end
end
end Go.Proofs.YthcafgningpdnaaDoor
