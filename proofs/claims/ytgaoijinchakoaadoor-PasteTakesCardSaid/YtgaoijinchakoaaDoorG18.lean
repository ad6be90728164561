/-
  From walks to a law's row: slices of integers and of bytes that came in, with their room; arrays of two; slices of steps (layer 4). From what a row lists to memory: the array of sizes. From layer 6's walks to a law's row: modes, arrays of two bools or numbers, and slices of bools that came in.
-/
import Derived.Test.YtgaoijinchakoaaDoorG06
import Derived.Test.YtgaoijinchakoaaDoorG11
import Derived.Test.YtgaoijinchakoaaDoorG17
import Derived.Test.YtgaoijinchakoaaDoorRows
import Derived.Deep.Matrix
import Derived.Deep.Slices
import Derived.OpenShut
import Derived.Deep.Grids
namespace Go.Proofs.YtgaoijinchakoaaDoor
open Go.RowKit Go.WideShapes Go.ChangeShapes Go.ChangeAt Go.ChangeMaps Go.Deep
section
section
variable {H : Type} {enc : TypeId × Value → H} {P : Program}
theorem open_nums {t e : TypeId} {k : IntKind} (ht : P.underlying t = some (.slice e)) (he : P.underlying e = some (.int k)) (hc : P.cellsOf e = 1) {r : Reach} {b0 : Nat} {W : World} {v : Value} {d : DataW H} {ps : List MemPlace}
 (hval : Value.okWide P W r b0 t v) (h : DataW.Trod enc P W 0 (fun _ => true) true t v d ps) :
 ∃ A l c, v = .slice A (l : List Int).length c ∧ l.length ≤ c ∧ Rd W A (l.map (Value.int k)) ∧ (∀ z ∈ l, (Lit.int k z).wf = true) ∧ (l = [] ∨ ∃ elems spare, d = .slice elems spare ∧ l.length ≤ elems.length + spare.length) := by
 obtain ⟨a0, len, cap, rfl⟩ := okWide_slice ht hval
 obtain ⟨fuel, hf⟩ := h
 rcases open_ints ht he hc hf with ⟨hcs, _⟩ | ⟨a, len', cap', zs, hcs, _, hl, _, hz, hx, hcell, hwf⟩
 ·simp [Value.cells] at hcs
  obtain ⟨rfl, rfl, rfl⟩ := hcs
  exact ⟨none, [], 0, rfl, Nat.le_refl _, Rd.nil _ _, by simp, .inl rfl⟩
 ·simp [Value.cells] at hcs
  obtain ⟨rfl, rfl, rfl⟩ := hcs
  simp only [if_true] at hz
  simp only [Prod.mk.injEq] at hx
  have hlen : (zs.take len).length = len := by rw [List.length_take]; omega
  refine ⟨some a, zs.take len, cap, by rw [hlen], by omega, fun hp => ?_, fun z hz' => hwf z (List.mem_of_mem_take hz'), .inr ⟨_, _, hx.1, ?_⟩⟩
  ·rw [List.length_map, hlen] at hp
   obtain ⟨b, off, rfl, hc2⟩ := ints_at hcell (by omega)
   have h0 := hc2 0 (by omega)
   refine ⟨b, off, rfl, World.block_lt_of_cell? W _ h0, fun i u hu => ?_⟩
   have hi : i < len := by
    have := (List.getElem?_eq_some_iff.1 hu).1
    rw [List.length_map, hlen] at this
    exact this
   rw [hc2 i (by omega), ← hu]
   simp [hi, List.getD, List.getElem?_eq_getElem (show i < zs.length by omega)]
  ·rw [hlen]
   simp only [lits, List.length_map, List.length_take, List.length_drop]
   omega
theorem bs_of_nums (l : List Int) (h : ∀ z ∈ l, (Lit.int .u8 z).wf = true) : bs (l.map fun z => UInt8.ofNat z.toNat) = l.map (Value.int .u8) := by
 simp only [bs, List.map_map]
 apply List.map_congr_left
 intro z hz
 have hb := bounds_u8 (h z hz)
 show Value.int .u8 ((UInt8.ofNat z.toNat).toNat : Int) = _
 rw [UInt8.toNat_ofNat_of_lt' (by show z.toNat < 256; omega)]
 congr 1
 omega
theorem open_bytes_room {t e : TypeId} (ht : P.underlying t = some (.slice e)) (he : P.underlying e = some (.int .u8)) (hc : P.cellsOf e = 1) {r : Reach} {b0 : Nat} {W : World} {v : Value} {d : DataW H} {ps : List MemPlace}
 (hval : Value.okWide P W r b0 t v) (h : DataW.Trod enc P W 0 (fun _ => true) true t v d ps) :
 ∃ A l c, v = .slice A (l : List UInt8).length c ∧ l.length ≤ c ∧ Rd W A (bs l) ∧ (l = [] ∨ ∃ elems spare, d = .slice elems spare ∧ l.length ≤ elems.length + spare.length) := by
 obtain ⟨A, l, c, rfl, hlc, hr, hw, hd⟩ := open_nums ht he hc hval h
 refine ⟨A, l.map fun z => UInt8.ofNat z.toNat, c, by rw [List.length_map], by rw [List.length_map]; exact hlc, by rw [bs_of_nums l hw]; exact hr, ?_⟩
 rcases hd with rfl | hd
 ·exact .inl rfl
 ·exact .inr (by rw [List.length_map]; exact hd)
end
section
variable {H : Type} {enc : TypeId × Value → H}
end
end
end Go.Proofs.YtgaoijinchakoaaDoor
namespace Go.Proofs.YtgaoijinchakoaaDoor
open Go.RowKit Go.WideShapes Go.ChangeShapes Go.ChangeAt Go.ChangeMaps
section
section
variable {H : Type} {enc : TypeId × Value → H} {P : Program}
theorem row_three {w : World} {base : Nat} {sp : Nat → Bool} {held : Bool} {fuel : Nat} {t e : TypeId} {f0 f1 f2 : Field} {cs : List Value} {a b c : Int} {p : List MemPlace}
 (ht : P.underlying t = some (.struct #[f0, f1, f2])) (e0 : f0.type = e) (e1 : f1.type = e) (e2 : f2.type = e) (o0 : f0.offset = 0) (o1 : f1.offset = 1) (o2 : f2.offset = 2) (he : P.underlying e = some (.int .i64)) (hce : P.cellsOf e = 1) (hct : P.cellsOf t = 3)
 (h : DataW.trod enc P w base sp held fuel t cs = some (.agg [.lit (.int .i64 a), .lit (.int .i64 b), .lit (.int .i64 c)], p)) : cs = [.int .i64 a, .int .i64 b, .int .i64 c] := by
 obtain ⟨xs, n, _, hx, hlen, hxl, hf⟩ := DataW.trod_struct ht h
 rw [hct] at hlen
 simp only [Prod.mk.injEq, DataW.agg.injEq] at hx
 match cs, hlen with
 | [u, v, y], _ =>
   match xs, hxl with
   | [x0, x1, x2], _ =>
     simp only [List.map_cons, List.map_nil, List.cons.injEq, and_true] at hx
     obtain ⟨⟨h0, h1, h2⟩, _⟩ := hx
     have g0 := hf 0 f0 rfl
     have g1 := hf 1 f1 rfl
     have g2 := hf 2 f2 rfl
     rw [e0, o0, hce] at g0
     rw [e1, o1, hce] at g1
     rw [e2, o2, hce] at g2
     obtain ⟨z0, k0, m0, _⟩ := DataW.trod_int he g0
     obtain ⟨z1, k1, m1, _⟩ := DataW.trod_int he g1
     obtain ⟨z2, k2, m2, _⟩ := DataW.trod_int he g2
     simp at k0 k1 k2
     subst k0 k1 k2
     rw [m0] at h0
     rw [m1] at h1
     rw [m2] at h2
     simp at h0 h1 h2
     rw [h0, h1, h2]
end
theorem siz_of {W : World} {rest : List (String × DataW Unit)} (h : laidMet Tryd.prog (("clavier/utf.sizes", Rows.laid_clavier_utf_sizes) :: rest) W) : Siz W := by
 obtain ⟨ps, ⟨g, t, cs, fuel, p, q, hg, ht, hvar, hd, _, _⟩, _⟩ := h
 obtain rfl := Option.some.inj ((show Tryd.prog.globalNamed "clavier/utf.sizes" = some 0 by kernel_rfl).symm.trans hg)
 obtain rfl := Option.some.inj ((show (Tryd.prog.globals[0]?).map (·.type) = some 81 by kernel_rfl).symm.trans ht)
 obtain ⟨xs, m, _, hx, hlen, hxl, hel⟩ := DataW.trod_array Tryd.underlying81 hd
 rw [show Tryd.prog.cellsOf 81 = 12 by kernel_rfl] at hlen
 rw [show Tryd.prog.cellsOf 71 = 3 by kernel_rfl] at hel
 have row : ∀ (cs3 : List Value) (a b c : Int) (x : DataW Unit × List MemPlace), x.1 = .agg [.lit (.int .i64 a), .lit (.int .i64 b), .lit (.int .i64 c)] → DataW.trod (fun _ => ()) Tryd.prog W 0 (fun _ => true) false m 71 cs3 = some x → cs3 = [.int .i64 a, .int .i64 b, .int .i64 c] := fun cs3 a b c x hx h3 => by
  obtain ⟨x1, x2⟩ := x
  subst hx
  exact row_three Tryd.underlying71 (e := 3) rfl rfl rfl rfl rfl rfl Tryd.underlying3 (by kernel_rfl) (by kernel_rfl) h3
 match xs, hxl with
 | [x0, x1, x2, x3], _ =>
   simp only [Prod.mk.injEq, Rows.laid_clavier_utf_sizes, DataW.agg.injEq, List.map_cons, List.map_nil, List.cons.injEq, and_true] at hx
   obtain ⟨⟨d0, d1, d2, d3⟩, _⟩ := hx
   have r0 := row _ _ _ _ x0 d0.symm (hel 0 (by omega))
   have r1 := row _ _ _ _ x1 d1.symm (hel 1 (by omega))
   have r2 := row _ _ _ _ x2 d2.symm (hel 2 (by omega))
   have r3 := row _ _ _ _ x3 d3.symm (hel 3 (by omega))
   have e : cs = sizC := by
    apply Array.ext'
    generalize cs.toList = l at *
    match l, hlen with
    | [a0, a1, a2, a3, a4, a5, a6, a7, a8, a9, b0, b1], _ =>
      simp at r0 r1 r2 r3
      obtain ⟨rfl, rfl, rfl⟩ := r0
      obtain ⟨rfl, rfl, rfl⟩ := r1
      obtain ⟨rfl, rfl, rfl⟩ := r2
      obtain ⟨rfl, rfl, rfl⟩ := r3
      rfl
   subst e
   simp only [World.var?, hg, Option.bind_some] at hvar
   split at hvar
   ·rename_i c t' fr hb
    cases hvar
    exact ⟨t', fr, hb⟩
   ·cases hvar
end
end Go.Proofs.YtgaoijinchakoaaDoor
namespace Go.Proofs.YtgaoijinchakoaaDoor
open Go.RowKit Go.WideShapes Go.ChangeShapes Go.ChangeAt Go.ChangeMaps Go.Deep
section
section
variable {H : Type} {enc : TypeId × Value → H}
theorem okWide_st {P : Program} {t : TypeId} {fs : Array Field} {W : World} {r : Reach} {b0 : Nat} {v : Value} (ht : P.underlying t = some (.struct fs)) (h : Value.okWide P W r b0 t v) : ∃ cs, v = .agg cs ∧ cs.size = P.cellsOf t := by
 simp only [Value.okWide, ht] at h
 obtain ⟨cs, h1, h2, _⟩ := h
 exact ⟨cs, h1, h2⟩
set_option maxRecDepth 100000 in
theorem mo_in {W : World} {held : Bool} {fuel : Nat} {cs : List Value} {x : DataW H × List MemPlace} (h : DataW.trod enc Tryd.prog W 0 (fun _ => true) held fuel 23 cs = some x) :
 ∃ m, cs = (moC m).toList ∧ okM m := by
 obtain ⟨xs, n, _, hx, hlen, hxl, hf⟩ := DataW.trod_struct Tryd.underlying23 h
 rw [show Tryd.prog.cellsOf 23 = 10 by kernel_rfl] at hlen
 match cs, hlen with
 | [u0, u1, u2, u3, u4, u5, u6, u7, u8, u9], _ =>
   match xs, hxl with
   | [y0, y1, y2, y3, y4, y5, y6, y7, y8, y9], _ =>
     have ci : Tryd.prog.cellsOf 3 = 1 := by kernel_rfl
     have cb : Tryd.prog.cellsOf 4 = 1 := by kernel_rfl
     have g0 : DataW.trod enc Tryd.prog W 0 (fun _ => true) held n 4 (List.take (Tryd.prog.cellsOf 4) (List.drop 0 [u0, u1, u2, u3, u4, u5, u6, u7, u8, u9])) = some y0 := hf 0 _ rfl
     have g1 : DataW.trod enc Tryd.prog W 0 (fun _ => true) held n 4 (List.take (Tryd.prog.cellsOf 4) (List.drop 1 [u0, u1, u2, u3, u4, u5, u6, u7, u8, u9])) = some y1 := hf 1 _ rfl
     have g2 : DataW.trod enc Tryd.prog W 0 (fun _ => true) held n 4 (List.take (Tryd.prog.cellsOf 4) (List.drop 2 [u0, u1, u2, u3, u4, u5, u6, u7, u8, u9])) = some y2 := hf 2 _ rfl
     have g3 : DataW.trod enc Tryd.prog W 0 (fun _ => true) held n 4 (List.take (Tryd.prog.cellsOf 4) (List.drop 3 [u0, u1, u2, u3, u4, u5, u6, u7, u8, u9])) = some y3 := hf 3 _ rfl
     have g4 : DataW.trod enc Tryd.prog W 0 (fun _ => true) held n 4 (List.take (Tryd.prog.cellsOf 4) (List.drop 4 [u0, u1, u2, u3, u4, u5, u6, u7, u8, u9])) = some y4 := hf 4 _ rfl
     have g5 : DataW.trod enc Tryd.prog W 0 (fun _ => true) held n 4 (List.take (Tryd.prog.cellsOf 4) (List.drop 5 [u0, u1, u2, u3, u4, u5, u6, u7, u8, u9])) = some y5 := hf 5 _ rfl
     have g6 : DataW.trod enc Tryd.prog W 0 (fun _ => true) held n 4 (List.take (Tryd.prog.cellsOf 4) (List.drop 6 [u0, u1, u2, u3, u4, u5, u6, u7, u8, u9])) = some y6 := hf 6 _ rfl
     have g7 : DataW.trod enc Tryd.prog W 0 (fun _ => true) held n 3 (List.take (Tryd.prog.cellsOf 3) (List.drop 7 [u0, u1, u2, u3, u4, u5, u6, u7, u8, u9])) = some y7 := hf 7 _ rfl
     have g8 : DataW.trod enc Tryd.prog W 0 (fun _ => true) held n 3 (List.take (Tryd.prog.cellsOf 3) (List.drop 8 [u0, u1, u2, u3, u4, u5, u6, u7, u8, u9])) = some y8 := hf 8 _ rfl
     have g9 : DataW.trod enc Tryd.prog W 0 (fun _ => true) held n 3 (List.take (Tryd.prog.cellsOf 3) (List.drop 9 [u0, u1, u2, u3, u4, u5, u6, u7, u8, u9])) = some y9 := hf 9 _ rfl
     rw [cb] at g0 g1 g2 g3 g4 g5 g6
     rw [ci] at g7 g8 g9
     obtain ⟨z0, k0, _⟩ := DataW.trod_bool Tryd.underlying4 g0
     obtain ⟨z1, k1, _⟩ := DataW.trod_bool Tryd.underlying4 g1
     obtain ⟨z2, k2, _⟩ := DataW.trod_bool Tryd.underlying4 g2
     obtain ⟨z3, k3, _⟩ := DataW.trod_bool Tryd.underlying4 g3
     obtain ⟨z4, k4, _⟩ := DataW.trod_bool Tryd.underlying4 g4
     obtain ⟨z5, k5, _⟩ := DataW.trod_bool Tryd.underlying4 g5
     obtain ⟨z6, k6, _⟩ := DataW.trod_bool Tryd.underlying4 g6
     obtain ⟨z7, k7, _, w7⟩ := DataW.trod_int Tryd.underlying3 g7
     obtain ⟨z8, k8, _, w8⟩ := DataW.trod_int Tryd.underlying3 g8
     obtain ⟨z9, k9, _, w9⟩ := DataW.trod_int Tryd.underlying3 g9
     simp at k0 k1 k2 k3 k4 k5 k6 k7 k8 k9
     subst k0 k1 k2 k3 k4 k5 k6 k7 k8 k9
     have b7 := bounds_i64 w7
     have b8 := bounds_i64 w8
     have e7 : inI z7 := ⟨by omega, by omega⟩
     have e8 : inI z8 := ⟨by omega, by omega⟩
     exact ⟨⟨z0, z1, z2, z3, z4, z5, z6, z7, z8, z9⟩, rfl, e7, e8⟩
set_option maxRecDepth 100000 in
theorem open_mo {r : Reach} {b0 : Nat} {W : World} {v : Value} {d : DataW H} {ps : List MemPlace} (hval : Value.okWide Tryd.prog W r b0 23 v) (h : DataW.Trod enc Tryd.prog W 0 (fun _ => true) true 23 v d ps) :
 ∃ m, v = moV m ∧ okM m := by
 obtain ⟨cs, rfl, _⟩ := okWide_st Tryd.underlying23 hval
 obtain ⟨fuel, hf⟩ := h
 obtain ⟨m, hm, hk⟩ := mo_in hf
 refine ⟨m, ?_, hk⟩
 have e : cs = moC m := by
  apply Array.ext'
  simpa [Value.cells] using hm
 rw [e]
 rfl
end
end
end Go.Proofs.YtgaoijinchakoaaDoor
