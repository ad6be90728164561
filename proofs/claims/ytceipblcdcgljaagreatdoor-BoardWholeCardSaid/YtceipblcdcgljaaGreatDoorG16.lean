/-
  From walks to a law's row: slices of integers and of bytes that came in, with their room; arrays of two; slices of steps (layer 4). From layer 6's walks to a law's row: modes, arrays of two bools or numbers, and slices of bools that came in. From what a row lists to memory: the array of sizes. From what a row lists to memory: the table of keys' rows.
-/
import Derived.Test.YtceipblcdcgljaaGreatDoorG02
import Derived.Test.YtceipblcdcgljaaGreatDoorG07
import Derived.Test.YtceipblcdcgljaaGreatDoorG11
import Derived.Test.YtceipblcdcgljaaGreatDoorG15
import Derived.Test.YtceipblcdcgljaaGreatDoorRows
import Derived.Deep.Matrix
import Derived.Deep.Slices
import Derived.OpenShut
import Derived.Deep.Grids
import Derived.LaidMore
import Derived.Stop.LaidErr
namespace Go.Proofs.YtceipblcdcgljaaGreatDoor
open Go.RowKit Go.WideShapes Go.ChangeShapes Go.ChangeAt Go.ChangeMaps Go.Deep
section
set_option maxRecDepth 100000 in
theorem byte_of {z : Int} (h : (Lit.int .u8 z).wf = true) : ∃ c : UInt8, z = (c.toNat : Int) := by
 have hb := bounds_u8 h
 exact ⟨UInt8.ofNat z.toNat, by rw [UInt8.toNat_ofNat_of_lt' (by show z.toNat < 256; omega)]; omega⟩
section
variable {H : Type} {enc : TypeId × Value → H} {P : Program}
end
section
variable {H : Type} {enc : TypeId × Value → H}
theorem okWide_two {P : Program} {t e : TypeId} {n : Nat} {W : World} {r : Reach} {b0 : Nat} {v : Value} (ht : P.underlying t = some (.array n e)) (h : Value.okWide P W r b0 t v) : ∃ cs, v = .agg cs ∧ cs.size = P.cellsOf t := by
 simp only [Value.okWide, ht] at h
 obtain ⟨cs, h1, h2, _⟩ := h
 exact ⟨cs, h1, h2⟩
set_option maxRecDepth 100000 in
theorem open_two {P : Program} {t e : TypeId} {k : IntKind} {W : World} {r : Reach} {b0 : Nat} {v : Value} {d : DataW H} {ps : List MemPlace} (ht : P.underlying t = some (.array 2 e)) (he : P.underlying e = some (.int k)) (ct : P.cellsOf t = 2) (ce : P.cellsOf e = 1)
 (hval : Value.okWide P W r b0 t v) (h : DataW.Trod enc P W 0 (fun _ => true) true t v d ps) : ∃ a b : Int, v = .agg #[.int k a, .int k b] ∧ (Lit.int k a).wf = true ∧ (Lit.int k b).wf = true := by
 obtain ⟨cs, rfl, hsz⟩ := okWide_two ht hval
 obtain ⟨fuel, hf⟩ := h
 obtain ⟨xs, m, _, hx, hlen, hxl, hel⟩ := DataW.trod_array ht hf
 rw [ct] at hsz
 obtain ⟨l⟩ := cs
 match l, hsz with
 | [u0, u1], _ =>
   match xs, hxl with
   | [y0, y1], _ =>
     have g0 := hel 0 (by omega)
     have g1 := hel 1 (by omega)
     rw [ce] at g0 g1
     obtain ⟨z0, k0, _, w0⟩ := DataW.trod_int he (show DataW.trod enc P W 0 (fun _ => true) true m e [u0] = some y0 by simpa [Value.cells] using g0)
     obtain ⟨z1, k1, _, w1⟩ := DataW.trod_int he (show DataW.trod enc P W 0 (fun _ => true) true m e [u1] = some y1 by simpa [Value.cells] using g1)
     simp at k0 k1
     subst k0 k1
     exact ⟨z0, z1, rfl, w0, w1⟩
end
end
section
section
variable {H : Type} {enc : TypeId × Value → H}
theorem okWide_st {P : Program} {t : TypeId} {fs : Array Field} {W : World} {r : Reach} {b0 : Nat} {v : Value} (ht : P.underlying t = some (.struct fs)) (h : Value.okWide P W r b0 t v) : ∃ cs, v = .agg cs ∧ cs.size = P.cellsOf t := by
 simp only [Value.okWide, ht] at h
 obtain ⟨cs, h1, h2, _⟩ := h
 exact ⟨cs, h1, h2⟩
set_option maxRecDepth 100000 in
theorem mo_in {W : World} {held : Bool} {fuel : Nat} {cs : List Value} {x : DataW H × List MemPlace} (h : DataW.trod enc Tryz.prog W 0 (fun _ => true) held fuel 23 cs = some x) :
 ∃ m, cs = (moC m).toList ∧ okM m := by
 obtain ⟨xs, n, _, hx, hlen, hxl, hf⟩ := DataW.trod_struct Tryz.underlying23 h
 rw [show Tryz.prog.cellsOf 23 = 10 by kernel_rfl] at hlen
 match cs, hlen with
 | [u0, u1, u2, u3, u4, u5, u6, u7, u8, u9], _ =>
   match xs, hxl with
   | [y0, y1, y2, y3, y4, y5, y6, y7, y8, y9], _ =>
     have ci : Tryz.prog.cellsOf 3 = 1 := by kernel_rfl
     have cb : Tryz.prog.cellsOf 4 = 1 := by kernel_rfl
     have g0 : DataW.trod enc Tryz.prog W 0 (fun _ => true) held n 4 (List.take (Tryz.prog.cellsOf 4) (List.drop 0 [u0, u1, u2, u3, u4, u5, u6, u7, u8, u9])) = some y0 := hf 0 _ rfl
     have g1 : DataW.trod enc Tryz.prog W 0 (fun _ => true) held n 4 (List.take (Tryz.prog.cellsOf 4) (List.drop 1 [u0, u1, u2, u3, u4, u5, u6, u7, u8, u9])) = some y1 := hf 1 _ rfl
     have g2 : DataW.trod enc Tryz.prog W 0 (fun _ => true) held n 4 (List.take (Tryz.prog.cellsOf 4) (List.drop 2 [u0, u1, u2, u3, u4, u5, u6, u7, u8, u9])) = some y2 := hf 2 _ rfl
     have g3 : DataW.trod enc Tryz.prog W 0 (fun _ => true) held n 4 (List.take (Tryz.prog.cellsOf 4) (List.drop 3 [u0, u1, u2, u3, u4, u5, u6, u7, u8, u9])) = some y3 := hf 3 _ rfl
     have g4 : DataW.trod enc Tryz.prog W 0 (fun _ => true) held n 4 (List.take (Tryz.prog.cellsOf 4) (List.drop 4 [u0, u1, u2, u3, u4, u5, u6, u7, u8, u9])) = some y4 := hf 4 _ rfl
     have g5 : DataW.trod enc Tryz.prog W 0 (fun _ => true) held n 4 (List.take (Tryz.prog.cellsOf 4) (List.drop 5 [u0, u1, u2, u3, u4, u5, u6, u7, u8, u9])) = some y5 := hf 5 _ rfl
     have g6 : DataW.trod enc Tryz.prog W 0 (fun _ => true) held n 4 (List.take (Tryz.prog.cellsOf 4) (List.drop 6 [u0, u1, u2, u3, u4, u5, u6, u7, u8, u9])) = some y6 := hf 6 _ rfl
     have g7 : DataW.trod enc Tryz.prog W 0 (fun _ => true) held n 3 (List.take (Tryz.prog.cellsOf 3) (List.drop 7 [u0, u1, u2, u3, u4, u5, u6, u7, u8, u9])) = some y7 := hf 7 _ rfl
     have g8 : DataW.trod enc Tryz.prog W 0 (fun _ => true) held n 3 (List.take (Tryz.prog.cellsOf 3) (List.drop 8 [u0, u1, u2, u3, u4, u5, u6, u7, u8, u9])) = some y8 := hf 8 _ rfl
     have g9 : DataW.trod enc Tryz.prog W 0 (fun _ => true) held n 3 (List.take (Tryz.prog.cellsOf 3) (List.drop 9 [u0, u1, u2, u3, u4, u5, u6, u7, u8, u9])) = some y9 := hf 9 _ rfl
     rw [cb] at g0 g1 g2 g3 g4 g5 g6
     rw [ci] at g7 g8 g9
     obtain ⟨z0, k0, _⟩ := DataW.trod_bool Tryz.underlying4 g0
     obtain ⟨z1, k1, _⟩ := DataW.trod_bool Tryz.underlying4 g1
     obtain ⟨z2, k2, _⟩ := DataW.trod_bool Tryz.underlying4 g2
     obtain ⟨z3, k3, _⟩ := DataW.trod_bool Tryz.underlying4 g3
     obtain ⟨z4, k4, _⟩ := DataW.trod_bool Tryz.underlying4 g4
     obtain ⟨z5, k5, _⟩ := DataW.trod_bool Tryz.underlying4 g5
     obtain ⟨z6, k6, _⟩ := DataW.trod_bool Tryz.underlying4 g6
     obtain ⟨z7, k7, _, w7⟩ := DataW.trod_int Tryz.underlying3 g7
     obtain ⟨z8, k8, _, w8⟩ := DataW.trod_int Tryz.underlying3 g8
     obtain ⟨z9, k9, _, w9⟩ := DataW.trod_int Tryz.underlying3 g9
     simp at k0 k1 k2 k3 k4 k5 k6 k7 k8 k9
     subst k0 k1 k2 k3 k4 k5 k6 k7 k8 k9
     have b7 := bounds_i64 w7
     have b8 := bounds_i64 w8
     have e7 : inI z7 := ⟨by omega, by omega⟩
     have e8 : inI z8 := ⟨by omega, by omega⟩
     exact ⟨⟨z0, z1, z2, z3, z4, z5, z6, z7, z8, z9⟩, rfl, e7, e8⟩
set_option maxRecDepth 100000 in
theorem open_mo {r : Reach} {b0 : Nat} {W : World} {v : Value} {d : DataW H} {ps : List MemPlace} (hval : Value.okWide Tryz.prog W r b0 23 v) (h : DataW.Trod enc Tryz.prog W 0 (fun _ => true) true 23 v d ps) :
 ∃ m, v = moV m ∧ okM m := by
 obtain ⟨cs, rfl, _⟩ := okWide_st Tryz.underlying23 hval
 obtain ⟨fuel, hf⟩ := h
 obtain ⟨m, hm, hk⟩ := mo_in hf
 refine ⟨m, ?_, hk⟩
 have e : cs = moC m := by
  apply Array.ext'
  simpa [Value.cells] using hm
 rw [e]
 rfl
end
end
end Go.Proofs.YtceipblcdcgljaaGreatDoor
namespace Go.Proofs.YtceipblcdcgljaaGreatDoor
open Go.RowKit Go.WideShapes Go.ChangeShapes Go.ChangeAt Go.ChangeMaps
section
section
variable {H : Type} {enc : TypeId × Value → H} {P : Program}
theorem row_three {w : World} {base : Nat} {sp : Nat → Bool} {held : Bool} {fuel : Nat} {t e : TypeId} {f0 f1 f2 : Field} {cs : List Value} {a b c : Int} {p : List MemPlace}
 (ht : P.underlying t = some (.struct #[f0, f1, f2])) (e0 : f0.type = e) (e1 : f1.type = e) (e2 : f2.type = e) (o0 : f0.offset = 0) (o1 : f1.offset = 1) (o2 : f2.offset = 2) (he : P.underlying e = some (.int .i64)) (hce : P.cellsOf e = 1) (hct : P.cellsOf t = 3)
 (h : DataW.trod enc P w base sp held fuel t cs = some (.agg [.lit (.int .i64 a), .lit (.int .i64 b), .lit (.int .i64 c)], p)) : cs = [.int .i64 a, .int .i64 b, .int .i64 c] := by
 obtain ⟨xs, n, _, hx, hlen, hxl, hf⟩ := DataW.trod_struct ht h
 rw [hct] at hlen
 simp only [Prod.mk.injEq, DataW.agg.injEq] at hx
 match cs, hlen with
 | [u, v, y], _ =>
   match xs, hxl with
   | [x0, x1, x2], _ =>
     simp only [List.map_cons, List.map_nil, List.cons.injEq, and_true] at hx
     obtain ⟨⟨h0, h1, h2⟩, _⟩ := hx
     have g0 := hf 0 f0 rfl
     have g1 := hf 1 f1 rfl
     have g2 := hf 2 f2 rfl
     rw [e0, o0, hce] at g0
     rw [e1, o1, hce] at g1
     rw [e2, o2, hce] at g2
     obtain ⟨z0, k0, m0, _⟩ := DataW.trod_int he g0
     obtain ⟨z1, k1, m1, _⟩ := DataW.trod_int he g1
     obtain ⟨z2, k2, m2, _⟩ := DataW.trod_int he g2
     simp at k0 k1 k2
     subst k0 k1 k2
     rw [m0] at h0
     rw [m1] at h1
     rw [m2] at h2
     simp at h0 h1 h2
     rw [h0, h1, h2]
end
theorem siz_of {W : World} {rest : List (String × DataW Unit)} (h : laidMet Tryz.prog (("clavier/utf.sizes", Rows.laid_clavier_utf_sizes) :: rest) W) : Siz W := by
 obtain ⟨ps, ⟨g, t, cs, fuel, p, q, hg, ht, hvar, hd, _, _⟩, _⟩ := h
 obtain rfl := Option.some.inj ((show Tryz.prog.globalNamed "clavier/utf.sizes" = some 1 by kernel_rfl).symm.trans hg)
 obtain rfl := Option.some.inj ((show (Tryz.prog.globals[1]?).map (·.type) = some 147 by kernel_rfl).symm.trans ht)
 obtain ⟨xs, m, _, hx, hlen, hxl, hel⟩ := DataW.trod_array Tryz.underlying147 hd
 rw [show Tryz.prog.cellsOf 147 = 12 by kernel_rfl] at hlen
 rw [show Tryz.prog.cellsOf 137 = 3 by kernel_rfl] at hel
 have row : ∀ (cs3 : List Value) (a b c : Int) (x : DataW Unit × List MemPlace), x.1 = .agg [.lit (.int .i64 a), .lit (.int .i64 b), .lit (.int .i64 c)] → DataW.trod (fun _ => ()) Tryz.prog W 0 (fun _ => true) false m 137 cs3 = some x → cs3 = [.int .i64 a, .int .i64 b, .int .i64 c] := fun cs3 a b c x hx h3 => by
  obtain ⟨x1, x2⟩ := x
  subst hx
  exact row_three Tryz.underlying137 (e := 3) rfl rfl rfl rfl rfl rfl Tryz.underlying3 (by kernel_rfl) (by kernel_rfl) h3
 match xs, hxl with
 | [x0, x1, x2, x3], _ =>
   simp only [Prod.mk.injEq, Rows.laid_clavier_utf_sizes, DataW.agg.injEq, List.map_cons, List.map_nil, List.cons.injEq, and_true] at hx
   obtain ⟨⟨d0, d1, d2, d3⟩, _⟩ := hx
   have r0 := row _ _ _ _ x0 d0.symm (hel 0 (by omega))
   have r1 := row _ _ _ _ x1 d1.symm (hel 1 (by omega))
   have r2 := row _ _ _ _ x2 d2.symm (hel 2 (by omega))
   have r3 := row _ _ _ _ x3 d3.symm (hel 3 (by omega))
   have e : cs = sizC := by
    apply Array.ext'
    generalize cs.toList = l at *
    match l, hlen with
    | [a0, a1, a2, a3, a4, a5, a6, a7, a8, a9, b0, b1], _ =>
      simp at r0 r1 r2 r3
      obtain ⟨rfl, rfl, rfl⟩ := r0
      obtain ⟨rfl, rfl, rfl⟩ := r1
      obtain ⟨rfl, rfl, rfl⟩ := r2
      obtain ⟨rfl, rfl, rfl⟩ := r3
      rfl
   subst e
   simp only [World.var?, hg, Option.bind_some] at hvar
   split at hvar
   ·rename_i c t' fr hb
    cases hvar
    exact ⟨t', fr, hb⟩
   ·cases hvar
end
end Go.Proofs.YtceipblcdcgljaaGreatDoor
namespace Go.Proofs.YtceipblcdcgljaaGreatDoor
open Go.RowKit Go.WideShapes Go.ChangeShapes Go.ChangeAt Go.ChangeMaps Go.Deep
section
def roD {H : Type} (r : Ro) : DataW H := .agg [.lit (.int .i64 r.first), .lit (.int .i64 r.last), .lit (.int .i64 r.kind), .lit (.string r.finals), (if r.nums = [] then .nil else .slice (r.nums.map fun n => .lit (.int .i64 n)) []), .lit (.string r.chars), .lit (.bool r.keys)]
section
variable {H : Type} {enc : TypeId × Value → H}
theorem nums_of {W : World} {sp : Nat → Bool} {held : Bool} {fuel : Nat} {cs : List Value} {l : List Int} {p : List MemPlace} (h : DataW.trod enc Tryz.prog W 0 sp held fuel 57 cs = some ((if l = [] then .nil else .slice (l.map fun n => .lit (.int .i64 n)) []), p)) :
 ∃ A c, cs = [.slice A l.length c] ∧ Rd W A (is_ l) := by
 by_cases hl : l = []
 ·subst hl
  rcases DataW.trod_slice Tryz.underlying57 h with ⟨hc, _⟩ | ⟨a, len, cap, elems, rest, n, _, _, hx, _⟩
  ·exact ⟨none, 0, hc, Rd.nil _ _⟩
  ·simp at hx
 ·rw [if_neg hl] at h
  obtain ⟨a, cap, hcs, _, hd⟩ := open_row Tryz.underlying57 (by kernel_rfl) h
  rw [List.length_map] at hcs
  refine ⟨some a, cap, hcs, fun hp => ?_⟩
  rw [is_length] at hp
  have each : ∀ i (hi : i < l.length), W.cell? (a.add i) = some (.int .i64 l[i]) := fun i hi => by
   obtain ⟨v, n, q, h1, h2⟩ := hd i (.lit (.int .i64 l[i])) (by simp [hi])
   obtain ⟨z, k1, k2, _⟩ := DataW.trod_int Tryz.underlying3 h2
   simp only [List.cons.injEq, and_true] at k1
   simp only [Prod.mk.injEq, DataW.lit.injEq, Lit.int.injEq, true_and] at k2
   rw [h1, k1, k2.1]
  obtain ⟨b, o, s⟩ := a
  have h0 := each 0 hp
  obtain rfl : s = none := by simpa [Addr.add] using World.cell?_spot h0
  rw [addr_add_at, Nat.add_zero] at h0
  refine ⟨b, o, rfl, World.block_lt_of_cell? W _ h0, fun k u hu => ?_⟩
  have hk : k < l.length := by
   have := (List.getElem?_eq_some_iff.1 hu).1
   rwa [is_length] at this
  have := each k hk
  rw [addr_add_at] at this
  rw [this, ← hu]
  simp [is_, hk]
theorem str_of {s : ByteArray} {l : List UInt8} (h : l = s.data.toList) : Value.string s = .string ⟨l.toArray⟩ := by subst h; simp
set_option maxRecDepth 100000 in
theorem ro_in {W : World} {sp : Nat → Bool} {held : Bool} {fuel : Nat} {cs : List Value} {r : Ro} {p : List MemPlace} (h : DataW.trod enc Tryz.prog W 0 sp held fuel 59 cs = some (roD r, p)) :
 ∃ A c, cs = roC r A c ∧ Rd W A (is_ r.nums) := by
 obtain ⟨xs, n, _, hx, hlen, hxl, hf⟩ := DataW.trod_struct Tryz.underlying59 h
 rw [show Tryz.prog.cellsOf 59 = 7 by kernel_rfl] at hlen
 simp only [roD, Prod.mk.injEq, DataW.agg.injEq] at hx
 match cs, hlen with
 | [u0, u1, u2, u3, u4, u5, u6], _ =>
   match xs, hxl with
   | [(y0, z0), (y1, z1), (y2, z2), (y3, z3), (y4, z4), (y5, z5), (y6, z6)], _ =>
     simp only [List.map_cons, List.map_nil, List.cons.injEq, and_true] at hx
     obtain ⟨⟨e0, e1, e2, e3, e4, e5, e6⟩, _⟩ := hx
     subst e0 e1 e2 e3 e4 e5 e6
     have ci : Tryz.prog.cellsOf 3 = 1 := by kernel_rfl
     have cb : Tryz.prog.cellsOf 4 = 1 := by kernel_rfl
     have cp : Tryz.prog.cellsOf 57 = 1 := by kernel_rfl
     have cs : Tryz.prog.cellsOf 9 = 1 := by kernel_rfl
     have g0 : DataW.trod enc Tryz.prog W 0 sp held n 3 (List.take (Tryz.prog.cellsOf 3) (List.drop 0 [u0, u1, u2, u3, u4, u5, u6])) = some (_, z0) := hf 0 _ rfl
     have g1 : DataW.trod enc Tryz.prog W 0 sp held n 3 (List.take (Tryz.prog.cellsOf 3) (List.drop 1 [u0, u1, u2, u3, u4, u5, u6])) = some (_, z1) := hf 1 _ rfl
     have g2 : DataW.trod enc Tryz.prog W 0 sp held n 3 (List.take (Tryz.prog.cellsOf 3) (List.drop 2 [u0, u1, u2, u3, u4, u5, u6])) = some (_, z2) := hf 2 _ rfl
     have g3 : DataW.trod enc Tryz.prog W 0 sp held n 9 (List.take (Tryz.prog.cellsOf 9) (List.drop 3 [u0, u1, u2, u3, u4, u5, u6])) = some (_, z3) := hf 3 _ rfl
     have g4 : DataW.trod enc Tryz.prog W 0 sp held n 57 (List.take (Tryz.prog.cellsOf 57) (List.drop 4 [u0, u1, u2, u3, u4, u5, u6])) = some (_, z4) := hf 4 _ rfl
     have g5 : DataW.trod enc Tryz.prog W 0 sp held n 9 (List.take (Tryz.prog.cellsOf 9) (List.drop 5 [u0, u1, u2, u3, u4, u5, u6])) = some (_, z5) := hf 5 _ rfl
     have g6 : DataW.trod enc Tryz.prog W 0 sp held n 4 (List.take (Tryz.prog.cellsOf 4) (List.drop 6 [u0, u1, u2, u3, u4, u5, u6])) = some (_, z6) := hf 6 _ rfl
     rw [ci] at g0 g1 g2
     rw [cs] at g3 g5
     rw [cp] at g4
     rw [cb] at g6
     obtain ⟨v0, k0, m0, _⟩ := DataW.trod_int Tryz.underlying3 g0
     obtain ⟨v1, k1, m1, _⟩ := DataW.trod_int Tryz.underlying3 g1
     obtain ⟨v2, k2, m2, _⟩ := DataW.trod_int Tryz.underlying3 g2
     obtain ⟨v3, k3, m3, _⟩ := DataW.trod_string Tryz.underlying9 g3
     obtain ⟨A, c, k4, hn⟩ := nums_of g4
     obtain ⟨v5, k5, m5, _⟩ := DataW.trod_string Tryz.underlying9 g5
     obtain ⟨v6, k6, m6⟩ := DataW.trod_bool Tryz.underlying4 g6
     simp at k0 k1 k2 k3 k4 k5 k6
     simp only [Prod.mk.injEq, DataW.lit.injEq, Lit.int.injEq, Lit.string.injEq, Lit.bool.injEq, true_and] at m0 m1 m2 m3 m5 m6
     refine ⟨A, c, ?_, hn⟩
     unfold roC
     rw [k0, k1, k2, k3, k4, k5, k6, m0.1, m1.1, m2.1, m6.1, str_of m3.1, str_of m5.1]
end
theorem rows_datum : (Rows.laid_clavier_keys_rows : DataW Unit) = .slice (roL.map roD) [] := rfl
set_option maxRecDepth 100000 in
theorem rows_of {W : World} {x : String × DataW Unit} {rest : List (String × DataW Unit)} (h : laidMet Tryz.prog (x :: ("clavier/keys.rows", Rows.laid_clavier_keys_rows) :: rest) W) : Rws W := by
 obtain ⟨ps, ⟨g, t, cs, fuel, p, q, hg, ht, hvar, hd, _, _⟩, _⟩ := (show laidMet _ _ _ from h).tail
 obtain rfl := Option.some.inj ((show Tryz.prog.globalNamed "clavier/keys.rows" = some 0 by kernel_rfl).symm.trans hg)
 obtain rfl := Option.some.inj ((show (Tryz.prog.globals[0]?).map (·.type) = some 56 by kernel_rfl).symm.trans ht)
 rw [rows_datum] at hd
 rcases DataW.trod_slice Tryz.underlying56 hd with ⟨_, hx⟩ | ⟨a, len, cap, elems, rest', n, _, hcs, hx, _, hl, _, hlen, hel, _⟩
 ·simp at hx
 ·rw [show Tryz.prog.cellsOf 59 = 7 by kernel_rfl] at hel
  simp only [Prod.mk.injEq, DataW.slice.injEq] at hx
  obtain ⟨⟨hx, _⟩, _⟩ := hx
  obtain rfl : len = 22 := by rw [← hlen, ← List.length_map (f := (·.1)), ← hx]; rfl
  have each : ∀ k (hk : k < 22), ∃ A c, Rd W A (is_ (roL[k]'hk).nums) ∧ ∀ i u, (roC (roL[k]'hk) A c)[i]? = some u → W.cell? (a.add (k * 7 + i)) = some u := fun k hk => by
   have h1 := hel k hk
   have h2 : elems[k]? = some (elems[k]'(by omega)) := List.getElem?_eq_getElem _
   rw [h2] at h1
   simp only [Option.bind_eq_some_iff] at h1
   obtain ⟨cs7, h3, h4⟩ := h1
   obtain ⟨_, hcl, hat⟩ := World.cells?_some h3
   have h5 : (elems[k]'(by omega)).1 = roD (roL[k]'hk) := by
    have e1 : (elems.map (·.1))[k]? = some (elems[k]'(by omega)).1 := by rw [List.getElem?_map, h2]; rfl
    rw [← hx, List.getElem?_map, List.getElem?_eq_getElem hk] at e1
    simpa using e1.symm
   obtain ⟨A, c, h6, h7⟩ := ro_in (p := (elems[k]'(by omega)).2) (r := roL[k]'hk) (by rw [h4, ← h5])
   refine ⟨A, c, h7, fun i u hu => ?_⟩
   have hi : i < 7 := (List.getElem?_eq_some_iff.1 hu).1
   rw [← Go.Deep.add_add, hat i hi, h6, hu]
  obtain ⟨b, o, s⟩ := a
  obtain ⟨A0, c0, _, h00⟩ := each 0 (by omega)
  have h01 := h00 0 _ rfl
  obtain rfl : s = none := by simpa [Addr.add] using World.cell?_spot h01
  rw [addr_add_at] at h01
  have e : cs = #[.slice (some ⟨b, o, none⟩) 22 cap] := Array.ext' hcs
  subst e
  simp only [World.var?, hg, Option.bind_some] at hvar
  split at hvar
  ·rename_i c t' fr hb
   cases hvar
   refine ⟨b, o, cap, t', fr, hb, (Array.getElem?_eq_some_iff.1 hb).1, World.block_lt_of_cell? W _ h01, fun k hk => ?_⟩
   obtain ⟨A, c, h1, h2⟩ := each k hk
   refine ⟨A, c, h1, fun i u hu => ?_⟩
   have := h2 i u hu
   rw [addr_add_at] at this
   rw [Nat.add_assoc]
   exact this
  ·cases hvar
end
end Go.Proofs.YtceipblcdcgljaaGreatDoor
