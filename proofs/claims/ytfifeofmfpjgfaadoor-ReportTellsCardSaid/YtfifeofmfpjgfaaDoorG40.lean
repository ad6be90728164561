/-
  Stage 19's laws, walked: words. From walks to a law's row: slices of integers and of bytes that came in, with their room; arrays of two; slices of steps (layer 4). From layer 6's walks to a law's row: modes, arrays of two bools or numbers, and slices of bools that came in. Stage 19's laws, walked: a list of sequences that a literal makes.
-/
import Derived.Test.YtfifeofmfpjgfaaDoorG13
import Derived.Test.YtfifeofmfpjgfaaDoorG17
import Derived.Test.YtfifeofmfpjgfaaDoorG18
import Derived.Test.YtfifeofmfpjgfaaDoorG23
import Derived.Test.YtfifeofmfpjgfaaDoorG24
import Derived.Test.YtfifeofmfpjgfaaDoorG29
import Derived.Test.YtfifeofmfpjgfaaDoorG37
import Derived.Test.YtfifeofmfpjgfaaDoorG39
import Derived.Test.YtfifeofmfpjgfaaDoorRows
import Derived.Deep.Matrix
import Derived.Deep.Slices
import Derived.OpenShut
import Derived.Deep.Grids
namespace Go.Proofs.YtfifeofmfpjgfaaDoor
open Go.RowKit
def FSq (s : Sq) (v : Value) (w : World) : Prop := ∃ A c, v = sqV s A c ∧ RdP w A s.params
theorem fsq_ok (i : Nat) (d : Tmp) (s : Sq) : (⟨i, d, FSq s⟩ : Fact).ok := fun _ _ _ ⟨A, c, e, h⟩ hb => ⟨A, c, e, h.below hb⟩
theorem FSq.below {s : Sq} {v : Value} {w w' : World} (h : FSq s v w) (hb : Below w.heap.size w w') : FSq s v w' := by
 obtain ⟨A, c, e, hr⟩ := h
 exact ⟨A, c, e, hr.below hb⟩
theorem fsq_of {P : Program} {f : FuncId} {xs : Array Value} {s : Sq} {w : World} (h : Calls P f xs w (RepE s w)) : Calls P f xs w fun e w' => ∃ v, e = .returned v ∧ FSq s v w' ∧ Below w.heap.size w w' := by
 refine h.mono ?_
 rintro e w' ⟨A, c, rfl, hr, hb⟩
 exact ⟨_, rfl, ⟨A, c, rfl, hr⟩, hb⟩
def Sml (s : Sq) : Prop := s.params.length ≤ 4294967296 ∧ ∀ p ∈ s.params, p.length ≤ 4294967296
theorem sml_place (s : Sc) (p : Bool) : Sml (placeR s p) := by
 unfold placeR sqP Sml
 cases p <;> simp
theorem sml_set (s : Sc) (a : List UInt8) : Sml (setR s a) := by
 unfold setR Sml
 simp
theorem sml_mode (m : Mo) (p : Bool) (n : Int) : Sml (modeR m p n) := by
 unfold modeR Sml
 simp
theorem sml_attr (c : UInt8) : Sml (attrR c) := by
 unfold attrR sqP Sml
 split
 ·simp
 ·split
  ·simp
  ·split <;> simp
theorem sml_flags (f : Int) : Sml (flagsR f) := by
 unfold flagsR sqP Sml
 simp
theorem sml_fine : Sml fineR := by
 unfold fineR sqP Sml
 simp
theorem sml_vers : Sml versR := by
 unfold versR Sml
 simp
theorem same19 {s t : Sq} {q : Bool} (hq : sameB s t = q) (hs : Sml s) (ht : Sml t) {u v : Value} {W : World} (hu : FSq s u W) (hv : FSq t v W) : Calls Tryd.prog 10 #[u, v] W fun e w' => e = .returned (.bool q) ∧ Below W.heap.size W w' := by
 obtain ⟨A, c, rfl, h1⟩ := hu
 obtain ⟨B, d, rfl, h2⟩ := hv
 exact rsame_any s t A B c d q W hq hs.1 ht.1 hs.2 ht.2 h1 h2
theorem rng19 {w : World} {g : Nat} {s : Sc} (h : Blk w g 25 (scC s)) : w.rangeAt g 9 (syC s.style).toList := fun j v hv => by
 rw [h.cell (9 + j)]
 match j, hv with
 | 0, hv | 1, hv | 2, hv | 3, hv | 4, hv | 5, hv | 6, hv | 7, hv | 8, hv | 9, hv => simpa [scC, syC] using hv
 | n + 10, hv => simp [syC] at hv
theorem gtr19 {n : Nat} (h : 1 < n) (W : World) : (binOp .gtr 3 (.int .i64 (n : Int)) (.int .i64 1)).run Tryd.prog W = .ok (.bool true) W := by
 have : decide ((1 : Int) < (n : Int)) = true := decide_eq_true (by omega)
 go_simp
theorem sub19 {n k : Nat} (h : n = k + 1) (hn : n ≤ maxLen) (W : World) : (binOp .sub 3 (.int .i64 (n : Int)) (.int .i64 1)).run Tryd.prog W = .ok (.int .i64 (k : Int)) W := by
 simp only [maxLen] at hn
 have : IntKind.i64.wrap ((n : Int) - 1) = (k : Int) := by rw [IntKind.wrap_i64]; omega
 have h2 : IntKind.i64.wrap (k : Int) = (k : Int) := by rw [IntKind.wrap_i64]; omega
 go_simp
theorem idx19 {ev : Operand → Value} {o : Oper} {x y : Operand} {L : List UInt8} {j : Nat} {b : UInt8} {n : Int} (hb : (b.toNat : Int) = n) (hj : L[j]? = some b) (ho : o.op = .index 9 x y) (hx : ev x = .string ⟨L.toArray⟩) (hy : ev y = .int .i64 (j : Int)) (w : World) : (execOp ev o).run Tryd.prog w = .ok (.value (.int .u8 n)) w := by
 obtain ⟨hlt, he⟩ := List.getElem?_eq_some_iff.1 hj
 have hs : (⟨L.toArray⟩ : ByteArray).size = L.length := rfl
 have e : ((j : Int)).toNat = j := by omega
 have hg : (⟨L.toArray⟩ : ByteArray)[j]'(by rw [hs]; exact hlt) = b := by rw [← he]; rfl
 unfold execOp
 simp only [ho, hx, hy, Sem.run_bind, run_index_string w _ _ _ _ Tryd.underlying9, dif_pos (show (0 : Int) ≤ (j : Int) ∧ (j : Int) < ((⟨L.toArray⟩ : ByteArray).size : Int) by rw [hs]; omega), Result.andThen_ok, Sem.run_pure, e, hg, hb]
theorem safe_bool19 (q : Bool) : ∀ w : World, (binOp .eql 4 (.bool q) (.bool q)).run Tryd.prog w = .ok (.bool true) w := fun w => by cases q <;> go_simp
theorem sameB_self (s : Sq) : sameB s s = true := (sameB_iff s s).2 rfl
end Go.Proofs.YtfifeofmfpjgfaaDoor
namespace Go.Proofs.YtfifeofmfpjgfaaDoor
open Go.RowKit Go.WideShapes Go.ChangeShapes Go.ChangeAt Go.ChangeMaps Go.Deep
section
section
variable {H : Type} {enc : TypeId × Value → H} {P : Program}
end
section
variable {H : Type} {enc : TypeId × Value → H}
end
end
section
section
variable {H : Type} {enc : TypeId × Value → H}
theorem okWide_st {P : Program} {t : TypeId} {fs : Array Field} {W : World} {r : Reach} {b0 : Nat} {v : Value} (ht : P.underlying t = some (.struct fs)) (h : Value.okWide P W r b0 t v) : ∃ cs, v = .agg cs ∧ cs.size = P.cellsOf t := by
 simp only [Value.okWide, ht] at h
 obtain ⟨cs, h1, h2, _⟩ := h
 exact ⟨cs, h1, h2⟩
set_option maxRecDepth 100000 in
theorem mo_in {W : World} {held : Bool} {fuel : Nat} {cs : List Value} {x : DataW H × List MemPlace} (h : DataW.trod enc Tryd.prog W 0 (fun _ => true) held fuel 35 cs = some x) :
 ∃ m, cs = (moC m).toList ∧ okM m := by
 obtain ⟨xs, n, _, hx, hlen, hxl, hf⟩ := DataW.trod_struct Tryd.underlying35 h
 rw [show Tryd.prog.cellsOf 35 = 10 by kernel_rfl] at hlen
 match cs, hlen with
 | [u0, u1, u2, u3, u4, u5, u6, u7, u8, u9], _ =>
   match xs, hxl with
   | [y0, y1, y2, y3, y4, y5, y6, y7, y8, y9], _ =>
     have ci : Tryd.prog.cellsOf 3 = 1 := by kernel_rfl
     have cb : Tryd.prog.cellsOf 4 = 1 := by kernel_rfl
     have g0 : DataW.trod enc Tryd.prog W 0 (fun _ => true) held n 4 (List.take (Tryd.prog.cellsOf 4) (List.drop 0 [u0, u1, u2, u3, u4, u5, u6, u7, u8, u9])) = some y0 := hf 0 _ rfl
     have g1 : DataW.trod enc Tryd.prog W 0 (fun _ => true) held n 4 (List.take (Tryd.prog.cellsOf 4) (List.drop 1 [u0, u1, u2, u3, u4, u5, u6, u7, u8, u9])) = some y1 := hf 1 _ rfl
     have g2 : DataW.trod enc Tryd.prog W 0 (fun _ => true) held n 4 (List.take (Tryd.prog.cellsOf 4) (List.drop 2 [u0, u1, u2, u3, u4, u5, u6, u7, u8, u9])) = some y2 := hf 2 _ rfl
     have g3 : DataW.trod enc Tryd.prog W 0 (fun _ => true) held n 4 (List.take (Tryd.prog.cellsOf 4) (List.drop 3 [u0, u1, u2, u3, u4, u5, u6, u7, u8, u9])) = some y3 := hf 3 _ rfl
     have g4 : DataW.trod enc Tryd.prog W 0 (fun _ => true) held n 4 (List.take (Tryd.prog.cellsOf 4) (List.drop 4 [u0, u1, u2, u3, u4, u5, u6, u7, u8, u9])) = some y4 := hf 4 _ rfl
     have g5 : DataW.trod enc Tryd.prog W 0 (fun _ => true) held n 4 (List.take (Tryd.prog.cellsOf 4) (List.drop 5 [u0, u1, u2, u3, u4, u5, u6, u7, u8, u9])) = some y5 := hf 5 _ rfl
     have g6 : DataW.trod enc Tryd.prog W 0 (fun _ => true) held n 4 (List.take (Tryd.prog.cellsOf 4) (List.drop 6 [u0, u1, u2, u3, u4, u5, u6, u7, u8, u9])) = some y6 := hf 6 _ rfl
     have g7 : DataW.trod enc Tryd.prog W 0 (fun _ => true) held n 3 (List.take (Tryd.prog.cellsOf 3) (List.drop 7 [u0, u1, u2, u3, u4, u5, u6, u7, u8, u9])) = some y7 := hf 7 _ rfl
     have g8 : DataW.trod enc Tryd.prog W 0 (fun _ => true) held n 3 (List.take (Tryd.prog.cellsOf 3) (List.drop 8 [u0, u1, u2, u3, u4, u5, u6, u7, u8, u9])) = some y8 := hf 8 _ rfl
     have g9 : DataW.trod enc Tryd.prog W 0 (fun _ => true) held n 3 (List.take (Tryd.prog.cellsOf 3) (List.drop 9 [u0, u1, u2, u3, u4, u5, u6, u7, u8, u9])) = some y9 := hf 9 _ rfl
     rw [cb] at g0 g1 g2 g3 g4 g5 g6
     rw [ci] at g7 g8 g9
     obtain ⟨z0, k0, _⟩ := DataW.trod_bool Tryd.underlying4 g0
     obtain ⟨z1, k1, _⟩ := DataW.trod_bool Tryd.underlying4 g1
     obtain ⟨z2, k2, _⟩ := DataW.trod_bool Tryd.underlying4 g2
     obtain ⟨z3, k3, _⟩ := DataW.trod_bool Tryd.underlying4 g3
     obtain ⟨z4, k4, _⟩ := DataW.trod_bool Tryd.underlying4 g4
     obtain ⟨z5, k5, _⟩ := DataW.trod_bool Tryd.underlying4 g5
     obtain ⟨z6, k6, _⟩ := DataW.trod_bool Tryd.underlying4 g6
     obtain ⟨z7, k7, _, w7⟩ := DataW.trod_int Tryd.underlying3 g7
     obtain ⟨z8, k8, _, w8⟩ := DataW.trod_int Tryd.underlying3 g8
     obtain ⟨z9, k9, _, w9⟩ := DataW.trod_int Tryd.underlying3 g9
     simp at k0 k1 k2 k3 k4 k5 k6 k7 k8 k9
     subst k0 k1 k2 k3 k4 k5 k6 k7 k8 k9
     have b7 := bounds_i64 w7
     have b8 := bounds_i64 w8
     have e7 : inI z7 := ⟨by omega, by omega⟩
     have e8 : inI z8 := ⟨by omega, by omega⟩
     exact ⟨⟨z0, z1, z2, z3, z4, z5, z6, z7, z8, z9⟩, rfl, e7, e8⟩
set_option maxRecDepth 100000 in
theorem open_mo {r : Reach} {b0 : Nat} {W : World} {v : Value} {d : DataW H} {ps : List MemPlace} (hval : Value.okWide Tryd.prog W r b0 35 v) (h : DataW.Trod enc Tryd.prog W 0 (fun _ => true) true 35 v d ps) :
 ∃ m, v = moV m ∧ okM m := by
 obtain ⟨cs, rfl, _⟩ := okWide_st Tryd.underlying35 hval
 obtain ⟨fuel, hf⟩ := h
 obtain ⟨m, hm, hk⟩ := mo_in hf
 refine ⟨m, ?_, hk⟩
 have e : cs = moC m := by
  apply Array.ext'
  simpa [Value.cells] using hm
 rw [e]
 rfl
end
end
end Go.Proofs.YtfifeofmfpjgfaaDoor
namespace Go.Proofs.YtfifeofmfpjgfaaDoor
open Go.RowKit
def rowQ : List (Sq × Option Addr × Nat) → List Value
 | [] => []
 | x :: l => sqC x.1 x.2.1 x.2.2 ++ rowQ l
theorem sqC_len19 (s : Sq) (A : Option Addr) (c : Nat) : (sqC s A c).length = 6 := rfl
theorem rowQ_get : ∀ (l : List (Sq × Option Addr × Nat)) (k : Nat) (hk : k < l.length) (i : Nat) (u : Value), (sqC l[k].1 l[k].2.1 l[k].2.2)[i]? = some u → (rowQ l)[k * 6 + i]? = some u
 | [], k, hk, _, _, _ => absurd hk (by simp)
 | x :: l, 0, _, i, u, h => by
   have hi : i < 6 := (List.getElem?_eq_some_iff.1 h).1
   rw [rowQ, List.getElem?_append_left (by rw [sqC_len19]; omega)]
   simpa using h
 | x :: l, k + 1, hk, i, u, h => by
   rw [rowQ, List.getElem?_append_right (by rw [sqC_len19]; omega), sqC_len19, show (k + 1) * 6 + i - 6 = k * 6 + i by omega]
   exact rowQ_get l k (by simpa using hk) i u (by simpa using h)
theorem rdq_new (w : World) (l : List (Sq × Option Addr × Nat)) (h : ∀ x ∈ l, SqIn w x.1 x.2.1 x.2.2) : RdQ (w.alloc (.cells (rowQ l).toArray 30)) (some ⟨w.heap.size, 0, none⟩) (l.map fun x => x.1) := fun _ => by
 refine ⟨w.heap.size, 0, rfl, by simp, fun k hk => ?_⟩
 have hk' : k < l.length := by simpa using hk
 refine ⟨l[k].2.1, l[k].2.2, ?_, fun i u hu => ?_⟩
 ·rw [List.getElem_map]
  exact (h _ (List.getElem_mem hk')).below ((Below.refl _ w).alloc (Nat.le_refl _) _)
 ·rw [List.getElem_map] at hu
  rw [(Blk.new w 30 (rowQ l).toArray).cell (0 + k * 6 + i)]
  have := rowQ_get l k hk' i u hu
  simpa using this
structure Ok19 (s : Sq) : Prop where
 may : mayS s = 0
 np : s.params.length ≤ 100
 nr : ∀ p ∈ s.params, p.length ≤ 100
 ni : s.inter.length ≤ 100
 nd : s.data.length ≤ 5000
theorem Ok19.sqin {s : Sq} (h : Ok19 s) {w : World} {A : Option Addr} {c : Nat} (hr : RdP w A s.params) : SqIn w s A c :=
 ⟨hr, by have := h.np; simp only [maxLen]; omega, by have := h.ni; simp only [maxLen]; omega, by have := h.nd; simp only [maxLen]; omega, fun p hp => by have := h.nr p hp; simp only [maxLen]; omega⟩
theorem ok_place19 (s : Sc) (p : Bool) : Ok19 (placeR s p) := by
 refine ⟨place_may s p, ?_, ?_, ?_, ?_⟩ <;> unfold placeR sqP <;> cases p <;> simp
theorem ok_set19 (s : Sc) (a : List UInt8) : Ok19 (setR s a) := by
 refine ⟨set_may19 s a, by unfold setR; simp, by unfold setR; simp, by unfold setR; simp, ?_⟩
 have := said_len s a
 show (saidR s a).length ≤ 5000
 omega
theorem ok_mode19 (m : Mo) (p : Bool) (n : Int) : Ok19 (modeR m p n) := by
 refine ⟨mode_may m p n, ?_, ?_, ?_, ?_⟩ <;> unfold modeR <;> simp
theorem ok_flags19 (f : Int) : Ok19 (flagsR f) := by
 refine ⟨flags_may f, ?_, ?_, ?_, ?_⟩ <;> unfold flagsR sqP <;> simp
theorem ok_fine19 : Ok19 fineR := ⟨rest_may.1, by decide, by decide, by decide, by decide⟩
theorem ok_vers19 : Ok19 versR := ⟨rest_may.2.1, by decide, by decide, by decide, by decide⟩
theorem ok_attr0 : Ok19 (attrR 0) := ⟨rest_may.2.2.1, by decide, by decide, by decide, by decide⟩
theorem ok_attr1 : Ok19 (attrR 62) := ⟨rest_may.2.2.2.1, by decide, by decide, by decide, by decide⟩
theorem ok_attr2 : Ok19 (attrR 61) := ⟨rest_may.2.2.2.2, by decide, by decide, by decide, by decide⟩
def FQs (ls : List Sq) (n : Nat) (v : Value) (w : World) : Prop := ∃ A, v = .slice A n n ∧ RdQ w A ls
theorem fqs_ok (i : Nat) (d : Tmp) (ls : List Sq) (n : Nat) : (⟨i, d, FQs ls n⟩ : Fact).ok := fun _ _ _ ⟨A, e, h⟩ hb => ⟨A, e, h.below hb⟩
end Go.Proofs.YtfifeofmfpjgfaaDoor
