/-
  Stage 20, the landed caps, walked: Answer.
-/
import Derived.Test.YtkkjahhilcjpgaaDoorG31
namespace Go.Proofs.YtkkjahhilcjpgaaDoor
open Go.RowKit Go.Shelf
section
attribute [local go_sem] Oper.semAt_some
theorem one_prog (p : List UInt8) : oneC p = if (lookC (unhexV p)).isSome = true then some (pairC (unhexV p) (capV (unhexV p))) else none := by
 unfold oneC unhexV capV
 cases h : unhexL p with
 | none => rfl
 | some n =>
   simp only [Option.getD_some]
   cases hl : lookC n <;> rfl
theorem capV_len (n : List UInt8) : (capV n).length ≤ 7 := by
 unfold capV
 cases h : lookC n with
 | none => simp
 | some v =>
   unfold lookC at h
   obtain ⟨q, hq, rfl⟩ := Option.map_eq_some_iff.1 h
   exact (names_know q (List.mem_of_find?_eq_some hq)).2.2.2
theorem ansGo_snoc : ∀ {ps qs : List (List UInt8)} {p q : List UInt8}, ansGo ps = some qs → oneC p = some q → ansGo (ps ++ [p]) = some (qs ++ [q])
 | [], qs, p, q, h, hp => by
   obtain rfl : [] = qs := by simpa [ansGo] using h
   simp [ansGo, hp]
 | x :: ps, qs, p, q, h, hp => by
   simp only [ansGo] at h
   cases hx : oneC x with
   | none => rw [hx] at h; cases h
   | some y =>
     rw [hx] at h
     cases hr : ansGo ps with
     | none => rw [hr] at h; cases h
     | some ys =>
       rw [hr] at h
       obtain rfl : y :: ys = qs := by simpa using h
       simp [ansGo, hx, ansGo_snoc hr hp]
theorem ansGo_bad : ∀ {ps rs : List (List UInt8)} {p : List UInt8}, oneC p = none → ansGo (ps ++ p :: rs) = none
 | [], rs, p, hp => by simp [ansGo, hp]
 | x :: ps, rs, p, hp => by
   simp only [List.cons_append, ansGo, ansGo_bad hp]
   cases oneC x <;> rfl
theorem ansGo_pre : ∀ {ps rs qs : List (List UInt8)} {zs : List (List UInt8)}, ansGo ps = some qs → ansGo (ps ++ rs) = some zs → ∃ ys, zs = qs ++ ys
 | [], rs, qs, zs, h, hz => by
   obtain rfl : [] = qs := by simpa [ansGo] using h
   exact ⟨zs, rfl⟩
 | x :: ps, rs, qs, zs, h, hz => by
   simp only [ansGo, List.cons_append] at h hz
   cases hx : oneC x with
   | none => rw [hx] at h; cases h
   | some y =>
     rw [hx] at h hz
     cases hr : ansGo ps with
     | none => rw [hr] at h; cases h
     | some ys =>
       rw [hr] at h
       obtain rfl : y :: ys = qs := by simpa using h
       cases hs : ansGo (ps ++ rs) with
       | none => rw [hs] at hz; cases hz
       | some us =>
         rw [hs] at hz
         obtain rfl : y :: us = zs := by simpa using hz
         obtain ⟨vs, rfl⟩ := ansGo_pre hr hs
         exact ⟨vs, rfl⟩
theorem join_pre : ∀ (qs ys : List (List UInt8)), (joinC qs).length ≤ (joinC (qs ++ ys)).length
 | [], ys => by simp [joinC]
 | [q], ys => by
   cases ys with
   | nil => simp [joinC]
   | cons y ys => simp [joinC]
 | q :: r :: qs, ys => by
   have := join_pre (r :: qs) ys
   simp only [List.cons_append] at this
   simp only [List.cons_append, joinC, List.length_append, List.length_cons]
   omega
theorem join_add (qs : List (List UInt8)) (q : List UInt8) : joinC (qs ++ [q]) = if qs = [] then q else (joinC qs ++ [59]) ++ q := by
 split
 ·rename_i h
  subst h
  rfl
 ·rename_i h
  rw [join_snoc qs h q]
  simp
theorem join_nil {qs : List (List UInt8)} (h : ∀ q ∈ qs, q ≠ []) : joinC qs = [] ↔ qs = [] := by
 constructor
 ·intro he
  match qs, h, he with
  | [], _, _ => rfl
  | [q], h, he => exact absurd he (h q (by simp))
  | q :: r :: l, h, he => simp [joinC] at he
 ·rintro rfl
  rfl
theorem ans_ne {ps qs : List (List UInt8)} (h : ansGo ps = some qs) : ∀ q ∈ qs, q ≠ [] := fun q hq => by
 obtain ⟨n, v, rfl⟩ := (ans_some h).2 q hq
 unfold pairC
 simp
theorem ans_stop {data : List UInt8} {ps : List (List UInt8)} (hp : ps <+: splitC data) (h : (∃ qs p, ps = qs ++ [p] ∧ oneC p = none) ∨ ∃ qs, ansGo ps = some qs ∧ 4096 < (joinC qs).length) : ansS data = ⟨3, 0, [[0]], [43], 114, []⟩ := by
 obtain ⟨rs, hrs⟩ := hp
 have hn : ansD data = none := by
  unfold ansD
  rw [← hrs]
  rcases h with ⟨qs, p, rfl, h⟩ | ⟨qs, h, hl⟩
  ·rw [List.append_assoc, List.singleton_append, ansGo_bad h]
  ·cases hz : ansGo (ps ++ rs) with
   | none => rfl
   | some zs =>
     obtain ⟨ys, rfl⟩ := ansGo_pre h hz
     have := join_pre qs ys
     simp only
     rw [if_pos (by omega)]
 unfold ansS
 rw [hn]
 rfl
theorem ans_done {data : List UInt8} {qs : List (List UInt8)} (h : ansGo (splitC data) = some qs) (hl : (joinC qs).length ≤ 4096) : ansS data = ⟨3, 0, [[1]], [43], 114, joinC qs⟩ := by
 unfold ansS ansD
 rw [h]
 simp only
 rw [if_neg (by omega)]
 rfl
def RepN (s : Sq) (w : World) (e : Ending) (w' : World) : Prop := ∃ A c g, e = .returned (sqV s A c) ∧ RdPN g w' A s.params ∧ Below w.heap.size w w'
theorem Blk.set6 {w : World} {g : Nat} {t : TypeId} {a b c d e f : Value} (h : Blk w g t #[a, b, c, d, e, f]) (x0 x1 x2 x3 x4 x5 : Value) :
 Blk (((((((((((w.setCell ⟨g, 0, none⟩ (x0)).setCell ⟨g, 1, none⟩ (x1)).setCell ⟨g, 2, none⟩ (x2)).setCell ⟨g, 3, none⟩ (x3)).setCell ⟨g, 4, none⟩ (x4)).setCell ⟨g, 5, none⟩ (x5))) : World) : World) : World)) g t #[x0, x1, x2, x3, x4, x5] ∧ (∀ k, k ≠ g → (((((((w.setCell ⟨g, 0, none⟩ (x0)).setCell ⟨g, 1, none⟩ (x1)).setCell ⟨g, 2, none⟩ (x2)).setCell ⟨g, 3, none⟩ (x3)).setCell ⟨g, 4, none⟩ (x4)).setCell ⟨g, 5, none⟩ (x5))).heap[k]? = w.heap[k]?) ∧ (∀ B, B ≤ g → Below B w (((((((w.setCell ⟨g, 0, none⟩ (x0)).setCell ⟨g, 1, none⟩ (x1)).setCell ⟨g, 2, none⟩ (x2)).setCell ⟨g, 3, none⟩ (x3)).setCell ⟨g, 4, none⟩ (x4)).setCell ⟨g, 5, none⟩ (x5)))) := by
 refine ⟨?_, fun k hk => ?_, fun B hB => ?_⟩
 ·have := (((((h.set 0 x0).set 1 x1).set 2 x2).set 3 x3).set 4 x4).set 5 x5
  simpa using this
 ·exact (heap_setCell_other _ ⟨g, 5, none⟩ k x5 hk).trans ((heap_setCell_other _ ⟨g, 4, none⟩ k x4 hk).trans ((heap_setCell_other _ ⟨g, 3, none⟩ k x3 hk).trans ((heap_setCell_other _ ⟨g, 2, none⟩ k x2 hk).trans ((heap_setCell_other _ ⟨g, 1, none⟩ k x1 hk).trans (heap_setCell_other _ ⟨g, 0, none⟩ k x0 hk)))))
 ·exact ((((((Below.refl B w).setCell (p := ⟨g, 0, none⟩) hB x0).setCell (p := ⟨g, 1, none⟩) hB x1).setCell (p := ⟨g, 2, none⟩) hB x2).setCell (p := ⟨g, 3, none⟩) hB x3).setCell (p := ⟨g, 4, none⟩) hB x4).setCell (p := ⟨g, 5, none⟩) hB x5
set_option maxRecDepth 100000 in
set_option maxHeartbeats 16000000 in
theorem preplyN_any (h : Int) (d : List UInt8) (w : World) : Calls Tryd.prog 24 #[.int .i64 h, .string ⟨d.toArray⟩] w (RepN (⟨3, 0, [[h]], [43], 114, d⟩ : Sq) w) := by
 have hB := (((Below.refl w.heap.size w).alloc (Nat.le_refl _) (.cells #[.int .i64 3, .int .u8 0, .slice (some ⟨w.heap.size + 1 + 1, 0, none⟩) 1 1, .string ⟨#[43]⟩, .int .u8 114, .string ⟨d.toArray⟩] 28)).alloc (by simp) (.cells #[.int .i64 h] 3)).alloc (by simp; omega) (.cells #[.slice (some ⟨w.heap.size + 1, 0, none⟩) 1 1] 45)
 have hr := rdpn_lit (w.alloc (.cells #[.int .i64 3, .int .u8 0, .slice (some ⟨w.heap.size + 1 + 1, 0, none⟩) 1 1, .string ⟨#[43]⟩, .int .u8 114, .string ⟨d.toArray⟩] 28)) h
 simp only [World.size_alloc] at hr
 go_enter Tryd.func24, Tryd.ntmps24
 go_wp2_with fail
 refine bodyPost_ret (v := .agg #[.int .i64 3, .int .u8 0, .slice (some ⟨w.heap.size + 1 + 1, 0, none⟩) 1 1, .string ⟨#[43]⟩, .int .u8 114, .string ⟨d.toArray⟩]) (by simp [results, Tryd.results24, go_sem]) rfl ⟨_, _, _, rfl, hr, hB⟩
theorem RdPN.noCells {g : Nat} {w w' : World} {A : Option Addr} {ps : List (List Int)} {row : Option Nat} (h : RdPN g w A ps) (hg : w.grownBy w' row) (hr : ∀ r, row = some r → ∃ o : Obj, w.heap[r]? = some o ∧ o.isCells = false) : RdPN g w' A ps :=
 h.keep fun k _ ⟨cur, fz, hh⟩ => hg.block k (by rcases hh with hh | hh <;> exact (Array.getElem?_eq_some_iff.1 hh).1) (fun e => by
  obtain ⟨o, ho, hc⟩ := hr k e.symm
  rcases hh with hh | hh <;> · rw [hh] at ho; cases ho; cases hc)
set_option maxRecDepth 100000 in
set_option maxHeartbeats 16000000 in
theorem pAnswer20_any (t : List UInt8) (ht : t.length ≤ 1000000) (w : World) : Calls Tryd.prog 12 #[.string ⟨t.toArray⟩] w (RepE (ansS t) w) := by
 have HFG : Hid (∀ (n v T : List UInt8) (W : World), n.length ≤ 4294967296 → v.length ≤ 4294967296 → pairC n v = T → Calls Tryd.prog 23 #[.agg #[.string ⟨n.toArray⟩, .string ⟨v.toArray⟩]] W fun e w' => e = .returned (.string ⟨T.toArray⟩) ∧ Below W.heap.size W w') := Lib.hid fun n v T W a b c => pfig20_any n v T a b c W
 have HRP := Lib.hid (fun (h : Int) (d : List UInt8) (W : World) => preplyN_any h d W)
 obtain ⟨R, hR⟩ : ∃ R, ansS t = R := ⟨_, rfl⟩
 have HR := Lib.hid hR
 rw [hR]
 clear hR
 have z0 := (Blk.new w 28 #[.int .i64 0, .int .u8 0, .slice none 0 0, .string ⟨#[]⟩, .int .u8 0, .string ⟨#[]⟩]).alloc (.cells #[.string ⟨#[]⟩] 9)
 have t0 := Blk.new (w.alloc (.cells #[.int .i64 0, .int .u8 0, .slice none 0 0, .string ⟨#[]⟩, .int .u8 0, .string ⟨#[]⟩] 28)) 9 #[.string ⟨#[]⟩]
 simp only [World.size_alloc] at t0
 have hB := ((Below.refl w.heap.size w).alloc (Nat.le_refl _) (.cells #[.int .i64 0, .int .u8 0, .slice none 0 0, .string ⟨#[]⟩, .int .u8 0, .string ⟨#[]⟩] 28)).alloc (by simp) (.cells #[.string ⟨#[]⟩] 9)
 refine (callsIn_wide (n := 5)).1 ?_
 refine callsIn_of_wp_marks Tryd.func12 rfl trivial ?_ rfl
 simp only [Tryd.ntmps12, List.size_toArray, List.length_cons, List.length_nil, Nat.reduceAdd, Nat.reduceSub, Array.replicate_succ, Array.replicate_zero, List.push_toArray, List.append_toArray, List.nil_append, List.cons_append]
 gi_wp2_with fail
 obtain ⟨w1, hw1⟩ : ∃ x, (w.alloc (.cells #[.int .i64 0, .int .u8 0, .slice none 0 0, .string ⟨#[]⟩, .int .u8 0, .string ⟨#[]⟩] 28)).alloc (.cells #[.string ⟨#[]⟩] 9) = x := ⟨_, rfl⟩
 have s1 : w.heap.size + 2 = w1.heap.size := by rw [← hw1]; simp
 rw [hw1] at z0 t0 hB ⊢
 have HS1 := Lib.hid s1
 clear hw1 s1
 refine ⟨trivial, ?_⟩
 gi_at_call 22
 refine (callsIn_wide.2 (pasked_any t _)).mono ?_
 rintro e w5 ⟨rfl, hw5⟩
 have k5 := Blk.new w1 9 #[.string ⟨t.toArray⟩]
 replace z0 := z0.alloc (.cells #[.string ⟨t.toArray⟩] 9)
 replace t0 := t0.alloc (.cells #[.string ⟨t.toArray⟩] 9)
 replace hB := hB.alloc hB.size (.cells #[.string ⟨t.toArray⟩] 9)
 have s5 : w5.heap.size = w1.heap.size + 1 := by rw [hw5]; simp
 rw [← hw5] at k5 z0 t0 hB
 have HS5 := Lib.hid s5
 clear hw5 s5
 gi_wp2_with fail
 have s5 := HS5.out
 have s1 := HS1.out
 have hab : ∀ {β : Type} (g0 : Nat) (t0 : TypeId) (f0 : Array Value), g0 < w5.heap.size → AbX (fun r => w5.heap.size + 2 ≤ r ∨ r = w5.heap.size + 1) (fun (_ : β) W => Blk W g0 t0 f0) := fun g0 t0 f0 hlt s A B row hs hg hr => hs.grown hg (fun e => by rcases hr _ e with h | h <;> omega)
 refine wpIn_rangeX rfl (by omega) (gf := 38) (lb := #[.pointer (some ⟨w1.heap.size, 0, none⟩)]) rfl trivial (enters_of Tryd.func38 (by kernel_rfl) rfl)
  (ask_seq w1.heap.size t ht w5 k5) kpn_t (fun W o => kpn_put W (by omega) o) (Below.refl _ _) (fun _ => rfl)
  (fun r => w5.heap.size + 2 ≤ r) (fun r h => by omega) (fun W r hz h => by omega)
  (fun (pre : List (SpT t)) W => (∃ qs, ansGo (pre.map SpT.v) = some qs ∧ (joinC qs).length ≤ 4096 ∧ Blk W (w.heap.size + 1) 9 #[.string ⟨(joinC qs).toArray⟩]) ∧ Blk W w.heap.size 28 #[.int .i64 0, .int .u8 0, .slice none 0 0, .string ⟨#[]⟩, .int .u8 0, .string ⟨#[]⟩] ∧ Below w.heap.size w W)
  (fun j (pre : List (SpT t)) W => (j = .ret ∧ ((∃ ps p, pre.map SpT.v = ps ++ [p] ∧ oneC p = none) ∨ ∃ qs, ansGo (pre.map SpT.v) = some qs ∧ 4096 < (joinC qs).length)) ∧ (∃ A c g, Blk W w.heap.size 28 #[.int .i64 3, .int .u8 0, .slice A 1 c, .string ⟨#[43]⟩, .int .u8 114, .string ⟨#[]⟩] ∧ RdPN g W A [[0]]) ∧ Below w.heap.size w W)
  ?hI ?hIx ?h0 (fun x a' W => ∃ g, w5.heap.size + 1 < g ∧ Blk W g 41 #[.string ⟨(unhexV x.v).toArray⟩, .string ⟨(capV (unhexV x.v)).toArray⟩] ∧ a' = ⟨#[.string ⟨t.toArray⟩, undef, .pointer (some ⟨w.heap.size, 0, none⟩), .pointer (some ⟨w.heap.size + 1, 0, none⟩), .pointer (some ⟨g, 0, none⟩), .bool (lookC (unhexV x.v)).isSome, .string ⟨t.toArray⟩, .func (.func 38) #[] #[.pointer (some ⟨w1.heap.size, 0, none⟩)], .agg #[.string ⟨(unhexV x.v).toArray⟩, .string ⟨(capV (unhexV x.v)).toArray⟩], .bool (lookC (unhexV x.v)).isSome, undef, undef, undef, undef, undef, undef, undef, undef, undef, undef, undef, undef, undef, undef, undef, undef, undef, undef], []⟩) ?hAx ?assign ?body ?done ?stop
 case hI =>
  rintro pre A B row ⟨⟨qs, h1, h2, h3⟩, h5, h7⟩ hg hr
  exact ⟨⟨qs, h1, h2, hab (β := Unit) _ _ _ (by omega) () A B row h3 hg hr⟩, hab (β := Unit) _ _ _ (by omega) () A B row h5 hg hr, h7.grown hg h7.size (fun k e => by rcases hr _ e with h | h <;> omega)⟩
 case hIx =>
  rintro j pre A B row ⟨h1, ⟨A2, c2, g2, h5, h6⟩, h7⟩ hg hr
  exact ⟨h1, ⟨A2, c2, g2, h5.grown hg (fun e => by obtain ⟨_, o, ho, hc⟩ := hr _ e; rw [show A.heap[_]? = _ from h5] at ho; cases ho; cases hc), h6.noCells hg (fun r e => (hr r e).2)⟩, h7.grown hg h7.size (fun k e => by have := (hr k e).1; omega)⟩
 case h0 => exact ⟨⟨[], rfl, by simp [joinC], t0⟩, z0, hB⟩
 case hAx =>
  rintro x a' _ A B row ⟨g, h1, h2, h3⟩ hg hr
  exact ⟨g, h1, h2.grown hg (fun e => by have := hr _ e; omega), h3⟩
 case assign =>
  intro l pre x W K hlt hi hK
  simp only [askE]
  clear s1 s5
  have kg := Blk.new W 41 #[.string ⟨(unhexV x.v).toArray⟩, .string ⟨(capV (unhexV x.v)).toArray⟩]
  have hbw := (Below.refl W.heap.size W).alloc (Nat.le_refl _) (.cells #[.string ⟨(unhexV x.v).toArray⟩, .string ⟨(capV (unhexV x.v)).toArray⟩] 41)
  gi_wp2_with fail
  refine hK _ _ (Kr.below hbw hlt) (kpn_below hbw) ⟨?_, ?_, ?_⟩ ⟨W.heap.size, hlt, kg, rfl⟩
  ·obtain ⟨⟨qs, h1, h2, h3⟩, h5, h7⟩ := hi
   exact ⟨qs, h1, h2, h3.alloc _⟩
  ·exact hi.2.1.alloc _
  ·exact hi.2.2.alloc hi.2.2.size _
 case body =>
  rintro l pre x a' W hlt ⟨⟨qs, hqs, hql, h4⟩, h2, hBW⟩ ⟨g, hg, h3, rfl⟩ hlen
  have c4 := h4.cell 0
  have f4 := h4.frozen 0
  have hone := one_prog x.v
  have hul := unhexV_len x.v
  have hxl := split_len x.h
  have hvl := capV_len (unhexV x.v)
  have hmx : Tryd.prog.follows .mixedOrders = true := by kernel_rfl
  obtain ⟨D, hD⟩ : ∃ D, (if qs = [] then [] else joinC qs ++ [59]) = D := ⟨_, rfl⟩
  have hjoin : ∀ q, joinC (qs ++ [q]) = D ++ q := fun q => by
   rw [join_add, ← hD]
   split <;> simp
  have hqe := join_nil (ans_ne hqs)
  obtain ⟨T, hT⟩ : ∃ T, pairC (unhexV x.v) (capV (unhexV x.v)) = T := ⟨_, rfl⟩
  rw [hT] at hone
  have hcat1 : ∀ W, (Op.stringOp .add ⟨(joinC qs).toArray⟩ ⟨#[59]⟩).run Tryd.prog W = .ok (.string ⟨(joinC qs ++ [59]).toArray⟩) W := fun W => cat20 (M := [59]) (by simp; omega) W
  have hTl : T.length = 2 * (unhexV x.v).length + 1 + 2 * (capV (unhexV x.v)).length := by rw [← hT]; unfold pairC; simp [hexL_length]; omega
  have hDl : D.length ≤ 4097 := by rw [← hD]; split <;> simp; omega
  have hcat2 : ∀ W, (Op.stringOp .add ⟨D.toArray⟩ ⟨T.toArray⟩).run Tryd.prog W = .ok (.string ⟨(D ++ T).toArray⟩) W := fun W => cat20 (by omega) W
  have HN := Lib.hid (show w.heap.size + 1 < w5.heap.size ∧ w.heap.size + 1 ≠ g ∧ w.heap.size ≠ w.heap.size + 1 by omega)
  have HL := Lib.hid (show (unhexV x.v).length ≤ 4294967296 ∧ (capV (unhexV x.v)).length ≤ 4294967296 by omega)
  have HLT := Lib.hid hlt
  have HJ := Lib.hid hjoin
  have HQ := Lib.hid hql
  clear hlt hjoin hql hul hxl hvl hlen hTl hDl
  clear s1 s5
  gi_upto_if 11 with fail
  gi_cut [11] from 28 (fun _ W' => Kr w5.heap.size W W' ∧ KpN (w5.heap.size + 2) W W' ∧ Blk W' (w.heap.size + 1) 9 #[.string ⟨D.toArray⟩] ∧ Blk W' g 41 #[.string ⟨(unhexV x.v).toArray⟩, .string ⟨(capV (unhexV x.v)).toArray⟩] ∧ Blk W' w.heap.size 28 #[.int .i64 0, .int .u8 0, .slice none 0 0, .string ⟨#[]⟩, .int .u8 0, .string ⟨#[]⟩] ∧ Below w.heap.size w W' ∧ W.heap.size ≤ W'.heap.size)
  case first =>
   by_cases hq0 : qs = []
   ·subst hq0
    obtain rfl : [] = D := by simpa using hD
    simp only [joinC, List.isEmpty_nil]
    gi_wp2_with fail
    gi_meet
    case rel => exact ⟨Kr.refl _ _, kpn_below (Below.refl _ _), h4, h3, h2, hBW, Nat.le_refl _⟩
   ·obtain rfl : joinC qs ++ [59] = D := by simpa [hq0] using hD
    have he : (joinC qs).isEmpty = false := by
     cases hj : joinC qs with
     | nil => exact absurd (hqe.1 hj) hq0
     | cons => rfl
    simp only [he]
    gi_wp2_with fail
    gi_meet
    case rel => exact ⟨Kr.set W (p := ⟨w.heap.size + 1, 0, none⟩) HN.out.1 _, ⟨by simp, fun k h1 _ => heap_setCell_other _ ⟨w.heap.size + 1, 0, none⟩ k _ (show k ≠ w.heap.size + 1 by have := HN.out.1; omega)⟩, h4.set 0 _, h3.far (a := ⟨w.heap.size + 1, 0, none⟩) (show g ≠ w.heap.size + 1 from fun e => HN.out.2.1 e.symm) _, h2.far (a := ⟨w.heap.size + 1, 0, none⟩) HN.out.2.2 _, hBW.setCell (p := ⟨w.heap.size + 1, 0, none⟩) (Nat.le_succ _) _, by simp⟩
  obtain ⟨hk1, hp1, p4, p3, p2, hB1, hz1⟩ := hcut
  have HLW := Lib.hid (show w5.heap.size + 1 < wc.heap.size from Nat.lt_of_lt_of_le HLT.out hz1)
  clear hz1
  have d4 := p4.cell 0
  have e4 := p4.frozen 0
  have d3 := p3.cell 0
  have d31 := p3.cell 1
  have HL4 := Lib.hid (show w.heap.size + 1 < wc.drew.heap.size from p4.lt)
  have q4 : Blk wc.drew (w.heap.size + 1) 9 #[.string ⟨D.toArray⟩] := p4
  have q2 : Blk wc.drew w.heap.size 28 #[.int .i64 0, .int .u8 0, .slice none 0 0, .string ⟨#[]⟩, .int .u8 0, .string ⟨#[]⟩] := p2
  clear h4 h3 h2 hBW c4 f4 hcat1
  gi_upto_region 7 with fail
  gi_cut [] from 28 (fun W' => Kr w5.heap.size wc W' ∧ KpN (w5.heap.size + 2) wc W' ∧ Blk W' (w.heap.size + 1) 9 #[.string ⟨(D ++ T).toArray⟩] ∧ Blk W' w.heap.size 28 #[.int .i64 0, .int .u8 0, .slice none 0 0, .string ⟨#[]⟩, .int .u8 0, .string ⟨#[]⟩] ∧ Below w.heap.size w W')
  case first =>
   gi_region_with_o (refine ⟨trivial, ?_⟩; gi_at_call 23; refine (CallsIn.inRound l (callsIn_wide.2 (HFG.out _ _ T _ HL.out.1 HL.out.2 hT))).mono ?_; rintro e w7 ⟨rfl, hb7⟩; have d7 := (q4.below hb7 HL4.out).cell 0; have f7 := (q4.below hb7 HL4.out).frozen 0)
   all_goals gi_wp2
   all_goals gi_meet
   all_goals exact ⟨(show Kr w5.heap.size wc w7 from Kr.below (A := wc.drew) hb7 HLW.out).trans (Kr.set w7 (p := ⟨w.heap.size + 1, 0, none⟩) HN.out.1 _), kpn_t (show KpN (w5.heap.size + 2) wc w7 from kpn_below (A := wc.drew) hb7) ⟨by simp, fun k h1 _ => heap_setCell_other _ ⟨w.heap.size + 1, 0, none⟩ k _ (show k ≠ w.heap.size + 1 by have := HN.out.1; omega)⟩, (q4.below hb7 HL4.out).set 0 _, (q2.below hb7 (Nat.lt_trans (Nat.lt_succ_self _) HL4.out)).far (a := ⟨w.heap.size + 1, 0, none⟩) HN.out.2.2 _, ((show Below w.heap.size w wc.drew from hB1.drew).trans (hb7.mono (show w.heap.size ≤ wc.drew.heap.size from hB1.size))).setCell (p := ⟨w.heap.size + 1, 0, none⟩) (Nat.le_succ _) _⟩
  clear q4 q2 p4 p3 p2 d4 e4 d3 d31 hcat2 HL4
  obtain ⟨hk2, hp2, p4, p2, hB2⟩ := hcut
  have hk3 := hk1.trans hk2
  have hp3 := kpn_t hp1 hp2
  have HLX := Lib.hid (show w5.heap.size + 1 < wc.heap.size by have := HLW.out; have := hp2.1; omega)
  obtain ⟨b, hb⟩ : ∃ b, (lookC (unhexV x.v)).isSome = b := ⟨_, rfl⟩
  obtain ⟨L, hL⟩ : ∃ L, D ++ T = L := ⟨_, rfl⟩
  rw [hb] at hone ⊢
  rw [hL] at p4
  have HJL : Hid (b = true → ansGo ((pre ++ [x]).map SpT.v) = some (qs ++ [T]) ∧ joinC (qs ++ [T]) = L) := Lib.hid (fun e => by
   rw [e, if_pos rfl] at hone
   rw [List.map_append]
   exact ⟨ansGo_snoc hqs hone, (HJ.out T).trans hL⟩)
  have HJN : Hid (b = false → oneC x.v = none) := Lib.hid (fun e => by
   rw [e] at hone
   simpa using hone)
  clear hb hone hk1 hk2 hp1 hp2 hB1 hL hqs hqe
  have c4 := p4.cell 0
  gi_upto_region 8 with fail
  gi_cut [24] from 28 (fun v W' => W' = wc ∧ v = .bool (!b || decide (4096 < L.length)))
  case first =>
   cases b with
   | false =>
     gi_wp2_with fail
     gi_meet
     case rel => exact ⟨rfl, rfl⟩
   | true =>
     gi_wp2_with fail
     gi_meet
     case rel => exact ⟨rfl, by simp; omega⟩
  obtain ⟨rfl, rfl⟩ := hcut
  obtain ⟨q, hq⟩ : ∃ q, (!b || decide (4096 < L.length)) = q := ⟨_, rfl⟩
  rw [hq]
  cases q with
  | false =>
    gi_wp2_with fail
    have hbt : b = true ∧ L.length ≤ 4096 := by
     cases b <;> simp at hq ⊢
     omega
    obtain ⟨e1, e2⟩ := HJL.out hbt.1
    exact ⟨hk3, hp3, ⟨qs ++ [T], e1, by rw [e2]; exact hbt.2, by rw [e2]; exact p4⟩, p2, hB2⟩
  | true =>
    have HQS := Lib.hid hq
    clear hq c4
    gi_wp2_with fail
    refine ⟨trivial, ?_⟩
    gi_at_call 24
    refine (CallsIn.inRound l (callsIn_wide.2 (HRP.out 0 [] _))).mono ?_
    rintro e w7 ⟨A7, c7, g7, rfl, hr7, hb7⟩
    have k2 := p2.below hb7 p2.lt
    have hB7 := hB2.trans (hb7.mono hB2.size)
    have hk7 := hk3.trans (Kr.below hb7 HLX.out)
    have hp7 := kpn_t hp3 (kpn_below hb7)
    clear hb7 p4 p2 hB2
    unfold sqV
    simp only [List.length_cons, List.length_nil, Nat.reduceAdd]
    have x0 := k2.cell 0
    have fx0 := k2.frozen 0
    have x1 := k2.cell 1
    have fx1 := k2.frozen 1
    have x2 := k2.cell 2
    have fx2 := k2.frozen 2
    have x3 := k2.cell 3
    have fx3 := k2.frozen 3
    have x4 := k2.cell 4
    have fx4 := k2.frozen 4
    have x5 := k2.cell 5
    have fx5 := k2.frozen 5
    obtain ⟨y1, y2, y3⟩ := k2.set6 (.int .i64 3) (.int .u8 0) (.slice A7 1 c7) (.string ⟨#[43]⟩) (.int .u8 114) (.string ⟨#[]⟩)
    have hr9 := hr7.other k2 (by decide) (by decide) (w' := ((((((w7.setCell ⟨w.heap.size, 0, none⟩ (.int .i64 3)).setCell ⟨w.heap.size, 1, none⟩ (.int .u8 0)).setCell ⟨w.heap.size, 2, none⟩ (.slice A7 1 c7)).setCell ⟨w.heap.size, 3, none⟩ (.string ⟨#[43]⟩)).setCell ⟨w.heap.size, 4, none⟩ (.int .u8 114)).setCell ⟨w.heap.size, 5, none⟩ (.string ⟨#[]⟩))) ⟨(y3 0 (Nat.zero_le _)).os, (y3 0 (Nat.zero_le _)).tape, (y3 0 (Nat.zero_le _)).output, (y3 0 (Nat.zero_le _)).size, fun k hk he => y2 k (fun e => he (by rw [e]))⟩
    have hB9 := hB7.trans (y3 _ (Nat.le_refl _))
    have hk9 : Kr w5.heap.size w7 ((((((w7.setCell ⟨w.heap.size, 0, none⟩ (.int .i64 3)).setCell ⟨w.heap.size, 1, none⟩ (.int .u8 0)).setCell ⟨w.heap.size, 2, none⟩ (.slice A7 1 c7)).setCell ⟨w.heap.size, 3, none⟩ (.string ⟨#[43]⟩)).setCell ⟨w.heap.size, 4, none⟩ (.int .u8 114)).setCell ⟨w.heap.size, 5, none⟩ (.string ⟨#[]⟩)) := ⟨y2 _ (by have := HN.out.1; omega), y2 _ (by have := HN.out.1; omega)⟩
    have hp9 : KpN (w5.heap.size + 2) w7 ((((((w7.setCell ⟨w.heap.size, 0, none⟩ (.int .i64 3)).setCell ⟨w.heap.size, 1, none⟩ (.int .u8 0)).setCell ⟨w.heap.size, 2, none⟩ (.slice A7 1 c7)).setCell ⟨w.heap.size, 3, none⟩ (.string ⟨#[43]⟩)).setCell ⟨w.heap.size, 4, none⟩ (.int .u8 114)).setCell ⟨w.heap.size, 5, none⟩ (.string ⟨#[]⟩)) := ⟨(y3 0 (Nat.zero_le _)).size, fun k h1 _ => y2 k (by have := HN.out.1; omega)⟩
    clear y2 y3
    gi_wp2_with fail
    refine ⟨hk7.trans hk9, kpn_t hp7 hp9, ⟨rfl, ?_⟩, ⟨A7, ⟨c7, y1⟩, g7, hr9⟩, hB9⟩
    cases b with
    | false => exact .inl ⟨pre.map SpT.v, x.v, by simp, HJN.out rfl⟩
    | true =>
      obtain ⟨e1, e2⟩ := HJL.out rfl
      exact .inr ⟨_, e1, by rw [e2]; simpa using HQS.out⟩
 case done =>
  rintro ys W hys ⟨⟨qs, hqs, hql, h4⟩, h2, hBW⟩ hK
  have HE : Hid (R = ⟨3, 0, [[1]], [43], 114, joinC qs⟩) := Lib.hid (by rw [← HR.out]; rw [hys] at hqs; exact ans_done hqs hql)
  have c4 := h4.cell 0
  have HN := Lib.hid (show w.heap.size < w5.heap.size by omega)
  clear s1 s5
  gi_wp2_with fail
  refine ⟨trivial, ?_⟩
  gi_at_call 24
  refine (callsIn_wide.2 (HRP.out 1 (joinC qs) _)).mono ?_
  rintro e w7 ⟨A7, c7, g7, rfl, hr7, hb7⟩
  have k2 := h2.below hb7 h2.lt
  have hK7 := (hb7.block w5.heap.size (Array.getElem?_eq_some_iff.1 hK).1).trans hK
  have hB7 := hBW.trans (hb7.mono hBW.size)
  clear hb7 h4 h2 hBW hK c4
  unfold sqV
  simp only [List.length_cons, List.length_nil, Nat.reduceAdd]
  have x0 := k2.cell 0
  have fx0 := k2.frozen 0
  have x1 := k2.cell 1
  have fx1 := k2.frozen 1
  have x2 := k2.cell 2
  have fx2 := k2.frozen 2
  have x3 := k2.cell 3
  have fx3 := k2.frozen 3
  have x4 := k2.cell 4
  have fx4 := k2.frozen 4
  have x5 := k2.cell 5
  have fx5 := k2.frozen 5
  obtain ⟨y1, y2, y3⟩ := k2.set6 (.int .i64 3) (.int .u8 0) (.slice A7 1 c7) (.string ⟨#[43]⟩) (.int .u8 114) (.string ⟨(joinC qs).toArray⟩)
  have hr9 := hr7.other k2 (by decide) (by decide) (w' := ((((((w7.setCell ⟨w.heap.size, 0, none⟩ (.int .i64 3)).setCell ⟨w.heap.size, 1, none⟩ (.int .u8 0)).setCell ⟨w.heap.size, 2, none⟩ (.slice A7 1 c7)).setCell ⟨w.heap.size, 3, none⟩ (.string ⟨#[43]⟩)).setCell ⟨w.heap.size, 4, none⟩ (.int .u8 114)).setCell ⟨w.heap.size, 5, none⟩ (.string ⟨(joinC qs).toArray⟩))) ⟨(y3 0 (Nat.zero_le _)).os, (y3 0 (Nat.zero_le _)).tape, (y3 0 (Nat.zero_le _)).output, (y3 0 (Nat.zero_le _)).size, fun k hk he => y2 k (fun e => he (by rw [e]))⟩
  have hK9 := (y2 w5.heap.size (by have := HN.out; omega)).trans hK7
  have hB9 := hB7.trans (y3 _ (Nat.le_refl _))
  clear y2 y3
  gi_wp2_with fail
  obtain ⟨Wz, hWz⟩ : ∃ x, ((((((w7.setCell ⟨w.heap.size, 0, none⟩ (.int .i64 3)).setCell ⟨w.heap.size, 1, none⟩ (.int .u8 0)).setCell ⟨w.heap.size, 2, none⟩ (.slice A7 1 c7)).setCell ⟨w.heap.size, 3, none⟩ (.string ⟨#[43]⟩)).setCell ⟨w.heap.size, 4, none⟩ (.int .u8 114)).setCell ⟨w.heap.size, 5, none⟩ (.string ⟨(joinC qs).toArray⟩)) = x := ⟨_, rfl⟩
  rw [hWz] at y1 hr9 hK9 hB9 ⊢
  refine ⟨by simp, .inl ⟨_, _, rfl, run_takeDeferred hK9, ?_⟩⟩
  have p2 : Blk (Wz.putObj w5.heap.size (.deferred none)) w.heap.size 28 #[.int .i64 3, .int .u8 0, .slice A7 1 c7, .string ⟨#[43]⟩, .int .u8 114, .string ⟨(joinC qs).toArray⟩] := (World.putObj_heap_other (by have := HN.out; omega)).trans y1
  have hr10 := hr9.noCells (grownBy_putObj' Wz w5.heap.size (.deferred none)) (fun r e => by cases e; exact ⟨_, hK9, rfl⟩)
  have u0 := p2.cell 0
  have u1 := p2.cell 1
  have u2 := p2.cell 2
  have u3 := p2.cell 3
  have u4 := p2.cell 4
  have u5 := p2.cell 5
  rw [HE.out]
  refine ⟨_, ?_, A7, c7, rfl, hr10.rdp, hB9.trans (belowK_b (w := w) (Nat.le_refl _) Wz w5.heap.size _ _ (Nat.le_of_lt HN.out) hK9 rfl rfl)⟩
  simp [results, Tryd.f12, sqV, go_sem, u0, u1, u2, u3, u4, u5]
 case stop =>
  rintro j pre W hpre ⟨⟨rfl, hps⟩, ⟨A7, c7, g2, h2, h3⟩, hBW⟩ hK
  have HE : Hid (R = ⟨3, 0, [[0]], [43], 114, []⟩) := Lib.hid (by rw [← HR.out]; exact ans_stop hpre hps)
  have HN := Lib.hid (show w.heap.size < w5.heap.size by omega)
  clear s1 s5
  gi_wp2
  refine ⟨by simp, .inl ⟨_, _, rfl, run_takeDeferred hK, ?_⟩⟩
  have p2 : Blk (W.putObj w5.heap.size (.deferred none)) w.heap.size 28 #[.int .i64 3, .int .u8 0, .slice A7 1 c7, .string ⟨#[43]⟩, .int .u8 114, .string ⟨#[]⟩] := (World.putObj_heap_other (by have := HN.out; omega)).trans h2
  have hr10 := h3.noCells (grownBy_putObj' W w5.heap.size (.deferred none)) (fun r e => by cases e; exact ⟨_, hK, rfl⟩)
  have u0 := p2.cell 0
  have u1 := p2.cell 1
  have u2 := p2.cell 2
  have u3 := p2.cell 3
  have u4 := p2.cell 4
  have u5 := p2.cell 5
  rw [HE.out]
  refine ⟨_, ?_, A7, c7, rfl, hr10.rdp, hBW.trans (belowK_b (w := w) (Nat.le_refl _) W w5.heap.size _ _ (Nat.le_of_lt HN.out) hK rfl rfl)⟩
  simp [results, Tryd.f12, sqV, go_sem, u0, u1, u2, u3, u4, u5]
end
end Go.Proofs.YtkkjahhilcjpgaaDoor
