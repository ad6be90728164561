/-
  Stage 20, the landed caps, walked: asked, for every loop that ranges over it.
-/
import Derived.Test.YtkkjahhilcjpgaaDoorG30
namespace Go.Proofs.YtkkjahhilcjpgaaDoor
open Go.RowKit Go.Shelf
section
attribute [local go_sem] Oper.semAt_some
def askE {t : List UInt8} (x : SpT t) : Array Value := #[.agg #[.string ⟨(unhexV x.v).toArray⟩, .string ⟨(capV (unhexV x.v)).toArray⟩], .bool (lookC (unhexV x.v)).isSome]
def KpN (N : Nat) (A C : World) : Prop := A.heap.size ≤ C.heap.size ∧ ∀ k, N ≤ k → k < A.heap.size → C.heap[k]? = A.heap[k]?
theorem kpn_t {N : Nat} {A C D : World} (h : KpN N A C) (k : KpN N C D) : KpN N A D := ⟨Nat.le_trans h.1 k.1, fun i h1 h2 => (k.2 i h1 (Nat.lt_of_lt_of_le h2 h.1)).trans (h.2 i h1 h2)⟩
theorem kpn_put {N : Nat} (W : World) {l : Nat} (hl : l < N) (o : Obj) : KpN N W (W.putObj l o) := ⟨by simp, fun k h1 _ => World.putObj_heap_other (by omega)⟩
theorem kpn_below {N : Nat} {A C : World} (h : Below A.heap.size A C) : KpN N A C := ⟨h.size, fun k _ h2 => h.block k h2⟩
theorem round_wide {P : Program} {m m' l l' : Nat} {f : FuncId} {tmps : Array Value} {asg body : Code} {w : World} {R : Ending → World → Prop} (h : RoundIn Fence.wide m P l f tmps asg body w R) : RoundIn (Fence.wide.inRound l') m' P l f tmps asg body w R :=
 ⟨h.1, fun c cs _ => h.2 c cs (room_wide _)⟩
theorem pasked_any (s : List UInt8) (w : World) : Calls Tryd.prog 22 #[.string ⟨s.toArray⟩] w fun e w' => e = .returned (.func (.func 38) #[] #[.pointer (some ⟨w.heap.size, 0, none⟩)]) ∧ w' = w.alloc (.cells #[.string ⟨s.toArray⟩] 9) := by
 have hmf : ∀ (fn : Fn) (first cap : Array Value) (w : World), (Instr.makeFunc fn first cap).run Tryd.prog w = .ok (.func fn first cap) w := fun _ _ _ _ => rfl
 go_enter Tryd.func22, Tryd.ntmps22
 go_wp2_with fail
 go_ret
 exact ⟨rfl, rfl⟩
set_option maxRecDepth 100000 in
set_option maxHeartbeats 16000000 in
theorem ask1_in (l B N0 : Nat) (t : List UInt8) (ht : t.length ≤ 1000000) (W0 : World) (hN0 : N0 ≤ W0.heap.size) (J Jx : List (SpT t) → World → Prop) (hJ : AbX (fun r => W0.heap.size ≤ r) J) (hJx : OwnFrom W0.heap.size Jx)
 (hY : ∀ pre (x : SpT t) W, J pre W → pre.length < (splitC t).length → YieldAt Fence.wide 3 Tryd.prog l (askE x) W fun e W' =>
   (e = .returned (.bool true) ∧ J (pre ++ [x]) W' ∧ KpN N0 W W') ∨ (e = .returned (.bool false) ∧ Jx (pre ++ [x]) W' ∧ KpN N0 W W'))
 (hs : Blk W0 B 9 #[.string ⟨t.toArray⟩]) (h0 : J [] W0) :
 CallsIn Fence.wide 4 Tryd.prog 38 #[.func (.yield l) #[] #[], .pointer (some ⟨B, 0, none⟩)] W0 fun e W' => (∃ v, e = .returned v) ∧
  ((∃ ys : List (SpT t), ys.map SpT.v = splitC t ∧ J ys W') ∨ (∃ pre : List (SpT t), pre.map SpT.v <+: splitC t ∧ Jx pre W')) := by
 refine callsIn_of_wp_marks Tryd.func38 rfl trivial ?_ rfl
 simp only [Tryd.ntmps38, List.size_toArray, List.length_cons, List.length_nil, Nat.reduceAdd, Nat.reduceSub, Array.replicate_succ, Array.replicate_zero, List.push_toArray, List.append_toArray, List.nil_append, List.cons_append]
 have kY := Blk.new W0 75 #[.func (.yield l) #[] #[]]
 have hB1 := (Below.refl W0.heap.size W0).alloc (Nat.le_refl _) (.cells #[.func (.yield l) #[] #[]] 75)
 have hs1 := hs.alloc (.cells #[.func (.yield l) #[] #[]] 75)
 have hj1 := hJ.alloc h0 (.cells #[.func (.yield l) #[] #[]] 75)
 gi_wp2_with fail
 refine ⟨trivial, ?_⟩
 gi_at_call 19
 refine (callsIn_wide.2 (pnames20_any _)).mono ?_
 rintro e w2 ⟨v, rfl, ⟨b, rfl, hown, hbge⟩, hb2⟩
 have kM := Blk.new w2 49 #[.map (some b)]
 have kY2 := (kY.below hb2 kY.lt).alloc (.cells #[.map (some b)] 49)
 have hs2 := (hs1.below hb2 hs1.lt).alloc (.cells #[.map (some b)] 49)
 have hj2 := hJ.alloc (hJ _ _ _ none hj1 (below_grownN7 hb2) (fun r e => by cases e)) (.cells #[.map (some b)] 49)
 have hB2 := (hB1.trans (hb2.mono hB1.size)).alloc (Nat.le_trans hB1.size hb2.size) (.cells #[.map (some b)] 49)
 have hown2 := hown.alloc (.cells #[.map (some b)] 49)
 have hbl := hown.lt
 have cs := hs2.cell 0
 have hlW : W0.heap.size < w2.heap.size := Nat.lt_of_lt_of_le (by simp) hb2.size
 have hbW : W0.heap.size + 1 ≤ b := by simpa using hbge
 clear hb2 hown kY hs1 hj1 hB1 hbge
 gi_wp2_with fail
 obtain ⟨w3, hw3⟩ : ∃ x, w2.alloc (.cells #[.map (some b)] 49) = x := ⟨_, rfl⟩
 have s3 : w3.heap.size = w2.heap.size + 1 := by rw [← hw3]; simp
 rw [hw3] at kM kY2 hs2 hj2 hB2 hown2 ⊢
 have HS3 := Lib.hid s3
 clear hw3 hs2 s3
 refine ⟨trivial, ?_⟩
 gi_at_call 36
 refine (callsIn_wide.2 (psplit_any t _)).mono ?_
 rintro e w5 ⟨rfl, hs5, hp5, hz5, hsz5, hb5⟩
 replace kM := kM.below hb5 kM.lt
 replace kY2 := kY2.below hb5 kY2.lt
 replace hj2 := hJ _ _ _ none hj2 (below_grownN7 hb5) (fun r e => by cases e)
 replace hB2 := hB2.trans (hb5.mono hB2.size)
 replace hown2 := own_below20 hown2 hb5
 clear hb5
 gi_wp2_with fail
 have s3 := HS3.out
 have hJY : ∀ {K : List (SpT t) → World → Prop}, AbX (fun r => W0.heap.size ≤ r) K → AbX (fun r => r = w3.heap.size ∨ r = w5.heap.size + 1) K := fun hK s A B row hs hg hr => hK s A B row hs hg (fun r e => by rcases hr r e with h | h <;> omega)
 refine wpIn_rangeX rfl (by omega) (gf := 53) (lb := #[.pointer (some ⟨w3.heap.size + 1, 0, none⟩), .pointer (some ⟨w3.heap.size, 0, none⟩), .pointer (some ⟨w3.heap.size + 2, 0, none⟩)]) rfl trivial (enters_of Tryd.func53 (by kernel_rfl) rfl)
  (sps_seq 3 (by omega) w3.heap.size t (by omega) w5 hs5 hp5 hz5) kpb_t (fun W o => kpb_put W (by omega) o) (Below.refl _ _) (fun _ => rfl)
  (fun r => r = w3.heap.size) (fun r h => by omega) (fun W r _ h => h)
  (fun (pre : List (SpT t)) W => J pre W ∧ (Blk W W0.heap.size 75 #[.func (.yield l) #[] #[]] ∧ Blk W w2.heap.size 49 #[.map (some b)]) ∧ W.ownsMap Tryd.prog 9 hel b 12 capsD)
  (fun j (pre : List (SpT t)) W => j = .ret ∧ Jx pre W)
  ?hI ?hIx ⟨hj2, ⟨kY2, kM⟩, hown2⟩ (fun x a' _ => a' = ⟨#[.func (.yield l) #[] #[], .pointer (some ⟨B, 0, none⟩), .pointer (some ⟨W0.heap.size, 0, none⟩), .pointer (some ⟨w2.heap.size, 0, none⟩), .string ⟨x.v.toArray⟩, undef, undef, undef, undef, .map (some b), .string ⟨t.toArray⟩, .func (.func 53) #[] #[.pointer (some ⟨w3.heap.size + 1, 0, none⟩), .pointer (some ⟨w3.heap.size, 0, none⟩), .pointer (some ⟨w3.heap.size + 2, 0, none⟩)], .string ⟨x.v.toArray⟩, undef, undef, undef, undef, undef, undef, undef, undef, undef, undef, undef, undef, undef, undef, undef, undef, undef, undef, undef, undef, undef], []⟩) (fun x a' s A B row hs _ _ => hs) ?assign ?body ?done ?stop
 case hI =>
  rintro pre A C row ⟨h1, ⟨h2, h3⟩, h4⟩ hg hr
  refine ⟨hJY hJ pre A C row h1 hg hr, ⟨h2.grown hg (fun e => by rcases hr _ e with h | h <;> omega), h3.grown hg (fun e => by rcases hr _ e with h | h <;> omega)⟩, ?_⟩
  obtain ⟨es, clock, hh, r⟩ := h4
  exact ⟨es, clock, (hg.block b (Array.getElem?_eq_some_iff.1 hh).1 (fun e => by rcases hr _ e.symm with h | h <;> omega)).trans hh, r⟩
 case hIx =>
  rintro j pre A C row ⟨h1, h2⟩ hg hr
  exact ⟨h1, hJx pre A C row h2 hg (fun r e => ⟨by have := (hr r e).1; omega, (hr r e).2⟩)⟩
 case assign =>
  intro l' pre x W K _ hi hK
  clear s3
  simp only [spE]
  gi_wp2
  exact hK _ _ (Kr.refl _ _) (fun _ _ _ => rfl) hi rfl
 case body =>
  rintro l' pre x a' W hlt ⟨hj, ⟨hy, hm⟩, ho⟩ rfl hlen
  have hxl := split_len x.h
  have hul := unhexV_len x.v
  clear s3
  gi_wp2_with fail
  refine ⟨trivial, ?_⟩
  gi_at_call 39
  refine (CallsIn.inRound l' (callsIn_wide.2 (unhex20_any x.v (by omega) _))).mono ?_
  rintro e w7 ⟨A7, c7, rfl, hr7, hb7⟩
  have hcv := conv20w (n := (unhexV x.v).length) (c := c7) rfl hr7
  have o7 := own_below20 ho hb7
  have hlk := caps_look (n := unhexV x.v) o7 (by simp only [maxLen]; omega)
  have y7 := hy.below hb7 hy.lt
  have m7 := hm.below hb7 hm.lt
  have cm := m7.cell 0
  have hcv8 := conv20w (w := w7.alloc (.cells #[.string ⟨(capV (unhexV x.v)).toArray⟩] 47)) (n := (unhexV x.v).length) (c := c7) rfl (hr7.below ((Below.refl _ w7).alloc (Nat.le_refl _) _))
  have cy := (y7.alloc (.cells #[.string ⟨(capV (unhexV x.v)).toArray⟩] 47)).cell 0
  have cv := (Blk.new w7 47 #[.string ⟨(capV (unhexV x.v)).toArray⟩]).cell 0
  have j7 := hJ.alloc (hJ _ _ _ none hj (below_grownN7 hb7) (fun r e => by cases e)) (.cells #[.string ⟨(capV (unhexV x.v)).toArray⟩] 47)
  have b7 : Below W.heap.size W (w7.alloc (.cells #[.string ⟨(capV (unhexV x.v)).toArray⟩] 47)) := hb7.alloc hb7.size _
  obtain ⟨fn, tmps, assign, body, hyy, hR⟩ := hY pre x _ j7 hlen
  dsimp only [askE] at hyy
  clear hb7 hj
  gi_wp2_with fail
  have s3 := HS3.out
  have l7 : W.heap.size ≤ (w7.alloc (.cells #[.string ⟨(capV (unhexV x.v)).toArray⟩] 47)).heap.size := b7.size
  have lb := (own_below20 o7 ((Below.refl _ w7).alloc (Nat.le_refl _) (.cells #[.string ⟨(capV (unhexV x.v)).toArray⟩] 47)))
  have lbl := lb.lt
  have y8 := y7.alloc (.cells #[.string ⟨(capV (unhexV x.v)).toArray⟩] 47)
  have m8 := m7.alloc (.cells #[.string ⟨(capV (unhexV x.v)).toArray⟩] 47)
  obtain ⟨w8, hw8⟩ : ∃ z, w7.alloc (.cells #[.string ⟨(capV (unhexV x.v)).toArray⟩] 47) = z := ⟨_, rfl⟩
  rw [hw8] at l7 lb lbl y8 m8 b7 hR ⊢
  clear hw8 hcv hcv8 hlk cm cy cv y7 m7 o7 hr7 hyy hy hm ho j7
  have K1 : ∀ W9 : World, KpN N0 w8 W9 → Kr w5.heap.size W W9 := fun _ hk => (Kr.below b7 hlt).trans ⟨hk.2 _ (by omega) (by omega), hk.2 _ (by omega) (by omega)⟩
  have K2 : ∀ W9 : World, KpN N0 w8 W9 → KpB w3.heap.size 3 W W9 := fun _ hk k h1 h2 => (hk.2 k (by omega) (by omega)).trans (b7.block k (by omega))
  have HK1 := Lib.hid K1
  have HK2 := Lib.hid K2
  have HY8 := Lib.hid (fun (W9 : World) (hk : KpN N0 w8 W9) => (show Blk W9 W0.heap.size 75 #[.func (.yield l) #[] #[]] from (hk.2 _ (by omega) y8.lt).trans y8))
  have HM8 := Lib.hid (fun (W9 : World) (hk : KpN N0 w8 W9) => (show Blk W9 w2.heap.size 49 #[.map (some b)] from (hk.2 _ (by omega) m8.lt).trans m8))
  have HO8 : Hid (∀ W9 : World, KpN N0 w8 W9 → W9.ownsMap Tryd.prog 9 hel b 12 capsD) := Lib.hid fun W9 hk => by
   obtain ⟨es, clock, hh, r⟩ := lb
   exact ⟨es, clock, (hk.2 b (by omega) (by omega)).trans hh, r⟩
  clear K1 K2 s3 y8 m8 lb
  refine (round_wide hR).mono ?_
  rintro e W9 (⟨rfl, hJ9, hk9⟩ | ⟨rfl, hJ9, hk9⟩)
  ·gi_wp2_with fail
   exact ⟨HK1.out _ hk9, HK2.out _ hk9, hJ9, ⟨HY8.out _ hk9, HM8.out _ hk9⟩, HO8.out _ hk9⟩
  ·gi_wp2_with fail
   exact ⟨HK1.out _ hk9, HK2.out _ hk9, rfl, hJ9⟩
 case done =>
  rintro ys W hys ⟨hj, _, _⟩ hK
  have hje := hJ.put hj (l := w5.heap.size) (show W0.heap.size ≤ w5.heap.size by omega) (.deferred none)
  clear s3 hsz5
  gi_wp2
  refine ⟨by simp, .inl ⟨_, _, rfl, run_takeDeferred hK, ?_⟩⟩
  refine ⟨_, results_none rfl _ _ _, ⟨_, rfl⟩, .inl ⟨ys, hys, hje⟩⟩
 case stop =>
  rintro j pre W hpre ⟨rfl, hj⟩ hK
  have hje := hJx.putObj (.deferred none) hj (show W0.heap.size ≤ w5.heap.size by omega) hK rfl
  clear s3 hsz5
  gi_wp2
  refine ⟨by simp, .inl ⟨_, _, rfl, run_takeDeferred hK, ?_⟩⟩
  refine ⟨_, results_none rfl _ _ _, ⟨_, rfl⟩, .inr ⟨pre, hpre, hje⟩⟩
theorem ask_seq (B : Nat) (t : List UInt8) (ht : t.length ≤ 1000000) (w : World) (hs : Blk w B 9 #[.string ⟨t.toArray⟩]) :
 SeqX Fence.wide 4 Tryd.prog 38 #[.pointer (some ⟨B, 0, none⟩)] (fun x : SpT t => askE x) (KpN (w.heap.size + 2)) (fun W r => W.heap.size ≤ r) (fun ys => ys.map SpT.v = splitC t) (fun pre => pre.map SpT.v <+: splitC t) (splitC t).length w := fun l J Jx W hW hsz hJ hJx hY h0 =>
 ask1_in l B (w.heap.size + 2) t ht W hsz J Jx hJ hJx hY (hs.below hW hs.lt) h0
end
end Go.Proofs.YtkkjahhilcjpgaaDoor
