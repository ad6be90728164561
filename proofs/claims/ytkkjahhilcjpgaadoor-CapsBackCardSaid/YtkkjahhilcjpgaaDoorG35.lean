/-
  Stage 20, the document walked: Answer.
-/
import Derived.Test.YtkkjahhilcjpgaaDoorG22
import Derived.Test.YtkkjahhilcjpgaaDoorG32
import Derived.Test.YtkkjahhilcjpgaaDoorG34
namespace Go.Proofs.YtkkjahhilcjpgaaDoor
open Go.RowKit Go.Shelf
theorem runhex20_any (l : List UInt8) (hl : l.length ≤ 4294967296) (w : World) : Calls Tryd.prog 26 #[.string ⟨l.toArray⟩] w fun e w' => ∃ A c, e = .returned (.tuple #[.slice A (unhexV l).length c, .bool (unhexL l).isSome]) ∧ Rd w' A (bs (unhexV l)) ∧ Below w.heap.size w w' := by
 refine (runhex_any ⟨l.toArray⟩ w hl).mono ?_
 rintro e w' ⟨hb, h⟩
 simp only at h
 unfold unhexV
 cases hu : unhexL l with
 | none =>
   rw [hu] at h
   exact ⟨none, 0, h, fun h => absurd h (by simp [bs]), hb⟩
 | some o =>
   rw [hu] at h
   obtain ⟨A, c, he, hr⟩ := h
   exact ⟨A, c, he, hr, hb⟩
set_option maxRecDepth 100000 in
set_option maxHeartbeats 16000000 in
theorem rrefusedN_any (w : World) : Calls Tryd.prog 27 #[] w (RepN (⟨3, 0, [[0]], [43], 114, []⟩ : Sq) w) := by
 have hB := (((Below.refl w.heap.size w).alloc (Nat.le_refl _) (.cells #[.int .i64 3, .int .u8 0, .slice (some ⟨w.heap.size + 1 + 1, 0, none⟩) 1 1, .string ⟨#[43]⟩, .int .u8 114, .string ⟨#[]⟩] 28)).alloc (by simp) (.cells #[.int .i64 0] 3)).alloc (by simp; omega) (.cells #[.slice (some ⟨w.heap.size + 1, 0, none⟩) 1 1] 45)
 have hr := rdpn_lit (w.alloc (.cells #[.int .i64 3, .int .u8 0, .slice (some ⟨w.heap.size + 1 + 1, 0, none⟩) 1 1, .string ⟨#[43]⟩, .int .u8 114, .string ⟨#[]⟩] 28)) 0
 simp only [World.size_alloc] at hr
 go_enter Tryd.func27, Tryd.ntmps27
 go_wp2_with fail
 refine bodyPost_ret (v := .agg #[.int .i64 3, .int .u8 0, .slice (some ⟨w.heap.size + 1 + 1, 0, none⟩) 1 1, .string ⟨#[43]⟩, .int .u8 114, .string ⟨#[]⟩]) (by simp [results, Tryd.results27, go_sem]) rfl ⟨_, _, _, rfl, hr, hB⟩
theorem below_none20 {w w' : World} (h : w.grownBy w' none) : Below w.heap.size w w' := ⟨h.os, h.tape, h.output, h.size, fun k hk => h.block k hk (by simp)⟩
theorem one_known {p : List UInt8} : (lookC (unhexV p)).isSome = true → (unhexL p).isSome = true := by
 unfold unhexV
 cases h : unhexL p with
 | none => intro h; exact absurd h (by decide)
 | some n => intro _; rfl
set_option maxRecDepth 100000 in
set_option maxHeartbeats 16000000 in
theorem rAnswer20_any (t : List UInt8) (ht : t.length ≤ 1000000) (w : World) : Calls Tryd.prog 13 #[.string ⟨t.toArray⟩] w (RepE (ansS t) w) := by
 obtain ⟨R, hR⟩ : ∃ R, ansS t = R := ⟨_, rfl⟩
 have HR := Lib.hid hR
 obtain ⟨PS, hPS⟩ : ∃ PS, splitC t = PS := ⟨_, rfl⟩
 have HPS := Lib.hid hPS
 have hcnt := split_cnt t
 rw [hPS] at hcnt
 have hlens : ∀ k (hk : k < PS.length), (PS[k]).length ≤ t.length := fun k hk => split_len (by rw [hPS]; exact List.getElem_mem hk)
 have HLE := Lib.hid hlens
 have HSP := Lib.hid (rsplit20_any t ht)
 rw [hPS] at HSP
 rw [hR]
 clear hR hPS hlens
 have z0 := Blk.new w 28 #[.int .i64 0, .int .u8 0, .slice none 0 0, .string ⟨#[]⟩, .int .u8 0, .string ⟨#[]⟩]
 have hB0 := (Below.refl w.heap.size w).alloc (Nat.le_refl _) (.cells #[.int .i64 0, .int .u8 0, .slice none 0 0, .string ⟨#[]⟩, .int .u8 0, .string ⟨#[]⟩] 28)
 go_enter Tryd.func13, Tryd.ntmps13
 go_wp2_with fail
 refine (HSP.out _).mono ?_
 rintro e w1 ⟨A, c, rfl, hrd, hb1⟩
 have hB1 := hB0.trans (hb1.mono hB0.size)
 replace z0 := z0.below hb1 z0.lt
 clear hb1 hB0
 go_wp2_with fail
 go_loopw [4, 5] (fun v z wr => ∃ (k : Nat) (qs : List (List UInt8)), k ≤ PS.length ∧ z = .int .i64 k ∧ v = .string ⟨(joinC qs).toArray⟩ ∧ Hid (ansGo (PS.take k) = some qs ∧ (∀ q ∈ qs, q.length ≤ 27) ∧ qs.length = k) ∧ Below w1.heap.size w1 wr) (fun _ z _ => PS.length - (intOf z).toNat)
 case atStart => exact ⟨0, [], Nat.zero_le _, rfl, rfl, Lib.hid ⟨rfl, (fun q (h : q ∈ ([] : List (List UInt8))) => absurd h List.not_mem_nil), rfl⟩, Below.refl _ _⟩
 case round =>
  obtain ⟨k, qs, hk, rfl, rfl, HQ, hbw⟩ := hrel
  have hB := hB1.trans (hbw.mono hB1.size)
  have zr := z0.below hbw z0.lt
  by_cases hlt : k < PS.length
  ·have v1 : (k : Int) < (PS.length : Int) := by omega
   have v0 : (0 : Int) ≤ (k : Int) := by omega
   have v2 : IntKind.i64.wrap ((k : Int) + 1) = (k : Int) + 1 := by rw [IntKind.wrap_i64]; omega
   obtain ⟨p, hp⟩ : ∃ p, PS[k] = p := ⟨_, rfl⟩
   have hpl := HLE.out k hlt
   rw [hp] at hpl
   obtain ⟨b, o, rfl, hbl, hcell⟩ := (hrd.below hbw) (by simp [ss_]; omega)
   have hck := hcell k (.string ⟨p.toArray⟩) (by simp [ss_, hlt, hp])
   have HP := Lib.hid hp
   clear hcell hp
   go_wp2_with fail
   refine (runhex20_any p (by omega) _).mono ?_
   rintro e w2 ⟨A2, c2, rfl, hr2, hb2⟩
   have hcv := conv20w (n := (unhexV p).length) (c := c2) rfl hr2
   go_wp2_with fail
   refine (rLook20_any (unhexV p) _).mono ?_
   rintro e w3 ⟨rfl, hb3⟩
   have hr3 := hr2.below hb3
   have hB3 := (hB.trans (hb2.mono hB.size)).trans (hb3.mono (Nat.le_trans hB.size hb2.size))
   have hW3 := (hbw.trans (hb2.mono hbw.size)).trans (hb3.mono (Nat.le_trans hbw.size hb2.size))
   have zr3 := (zr.below hb2 zr.lt).below hb3 (Nat.lt_of_lt_of_le zr.lt hb2.size)
   have hone := one_prog p
   cases hkn : (lookC (unhexV p)).isSome with
   | false =>
     rw [hkn] at hone
     have HN : Hid (R = ⟨3, 0, [[0]], [43], 114, []⟩) := Lib.hid (by
      rw [← HR.out]
      exact ans_stop (ps := PS.take (k + 1)) (by rw [HPS.out]; exact List.take_prefix _ _) (.inl ⟨PS.take k, p, by rw [List.take_succ_eq_append_getElem hlt, HP.out], by simpa using hone⟩))
     clear hone hkn hr2 hb2 hb3 hcv zr hB
     cases huk : (unhexL p).isSome with
     | false =>
       go_wp2_with fail
       refine (rrefusedN_any _).mono ?_
       rintro e w7 ⟨A7, c7, g7, rfl, hr7, hb7⟩
       have k2 := zr3.below hb7 zr3.lt
       have hB7 := hB3.trans (hb7.mono hB3.size)
       clear hb7 zr3 hB3
       unfold sqV
       simp only [List.length_cons, List.length_nil, Nat.reduceAdd]
       have x0 := k2.cell 0
       have fx0 := k2.frozen 0
       have x1 := k2.cell 1
       have fx1 := k2.frozen 1
       have x2 := k2.cell 2
       have fx2 := k2.frozen 2
       have x3 := k2.cell 3
       have fx3 := k2.frozen 3
       have x4 := k2.cell 4
       have fx4 := k2.frozen 4
       have x5 := k2.cell 5
       have fx5 := k2.frozen 5
       obtain ⟨y1, y2, y3⟩ := k2.set6 (.int .i64 3) (.int .u8 0) (.slice A7 1 c7) (.string ⟨#[43]⟩) (.int .u8 114) (.string ⟨#[]⟩)
       have hr9 := hr7.other k2 (by decide) (by decide) (w' := ((((((w7.setCell ⟨w.heap.size, 0, none⟩ (.int .i64 3)).setCell ⟨w.heap.size, 1, none⟩ (.int .u8 0)).setCell ⟨w.heap.size, 2, none⟩ (.slice A7 1 c7)).setCell ⟨w.heap.size, 3, none⟩ (.string ⟨#[43]⟩)).setCell ⟨w.heap.size, 4, none⟩ (.int .u8 114)).setCell ⟨w.heap.size, 5, none⟩ (.string ⟨#[]⟩))) ⟨(y3 0 (Nat.zero_le _)).os, (y3 0 (Nat.zero_le _)).tape, (y3 0 (Nat.zero_le _)).output, (y3 0 (Nat.zero_le _)).size, fun k hk he => y2 k (fun e => he (by rw [e]))⟩
       have hB9 := hB7.trans (y3 _ (Nat.le_refl _))
       clear y2 y3
       go_wp2_with fail
       obtain ⟨Wz, hWz⟩ : ∃ x, ((((((w7.setCell ⟨w.heap.size, 0, none⟩ (.int .i64 3)).setCell ⟨w.heap.size, 1, none⟩ (.int .u8 0)).setCell ⟨w.heap.size, 2, none⟩ (.slice A7 1 c7)).setCell ⟨w.heap.size, 3, none⟩ (.string ⟨#[43]⟩)).setCell ⟨w.heap.size, 4, none⟩ (.int .u8 114)).setCell ⟨w.heap.size, 5, none⟩ (.string ⟨#[]⟩)) = x := ⟨_, rfl⟩
       rw [hWz] at y1 hr9 hB9 ⊢
       have u0 := y1.cell 0
       have u1 := y1.cell 1
       have u2 := y1.cell 2
       have u3 := y1.cell 3
       have u4 := y1.cell 4
       have u5 := y1.cell 5
       rw [HN.out]
       refine bodyPost_ret (v := .agg #[.int .i64 3, .int .u8 0, .slice A7 1 c7, .string ⟨#[43]⟩, .int .u8 114, .string ⟨#[]⟩]) (by simp [results, Tryd.results13, go_sem, u0, u1, u2, u3, u4, u5]) rfl ⟨A7, c7, rfl, hr9.rdp, hB9⟩
     | true =>
       go_wp2_with fail
       refine (rrefusedN_any _).mono ?_
       rintro e w7 ⟨A7, c7, g7, rfl, hr7, hb7⟩
       have k2 := zr3.below hb7 zr3.lt
       have hB7 := hB3.trans (hb7.mono hB3.size)
       clear hb7 zr3 hB3
       unfold sqV
       simp only [List.length_cons, List.length_nil, Nat.reduceAdd]
       have x0 := k2.cell 0
       have fx0 := k2.frozen 0
       have x1 := k2.cell 1
       have fx1 := k2.frozen 1
       have x2 := k2.cell 2
       have fx2 := k2.frozen 2
       have x3 := k2.cell 3
       have fx3 := k2.frozen 3
       have x4 := k2.cell 4
       have fx4 := k2.frozen 4
       have x5 := k2.cell 5
       have fx5 := k2.frozen 5
       obtain ⟨y1, y2, y3⟩ := k2.set6 (.int .i64 3) (.int .u8 0) (.slice A7 1 c7) (.string ⟨#[43]⟩) (.int .u8 114) (.string ⟨#[]⟩)
       have hr9 := hr7.other k2 (by decide) (by decide) (w' := ((((((w7.setCell ⟨w.heap.size, 0, none⟩ (.int .i64 3)).setCell ⟨w.heap.size, 1, none⟩ (.int .u8 0)).setCell ⟨w.heap.size, 2, none⟩ (.slice A7 1 c7)).setCell ⟨w.heap.size, 3, none⟩ (.string ⟨#[43]⟩)).setCell ⟨w.heap.size, 4, none⟩ (.int .u8 114)).setCell ⟨w.heap.size, 5, none⟩ (.string ⟨#[]⟩))) ⟨(y3 0 (Nat.zero_le _)).os, (y3 0 (Nat.zero_le _)).tape, (y3 0 (Nat.zero_le _)).output, (y3 0 (Nat.zero_le _)).size, fun k hk he => y2 k (fun e => he (by rw [e]))⟩
       have hB9 := hB7.trans (y3 _ (Nat.le_refl _))
       clear y2 y3
       go_wp2_with fail
       obtain ⟨Wz, hWz⟩ : ∃ x, ((((((w7.setCell ⟨w.heap.size, 0, none⟩ (.int .i64 3)).setCell ⟨w.heap.size, 1, none⟩ (.int .u8 0)).setCell ⟨w.heap.size, 2, none⟩ (.slice A7 1 c7)).setCell ⟨w.heap.size, 3, none⟩ (.string ⟨#[43]⟩)).setCell ⟨w.heap.size, 4, none⟩ (.int .u8 114)).setCell ⟨w.heap.size, 5, none⟩ (.string ⟨#[]⟩)) = x := ⟨_, rfl⟩
       rw [hWz] at y1 hr9 hB9 ⊢
       have u0 := y1.cell 0
       have u1 := y1.cell 1
       have u2 := y1.cell 2
       have u3 := y1.cell 3
       have u4 := y1.cell 4
       have u5 := y1.cell 5
       rw [HN.out]
       refine bodyPost_ret (v := .agg #[.int .i64 3, .int .u8 0, .slice A7 1 c7, .string ⟨#[43]⟩, .int .u8 114, .string ⟨#[]⟩]) (by simp [results, Tryd.results13, go_sem, u0, u1, u2, u3, u4, u5]) rfl ⟨A7, c7, rfl, hr9.rdp, hB9⟩
   | true =>
     have huk := one_known hkn
     rw [hkn, if_pos rfl] at hone
     have hul := unhexV_len p
     have hvl := capV_len (unhexV p)
     obtain ⟨D, hD⟩ : ∃ D, (if qs = [] then [] else joinC qs ++ [59]) = D := ⟨_, rfl⟩
     have hnl : (unhexV p).length ≤ 6 := by
      obtain ⟨v, hv⟩ := Option.isSome_iff_exists.1 hkn
      unfold lookC at hv
      obtain ⟨q, hq, rfl⟩ := Option.map_eq_some_iff.1 hv
      have h1 := List.find?_some hq
      have h2 := (names_know q (List.mem_of_find?_eq_some hq)).2.2.1
      rw [← eq_of_beq h1]
      exact h2
     have hjl : (joinC qs).length ≤ 28000028 := by
      have := join_len HQ.out.2.1
      rw [HQ.out.2.2] at this
      omega
     have hDl : D.length ≤ 28000029 := by rw [← hD]; split <;> simp; omega
     have hTl : (pairC (unhexV p) (capV (unhexV p))).length ≤ 27 := by unfold pairC; simp [hexL_length]; omega
     have HK : Hid (ansGo (PS.take (k + 1)) = some (qs ++ [pairC (unhexV p) (capV (unhexV p))]) ∧ (∀ q ∈ qs ++ [pairC (unhexV p) (capV (unhexV p))], q.length ≤ 27) ∧ (qs ++ [pairC (unhexV p) (capV (unhexV p))]).length = k + 1) := Lib.hid ⟨by
      rw [List.take_succ_eq_append_getElem hlt, HP.out]
      exact ansGo_snoc HQ.out.1 hone, fun q hq => by
       rcases List.mem_append.1 hq with h | h
       ·exact HQ.out.2.1 q h
       ·rw [List.mem_singleton.1 h]; exact hTl, by simp [HQ.out.2.2]⟩
     have HJ : Hid (joinC (qs ++ [pairC (unhexV p) (capV (unhexV p))]) = ((D ++ hexL (unhexV p)) ++ [61]) ++ hexL (capV (unhexV p))) := Lib.hid (by
      rw [join_add, ← hD]
      unfold pairC
      split <;> simp)
     have hq0 : k = 0 ↔ qs = [] := by rw [← HQ.out.2.2]; exact List.length_eq_zero_iff
     obtain ⟨N, hN⟩ : ∃ N, unhexV p = N := ⟨_, rfl⟩
     obtain ⟨C, hC⟩ : ∃ C, capV (unhexV p) = C := ⟨_, rfl⟩
     rw [hC] at HK HJ hvl ⊢
     rw [hN] at HK HJ hnl hr3 ⊢
     have hHN := hexL_length N
     have hHC := hexL_length C
     have cat1 : ∀ W, (Op.stringOp .add ⟨(joinC qs).toArray⟩ ⟨#[59]⟩).run Tryd.prog W = .ok (.string ⟨(joinC qs ++ [59]).toArray⟩) W := fun W => cat20 (M := [59]) (by simp; omega) W
     obtain ⟨M1, hM1⟩ : ∃ M, D ++ hexL N = M := ⟨_, rfl⟩
     obtain ⟨M2, hM2⟩ : ∃ M, M1 ++ [61] = M := ⟨_, rfl⟩
     obtain ⟨M3, hM3⟩ : ∃ M, M2 ++ hexL C = M := ⟨_, rfl⟩
     have hl1 : M1.length ≤ 28000100 := by rw [← hM1]; simp; omega
     have hl2 : M2.length ≤ 28000101 := by rw [← hM2]; simp; omega
     have cat2 : ∀ W, (Op.stringOp .add ⟨D.toArray⟩ ⟨(hexL N).toArray⟩).run Tryd.prog W = .ok (.string ⟨M1.toArray⟩) W := fun W => hM1 ▸ cat20 (by omega) W
     have cat3 : ∀ W, (Op.stringOp .add ⟨M1.toArray⟩ ⟨#[61]⟩).run Tryd.prog W = .ok (.string ⟨M2.toArray⟩) W := fun W => hM2 ▸ cat20 (M := [61]) (by simp; omega) W
     have cat4 : ∀ W, (Op.stringOp .add ⟨M2.toArray⟩ ⟨(hexL C).toArray⟩).run Tryd.prog W = .ok (.string ⟨M3.toArray⟩) W := fun W => hM3 ▸ cat20 (by omega) W
     rw [hM1, hM2, hM3] at HJ
     clear hM1 hM2 hM3 hl1 hl2
     have HNL := Lib.hid (show N.length ≤ 4294967296 ∧ C.length ≤ 4294967296 by omega)
     have hm : (⟨C.toArray⟩ : ByteArray).size ≤ maxLen := show C.length ≤ maxLen by simp only [maxLen]; omega
     clear hone hul hHN hHC hnl hvl hDl hTl hjl hpl hN hC hkn hb2 hb3 hcv zr hB hr2
     have HQ0 := Lib.hid hq0
     have HDD := Lib.hid hD
     clear hq0 hD
     go_upto_if 40 with fail
     go_cut [4, 40] from 60 (fun v _ W' => W' = w3 ∧ v = .string ⟨D.toArray⟩)
     case first =>
      by_cases h0 : k = 0
      ·have hqe := HQ0.out.1 h0
       have v4 : ¬ ((0 : Int) < (k : Int)) := by omega
       have hD := HDD.out
       rw [if_pos hqe] at hD
       subst hqe
       subst hD
       clear h0
       simp only [joinC]
       go_wp2_with fail
       go_meet
       case rel => exact ⟨rfl, rfl⟩
      ·have v4 : (0 : Int) < (k : Int) := by omega
       have hD := HDD.out
       rw [if_neg (fun e => h0 (HQ0.out.2 e))] at hD
       subst hD
       clear h0
       go_wp2_with fail
       go_meet
       case rel => exact ⟨rfl, rfl⟩
     obtain ⟨rfl, rfl⟩ := hcut
     clear cat1
     go_wp2_with fail
     refine (rhex_any _ _ N _ HNL.out.1 hr3).mono ?_
     rintro e w4 ⟨rfl, hb4⟩
     have hB4 := hW3.trans (hb4.mono hW3.size)
     have hs4 := hB4.size
     clear hb4 zr3
     go_wp2_with (first | ((with_reducible refine list_conv _ rfl (.tmp 48) 9 33 rfl w1.heap.size 5 ⟨C.toArray⟩ ?_ Tryd.underlying9 Tryd.underlying33 Tryd.underlying5 hm hs4 ?_); rfl; intro v5 w5 own5 hg5; obtain ⟨A5, c5, rfl, hr5⟩ := own5.form; have hB5 := hB4.trans ((below_none20 hg5).mono hs4); clear hg5 own5))
     refine (rhex_any _ _ C _ HNL.out.2 hr5).mono ?_
     rintro e w6 ⟨rfl, hb6⟩
     have hB6 := hB5.trans (hb6.mono hB5.size)
     go_wp2_with fail
     exact ⟨⟨k + 1, qs ++ [pairC N C], by omega, by go_num, by rw [HJ.out], HK, hB6⟩, by simp [intOf]; omega⟩
  ·have v1 : ¬ ((k : Int) < (PS.length : Int)) := by omega
   have hall : PS.take k = PS := List.take_of_length_le (by omega)
   obtain ⟨L, hL⟩ : ∃ L, joinC qs = L := ⟨_, rfl⟩
   by_cases hbig : 4096 < L.length
   ·have v4 : (4096 : Int) < (L.length : Int) := by omega
    have HN : Hid (R = ⟨3, 0, [[0]], [43], 114, []⟩) := Lib.hid (by
     rw [← HR.out]
     exact ans_stop (ps := PS) (by rw [HPS.out]; exact List.prefix_refl _) (.inr ⟨qs, by rw [← hall]; exact HQ.out.1, by rw [hL]; exact hbig⟩))
    rw [hL]
    clear hbig hL hall
    go_wp2_with fail
    refine (rrefusedN_any _).mono ?_
    rintro e w7 ⟨A7, c7, g7, rfl, hr7, hb7⟩
    have k2 := zr.below hb7 zr.lt
    have hB7 := hB.trans (hb7.mono hB.size)
    clear hb7 zr hB
    unfold sqV
    simp only [List.length_cons, List.length_nil, Nat.reduceAdd]
    have x0 := k2.cell 0
    have fx0 := k2.frozen 0
    have x1 := k2.cell 1
    have fx1 := k2.frozen 1
    have x2 := k2.cell 2
    have fx2 := k2.frozen 2
    have x3 := k2.cell 3
    have fx3 := k2.frozen 3
    have x4 := k2.cell 4
    have fx4 := k2.frozen 4
    have x5 := k2.cell 5
    have fx5 := k2.frozen 5
    obtain ⟨y1, y2, y3⟩ := k2.set6 (.int .i64 3) (.int .u8 0) (.slice A7 1 c7) (.string ⟨#[43]⟩) (.int .u8 114) (.string ⟨#[]⟩)
    have hr9 := hr7.other k2 (by decide) (by decide) (w' := ((((((w7.setCell ⟨w.heap.size, 0, none⟩ (.int .i64 3)).setCell ⟨w.heap.size, 1, none⟩ (.int .u8 0)).setCell ⟨w.heap.size, 2, none⟩ (.slice A7 1 c7)).setCell ⟨w.heap.size, 3, none⟩ (.string ⟨#[43]⟩)).setCell ⟨w.heap.size, 4, none⟩ (.int .u8 114)).setCell ⟨w.heap.size, 5, none⟩ (.string ⟨#[]⟩))) ⟨(y3 0 (Nat.zero_le _)).os, (y3 0 (Nat.zero_le _)).tape, (y3 0 (Nat.zero_le _)).output, (y3 0 (Nat.zero_le _)).size, fun k hk he => y2 k (fun e => he (by rw [e]))⟩
    have hB9 := hB7.trans (y3 _ (Nat.le_refl _))
    clear y2 y3
    go_wp2_with fail
    obtain ⟨Wz, hWz⟩ : ∃ x, ((((((w7.setCell ⟨w.heap.size, 0, none⟩ (.int .i64 3)).setCell ⟨w.heap.size, 1, none⟩ (.int .u8 0)).setCell ⟨w.heap.size, 2, none⟩ (.slice A7 1 c7)).setCell ⟨w.heap.size, 3, none⟩ (.string ⟨#[43]⟩)).setCell ⟨w.heap.size, 4, none⟩ (.int .u8 114)).setCell ⟨w.heap.size, 5, none⟩ (.string ⟨#[]⟩)) = x := ⟨_, rfl⟩
    rw [hWz] at y1 hr9 hB9 ⊢
    have u0 := y1.cell 0
    have u1 := y1.cell 1
    have u2 := y1.cell 2
    have u3 := y1.cell 3
    have u4 := y1.cell 4
    have u5 := y1.cell 5
    rw [HN.out]
    refine bodyPost_ret (v := .agg #[.int .i64 3, .int .u8 0, .slice A7 1 c7, .string ⟨#[43]⟩, .int .u8 114, .string ⟨#[]⟩]) (by simp [results, Tryd.results13, go_sem, u0, u1, u2, u3, u4, u5]) rfl ⟨A7, c7, rfl, hr9.rdp, hB9⟩
   ·have v4 : ¬ ((4096 : Int) < (L.length : Int)) := by omega
    have HN : Hid (R = ⟨3, 0, [[1]], [43], 114, L⟩) := Lib.hid (by
     rw [← HR.out, ← hL]
     exact ans_done (by rw [HPS.out, ← hall]; exact HQ.out.1) (by rw [hL]; omega))
    rw [hL]
    clear hbig hL hall
    have hr7 := rdpn_lit wr 1
    have k2 := (zr.alloc (.cells #[.int .i64 1] 3)).alloc (.cells #[.slice (some ⟨wr.heap.size, 0, none⟩) 1 1] 45)
    have hB7 := (hB.alloc hB.size (.cells #[.int .i64 1] 3)).alloc (by have := hB.size; simp; omega) (.cells #[.slice (some ⟨wr.heap.size, 0, none⟩) 1 1] 45)
    clear zr hB
    have x0 := k2.cell 0
    have fx0 := k2.frozen 0
    have x1 := k2.cell 1
    have fx1 := k2.frozen 1
    have x2 := k2.cell 2
    have fx2 := k2.frozen 2
    have x3 := k2.cell 3
    have fx3 := k2.frozen 3
    have x4 := k2.cell 4
    have fx4 := k2.frozen 4
    have x5 := k2.cell 5
    have fx5 := k2.frozen 5
    obtain ⟨y1, y2, y3⟩ := k2.set6 (.int .i64 3) (.int .u8 0) (.slice (some ⟨wr.heap.size + 1, 0, none⟩) 1 1) (.string ⟨#[43]⟩) (.int .u8 114) (.string ⟨L.toArray⟩)
    have hr9 := hr7.other k2 (by decide) (by decide) (w' := ((((((((wr.alloc (.cells #[.int .i64 1] 3)).alloc (.cells #[.slice (some ⟨wr.heap.size, 0, none⟩) 1 1] 45)).setCell ⟨w.heap.size, 0, none⟩ (.int .i64 3)).setCell ⟨w.heap.size, 1, none⟩ (.int .u8 0)).setCell ⟨w.heap.size, 2, none⟩ (.slice (some ⟨wr.heap.size + 1, 0, none⟩) 1 1)).setCell ⟨w.heap.size, 3, none⟩ (.string ⟨#[43]⟩)).setCell ⟨w.heap.size, 4, none⟩ (.int .u8 114)).setCell ⟨w.heap.size, 5, none⟩ (.string ⟨L.toArray⟩))) ⟨(y3 0 (Nat.zero_le _)).os, (y3 0 (Nat.zero_le _)).tape, (y3 0 (Nat.zero_le _)).output, (y3 0 (Nat.zero_le _)).size, fun k hk he => y2 k (fun e => he (by rw [e]))⟩
    have hB9 := hB7.trans (y3 _ (Nat.le_refl _))
    clear y2 y3
    go_wp2_with fail
    obtain ⟨Wz, hWz⟩ : ∃ x, ((((((((wr.alloc (.cells #[.int .i64 1] 3)).alloc (.cells #[.slice (some ⟨wr.heap.size, 0, none⟩) 1 1] 45)).setCell ⟨w.heap.size, 0, none⟩ (.int .i64 3)).setCell ⟨w.heap.size, 1, none⟩ (.int .u8 0)).setCell ⟨w.heap.size, 2, none⟩ (.slice (some ⟨wr.heap.size + 1, 0, none⟩) 1 1)).setCell ⟨w.heap.size, 3, none⟩ (.string ⟨#[43]⟩)).setCell ⟨w.heap.size, 4, none⟩ (.int .u8 114)).setCell ⟨w.heap.size, 5, none⟩ (.string ⟨L.toArray⟩)) = x := ⟨_, rfl⟩
    rw [hWz] at y1 hr9 hB9 ⊢
    have u0 := y1.cell 0
    have u1 := y1.cell 1
    have u2 := y1.cell 2
    have u3 := y1.cell 3
    have u4 := y1.cell 4
    have u5 := y1.cell 5
    rw [HN.out]
    refine bodyPost_ret (v := .agg #[.int .i64 3, .int .u8 0, .slice (some ⟨wr.heap.size + 1, 0, none⟩) 1 1, .string ⟨#[43]⟩, .int .u8 114, .string ⟨L.toArray⟩]) (by simp [results, Tryd.results13, go_sem, u0, u1, u2, u3, u4, u5]) rfl ⟨_, _, rfl, hr9.rdp, hB9⟩
end Go.Proofs.YtkkjahhilcjpgaaDoor
