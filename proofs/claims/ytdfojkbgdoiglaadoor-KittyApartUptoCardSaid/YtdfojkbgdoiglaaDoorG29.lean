/-
  Layer 9, the landed keys, walked: Look. Layer 10, the landed mods: May.
-/
import Derived.Test.YtdfojkbgdoiglaaDoorG10
import Derived.Test.YtdfojkbgdoiglaaDoorG21
import Derived.Test.YtdfojkbgdoiglaaDoorG23
namespace Go.Proofs.YtdfojkbgdoiglaaDoor
open Go.RowKit
theorem find_take_no {k : Nat} {c : Int} (h : ∀ r ∈ roL.take k, inRo c r = false) {r : Ro} (hk : k < roL.length) (hr : roL[k] = r) (hi : inRo c r = true) : roL.find? (inRo c) = some r := by
 have e : roL = roL.take k ++ roL.drop k := (List.take_append_drop k roL).symm
 rw [List.drop_eq_getElem_cons hk, hr] at e
 rw [e, List.find?_append, List.find?_eq_none.2 (fun x hx => by rw [h x hx]; decide)]
 simp [hi]
theorem take_more {k : Nat} {c : Int} (h : ∀ r ∈ roL.take k, inRo c r = false) {r : Ro} (hk : k < roL.length) (hr : roL[k] = r) (hi : inRo c r = false) : ∀ r ∈ roL.take (k + 1), inRo c r = false := by
 rw [List.take_succ_eq_append_getElem hk, hr]
 intro x hx
 rcases List.mem_append.1 hx with hx | hx
 ·exact h x hx
 ·rw [List.mem_singleton.1 hx]; exact hi
theorem ro_mem {k : Nat} (hk : k < roL.length) {r : Ro} (hr : roL[k] = r) : r ∈ roL := hr ▸ List.getElem_mem hk
theorem find_all_no {c : Int} (h : ∀ r ∈ roL.take 22, inRo c r = false) : roL.find? (inRo c) = none := by
 rw [show roL.take 22 = roL from rfl] at h
 exact List.find?_eq_none.2 (fun x hx => by rw [h x hx]; decide)
theorem below_set5 {B : Nat} {a w : World} (h : Below B a w) {b : Nat} (hb : B ≤ b) (x y z u v : Value) : Below B a (((((w.setCell ⟨b, 0, none⟩ x).setCell ⟨b, 1, none⟩ y).setCell ⟨b, 2, none⟩ z).setCell ⟨b, 3, none⟩ u).setCell ⟨b, 4, none⟩ v) :=
 ((((h.setCell (p := ⟨b, 0, none⟩) hb x).setCell (p := ⟨b, 1, none⟩) hb y).setCell (p := ⟨b, 2, none⟩) hb z).setCell (p := ⟨b, 3, none⟩) hb u).setCell (p := ⟨b, 4, none⟩) hb v
set_option maxRecDepth 100000 in
set_option maxHeartbeats 4000000 in
theorem plook_any (c : Int) (w : World) (hs : Siz w) (hR : Rws w) : Calls Tryd.prog 11 #[.int .i64 c] w fun e w' => e = .returned (enV (lookE c)) ∧ Below w.heap.size w w' := by
 have HC := Lib.hid (lookP_eq c)
 obtain ⟨b, o, cp, t, fz, hg, hg0, hb0, hrd⟩ := hR
 have cg := cell_of_row w 0 0 _ t fz hg
 simp only [List.getElem?_toArray, List.getElem?_cons_zero] at cg
 have hG : ∀ x, (w.alloc x).cell? ⟨0, 0, none⟩ = some (.slice (some ⟨b, o, none⟩) 22 cp) := fun x => (((Below.refl _ w).alloc (Nat.le_refl _) x).cell (p := ⟨0, 0, none⟩) hg0).trans cg
 have p0 := Blk.new w 35 #[.int .i64 0, .int .u8 0, .int .i64 0, .int .i64 0, .bool false]
 have hB0 := (Below.refl w.heap.size w).alloc (Nat.le_refl _) (.cells #[.int .i64 0, .int .u8 0, .int .i64 0, .int .i64 0, .bool false] 35)
 go_enter Tryd.func11, Tryd.ntmps11
 go_wp2
 clear hG cg hg
 go_loopw [7] (fun i wr => ∃ k : Nat, k ≤ 22 ∧ i = .int .i64 k ∧ Hid (∀ r ∈ roL.take k, inRo c r = false) ∧ Blk wr w.heap.size 35 #[.int .i64 0, .int .u8 0, .int .i64 0, .int .i64 0, .bool false] ∧ Below w.heap.size w wr) (fun i _ => 22 - (intOf i).toNat)
 case atStart => exact ⟨0, by omega, rfl, Lib.hid (by simp), p0, hB0⟩
 case round =>
  obtain ⟨k, hk, rfl, HN, hp, hbw⟩ := hrel
  clear p0 hB0
  by_cases hlt : k < 22
  ·obtain ⟨r, hr⟩ : ∃ r, roL[k]'hlt = r := ⟨_, rfl⟩
   obtain ⟨A, cp1, hns, a0, a1, a2, a3, a4, a5, a6⟩ := (hrd.below hbw hb0).at_ hlt hr
   have hb1 : b < wr.heap.size := Nat.lt_of_lt_of_le hb0 hbw.size
   have HNS : Hid (∀ x, Rd (wr.alloc x) A (is_ r.nums)) := Lib.hid fun x => (hns.rd hbw.size).alloc x
   have k1 : (k : Int) < 22 := by omega
   have k0 : (0 : Int) ≤ (k : Int) := by omega
   have hx := ro_mem hlt hr
   clear hns
   by_cases h1 : r.first ≤ c
   ·by_cases h2 : c ≤ r.last
    ·have HF := Lib.hid (find_take_no HN.out hlt hr ((inRo_iff c r).2 ⟨h1, h2⟩))
     have HE : Hid (enV (entK r (c - r.first).toNat) = enV (lookE c)) := Lib.hid (by rw [← HC.out]; unfold lookP; rw [HF.out])
     obtain ⟨⟨K, F, N, C, B⟩, hE⟩ : ∃ E, entK r (c - r.first).toNat = E := ⟨_, rfl⟩
     have HQ : Hid (∀ W, Rd W A (is_ r.nums) → Calls Tryd.prog 25 #[.agg #[.int .i64 r.first, .int .i64 r.last, .int .i64 r.kind, .string ⟨r.finals.toArray⟩, .slice A r.nums.length cp1, .string ⟨r.chars.toArray⟩, .bool r.keys], .int .i64 c] W fun e w' => e = .returned (.agg #[.int .i64 K, .int .u8 F, .int .i64 N, .int .i64 C, .bool B]) ∧ Below W.heap.size W w') := Lib.hid fun W hW => by
      have := entry_ro r hx (c - r.first).toNat c (by omega) h2 A cp1 W hW
      rwa [hE] at this
     rw [hE] at HE
     clear hE hr
     go_wp2_with fail
     refine (HQ.out _ (HNS.out _)).mono ?_
     rintro e w2 ⟨rfl, hb2⟩
     have hp2 := (hp.alloc (.cells #[.int .i64 r.first, .int .i64 r.last, .int .i64 r.kind, .string ⟨r.finals.toArray⟩, .slice A r.nums.length cp1, .string ⟨r.chars.toArray⟩, .bool r.keys] 54)).below hb2 (by simp; exact Nat.lt_succ_of_lt hp.lt)
     have hbe := (hbw.alloc hbw.size (.cells #[.int .i64 r.first, .int .i64 r.last, .int .i64 r.kind, .string ⟨r.finals.toArray⟩, .slice A r.nums.length cp1, .string ⟨r.chars.toArray⟩, .bool r.keys] 54)).trans (hb2.mono (by simp; exact Nat.le_succ_of_le hbw.size))
     have q0 := hp2.frozen 0
     have q1 := hp2.frozen 1
     have q2 := hp2.frozen 2
     have q3 := hp2.frozen 3
     have q4 := hp2.frozen 4
     have c0 := hp2.cell 0
     have c1 := hp2.cell 1
     have c2 := hp2.cell 2
     have c3 := hp2.cell 3
     have c4 := hp2.cell 4
     go_wp2_with fail
     exact bodyPost_ret (v := .agg #[.int .i64 K, .int .u8 F, .int .i64 N, .int .i64 C, .bool B]) (by simp [results, Tryd.results11, go_sem, c0, c1, c2, c3, c4]) rfl ⟨by rw [← HE.out]; rfl, below_set5 hbe (Nat.le_refl _) _ _ _ _ _⟩
    ·have HN2 := Lib.hid (take_more HN.out hlt hr (inRo_no (c := c) (r := r) (fun h => h2 h.2)))
     clear hr
     go_wp2
     go_roundw
     case rel => exact ⟨k + 1, by omega, by go_num, HN2, hp.alloc _, hbw.alloc hbw.size _⟩
     case measure => simp [intOf]; omega
   ·have HN2 := Lib.hid (take_more HN.out hlt hr (inRo_no (c := c) (r := r) (fun h => h1 h.1)))
    clear hr
    go_wp2
    go_roundw
    case rel => exact ⟨k + 1, by omega, by go_num, HN2, hp.alloc _, hbw.alloc hbw.size _⟩
    case measure => simp [intOf]; omega
  ·obtain rfl : k = 22 := by omega
   have HF := Lib.hid (find_all_no HN.out)
   have hs2 := hs.below hbw (Nat.le_refl _)
   obtain ⟨T, hT⟩ : ∃ T, txK c = T := ⟨_, rfl⟩
   have HE : Hid ((if T then (⟨1, 0, 0, 0, false⟩ : En) else ⟨0, 0, 0, 0, false⟩) = lookE c) := Lib.hid (by rw [← HC.out, ← hT]; unfold lookP; rw [HF.out])
   have HQ := Lib.hid (isText_any c wr hs2)
   rw [hT] at HQ
   clear hT
   go_wp2_with fail
   refine HQ.out.mono ?_
   rintro e w2 ⟨rfl, hb2⟩
   have hp2 := hp.below hb2 hp.lt
   have hbe := hbw.trans (hb2.mono hbw.size)
   have q0 := hp2.frozen 0
   have q1 := hp2.frozen 1
   have q2 := hp2.frozen 2
   have q3 := hp2.frozen 3
   have q4 := hp2.frozen 4
   have c0 := hp2.cell 0
   have c1 := hp2.cell 1
   have c2 := hp2.cell 2
   have c3 := hp2.cell 3
   have c4 := hp2.cell 4
   cases T with
   | true =>
     go_wp2_with fail
     exact bodyPost_ret (v := .agg #[.int .i64 1, .int .u8 0, .int .i64 0, .int .i64 0, .bool false]) (by simp [results, Tryd.results11, go_sem, c0, c1, c2, c3, c4]) rfl ⟨by rw [← HE.out]; rfl, below_set5 hbe (Nat.le_refl _) _ _ _ _ _⟩
   | false =>
     go_wp2_with fail
     exact bodyPost_ret (v := .agg #[.int .i64 0, .int .u8 0, .int .i64 0, .int .i64 0, .bool false]) (by simp [results, Tryd.results11, go_sem, c0, c1, c2, c3, c4]) rfl ⟨by rw [← HE.out]; rfl, below_set5 hbe (Nat.le_refl _) _ _ _ _ _⟩
end Go.Proofs.YtdfojkbgdoiglaaDoor
namespace Go.Proofs.YtdfojkbgdoiglaaDoor
open Go.RowKit
def typeN (n : Int) : Bool := n == 1 || n == 2 || n == 3
theorem type_eq (n : Int) : typeN n = (!(decide (n < 1) || decide (3 < n))) := by
 unfold typeN
 rw [Bool.eq_iff_iff]
 simp only [Bool.or_eq_true, beq_iff_eq, Bool.not_eq_true', Bool.or_eq_false_iff, decide_eq_false_iff_not]
 omega
theorem are_eq (n : Int) : areN n = (!(decide (n < 0) || decide (255 < n))) := by
 unfold areN
 rw [Bool.eq_iff_iff]
 simp only [Bool.and_eq_true, decide_eq_true_eq, Bool.not_eq_true', Bool.or_eq_false_iff, decide_eq_false_iff_not]
 omega
set_option maxRecDepth 100000 in
theorem type_any (n : Int) (w : World) : Calls Tryd.prog 33 #[.int .i64 n] w fun e w' => e = .returned (.bool (typeN n)) ∧ Below w.heap.size w w' := by
 unfold typeN
 obtain ⟨a, ha⟩ : ∃ a, (n == 1) = a := ⟨_, rfl⟩
 obtain ⟨b, hb⟩ : ∃ a, (n == 2) = a := ⟨_, rfl⟩
 obtain ⟨c, hc⟩ : ∃ a, (n == 3) = a := ⟨_, rfl⟩
 rw [ha, hb, hc]
 go_enter Tryd.func33, Tryd.ntmps33
 cases a <;> cases b <;> cases c <;> (go_wp2_with fail; go_ret; exact ⟨rfl, Below.refl _ _⟩)
set_option maxRecDepth 100000 in
theorem tn_any (c : Int) (w : World) (hs : Siz w) (hR : Rws w) : Calls Tryd.prog 34 #[.int .i64 c] w fun e w' => e = .returned (.bool (c == 0 || textK c)) ∧ Below w.heap.size w w' := by
 obtain ⟨a, ha⟩ : ∃ a, (c == 0) = a := ⟨_, rfl⟩
 obtain ⟨ki, hki⟩ : ∃ q, (lookE c).kind = q := ⟨_, rfl⟩
 have hf : ∀ W : World, (Instr.field 35 (enV (lookE c)) 0).run Tryd.prog W = .ok (.int .i64 ki) W := fun W => by
  rw [← hki]
  exact (by kernel_rfl : (Instr.field 35 (enV (lookE c)) 0).run Tryd.prog W = .ok (.int .i64 (lookE c).kind) W)
 have hlook := plook_any c w hs hR
 have HT := Lib.hid (show textK c = (ki == 1) by unfold textK; rw [hki])
 obtain ⟨q, hq⟩ : ∃ q, (ki == 1) = q := ⟨_, rfl⟩
 rw [HT.out, ha, hq]
 obtain ⟨E, hE⟩ : ∃ E, enV (lookE c) = E := ⟨_, rfl⟩
 rw [hE] at hf hlook
 clear hE hki HT hs hR
 go_enter Tryd.func34, Tryd.ntmps34
 cases a with
 | true =>
   go_wp2_with fail
   go_ret
   exact ⟨rfl, Below.refl _ _⟩
 | false =>
   go_wp2_with fail
   refine hlook.mono ?_
   clear hlook
   rintro e w1 ⟨rfl, hb1⟩
   go_wp2_with fail
   go_ret
   exact ⟨rfl, hb1⟩
set_option maxRecDepth 100000 in
set_option maxHeartbeats 8000000 in
theorem pmods_may (k : Ky) (hs : k.text.size ≤ 4294967296) (w : World) (hz : Siz w) (hR : Rws w) : Calls Tryd.prog 16 #[kyV k] w fun e w' => e = .returned (.bool (mayK k)) ∧ Below w.heap.size w w' := by
 obtain ⟨code, mods, typ, shift, base, text⟩ := k
 simp only at hs
 have HLK : Hid (∀ W, Siz W → Rws W → Calls Tryd.prog 11 #[.int .i64 code] W fun e w' => e = .returned (enV (lookE code)) ∧ Below W.heap.size W w') := Lib.hid fun W a b => plook_any code W a b
 obtain ⟨ki, hki⟩ : ∃ q, (lookE code).kind = q := ⟨_, rfl⟩
 have hf : ∀ W : World, (Instr.field 35 (enV (lookE code)) 0).run Tryd.prog W = .ok (.int .i64 ki) W := fun W => by
  rw [← hki]
  exact (by kernel_rfl : (Instr.field 35 (enV (lookE code)) 0).run Tryd.prog W = .ok (.int .i64 (lookE code).kind) W)
 obtain ⟨n0, h0⟩ : ∃ a, (ki != 0) = a := ⟨_, rfl⟩
 obtain ⟨am, h1⟩ : ∃ a, areN mods = a := ⟨_, rfl⟩
 obtain ⟨ty, h2⟩ : ∃ a, typeN typ = a := ⟨_, rfl⟩
 obtain ⟨p, hp⟩ : ∃ a, (shift == 0 || textK shift) = a := ⟨_, rfl⟩
 obtain ⟨q, hq⟩ : ∃ a, (base == 0 || textK base) = a := ⟨_, rfl⟩
 obtain ⟨r, hr⟩ : ∃ a, cleanB text = a := ⟨_, rfl⟩
 have HM := Lib.hid (show mayK ⟨code, mods, typ, shift, base, text⟩ = (n0 && (am && (ty && (p && (q && r))))) by
  rw [← h0, ← hki, ← h1, ← h2, ← hp, ← hq, ← hr, are_eq, type_eq]
  show (!((lookE code).kind == 0 || decide (mods < 0) || decide (255 < mods) || decide (typ < 1) || decide (3 < typ)) && ((shift == 0 || textK shift) && (base == 0 || textK base) && cleanB text)) = _
  show _ = ((!((lookE code).kind == 0)) && _)
  generalize ((lookE code).kind == 0) = x1
  generalize decide (mods < 0) = x2
  generalize decide (255 < mods) = x3
  generalize decide (typ < 1) = x4
  generalize decide (3 < typ) = x5
  generalize (shift == 0 || textK shift) = x6
  generalize (base == 0 || textK base) = x7
  generalize cleanB text = x8
  revert x1 x2 x3 x4 x5 x6 x7 x8
  decide)
 have HA : Hid (∀ W, Calls Tryd.prog 32 #[.int .i64 mods] W fun e w' => e = .returned (.bool am) ∧ Below W.heap.size W w') := Lib.hid fun W => are_at h1 W
 have HT : Hid (∀ W, Calls Tryd.prog 33 #[.int .i64 typ] W fun e w' => e = .returned (.bool ty) ∧ Below W.heap.size W w') := Lib.hid fun W => by
  have := type_any typ W
  rwa [h2] at this
 have HP : Hid (∀ W, Siz W → Rws W → Calls Tryd.prog 34 #[.int .i64 shift] W fun e w' => e = .returned (.bool p) ∧ Below W.heap.size W w') := Lib.hid fun W a b => by
  have := tn_any shift W a b
  rwa [hp] at this
 have HQ : Hid (∀ W, Siz W → Rws W → Calls Tryd.prog 34 #[.int .i64 base] W fun e w' => e = .returned (.bool q) ∧ Below W.heap.size W w') := Lib.hid fun W a b => by
  have := tn_any base W a b
  rwa [hq] at this
 have HC : Hid (∀ W, Siz W → Calls Tryd.prog 35 #[.string text] W fun e w' => e = .returned (.bool r) ∧ Below W.heap.size W w') := Lib.hid fun W a => by
  have := pkeytext_any text hs W a
  rwa [hr] at this
 obtain ⟨E, hE⟩ : ∃ E, enV (lookE code) = E := ⟨_, rfl⟩
 rw [hE] at HLK hf
 rw [HM.out]
 clear hE hki hp hq hr hs HM h1 h2
 have hB := ky_box w ⟨code, mods, typ, shift, base, text⟩
 have k0 := Blk.new w 23 (kyC ⟨code, mods, typ, shift, base, text⟩)
 rw [kyV]
 rw [kyC] at hB k0
 simp only at hB k0 ⊢
 have hz0 := hz.below' hB
 have hR0 := hR.below hB
 have c0 := k0.cell 0
 go_enter Tryd.func16, Tryd.ntmps16
 go_wp2_with fail
 refine (HLK.out _ hz0 hR0).mono ?_
 rintro e w1 ⟨rfl, hb1⟩
 have k1 := k0.below hb1 k0.lt
 have hB1 := hB.trans (hb1.mono hB.size)
 clear HLK k0 hB hb1 c0 hz0 hR0
 have c1 := k1.cell 1
 cases n0 with
 | false =>
   go_wp2_with fail
   go_ret
   exact ⟨rfl, hB1⟩
 | true =>
 go_wp2_with fail
 refine (HA.out _).mono ?_
 rintro e w2 ⟨rfl, hb2⟩
 have k2 := k1.below hb2 k1.lt
 have hB2 := hB1.trans (hb2.mono hB1.size)
 clear HA k1 hB1 hb2 c1
 have c2 := k2.cell 2
 cases am with
 | false =>
   go_wp2_with fail
   go_ret
   exact ⟨rfl, hB2⟩
 | true =>
 go_wp2_with fail
 refine (HT.out _).mono ?_
 rintro e w3 ⟨rfl, hb3⟩
 have k3 := k2.below hb3 k2.lt
 have hB3 := hB2.trans (hb3.mono hB2.size)
 clear HT k2 hB2 hb3 c2
 have c3 := k3.cell 3
 cases ty with
 | false =>
   go_wp2_with fail
   go_ret
   exact ⟨rfl, hB3⟩
 | true =>
 go_wp2_with fail
 refine (HP.out _ (hz.below' hB3) (hR.below hB3)).mono ?_
 rintro e w4 ⟨rfl, hb4⟩
 have k4 := k3.below hb4 k3.lt
 have hB4 := hB3.trans (hb4.mono hB3.size)
 clear HP k3 hB3 hb4 c3
 have c4 := k4.cell 4
 cases p with
 | false =>
   go_wp2_with fail
   go_ret
   exact ⟨rfl, hB4⟩
 | true =>
 go_wp2_with fail
 refine (HQ.out _ (hz.below' hB4) (hR.below hB4)).mono ?_
 rintro e w5 ⟨rfl, hb5⟩
 have k5 := k4.below hb5 k4.lt
 have hB5 := hB4.trans (hb5.mono hB4.size)
 clear HQ k4 hB4 hb5 c4
 have c5 := k5.cell 5
 cases q with
 | false =>
   go_wp2_with fail
   go_ret
   exact ⟨rfl, hB5⟩
 | true =>
 go_wp2_with fail
 refine (HC.out _ (hz.below' hB5)).mono ?_
 rintro e w6 ⟨rfl, hb6⟩
 have hB6 := hB5.trans (hb6.mono hB5.size)
 clear HC k5 hB5 hb6 c5
 go_wp2_with fail
 go_ret
 exact ⟨rfl, hB6⟩
end Go.Proofs.YtdfojkbgdoiglaaDoor
