/-
  Layer 12, walked: the document's functions but Back. Layer 9, the landed keys, walked: Look. Layer 10, the landed mods: May. Layer 3, walked: the program's parameters as a text.
-/
import Derived.Test.YtmagokkegadmiaaGreatDoorG09
import Derived.Test.YtmagokkegadmiaaGreatDoorG17
import Derived.Test.YtmagokkegadmiaaGreatDoorG20
import Derived.Test.YtmagokkegadmiaaGreatDoorG22
import Derived.Test.YtmagokkegadmiaaGreatDoorG29
namespace Go.Proofs.YtmagokkegadmiaaGreatDoor
open Go.RowKit

set_option maxRecDepth 100000 in
set_option maxHeartbeats 4000000 in
theorem rchar_any (k : Ky) (hk : okK k) (w : World) : Calls Tryz.prog 24 #[kyV k] w fun e w' => e = .returned (.int .i64 (charK k)) ∧ Below w.heap.size w w' := by
  obtain ⟨ki, hki⟩ : ∃ q, (lookE k.code).kind = q := ⟨_, rfl⟩
  have hf : ∀ W : World, (Instr.field 54 (enV (lookE k.code)) 0).run Tryz.prog W = .ok (.int .i64 ki) W := fun W => by
    rw [← hki]
    exact (by kernel_rfl : (Instr.field 54 (enV (lookE k.code)) 0).run Tryz.prog W = .ok (.int .i64 (lookE k.code).kind) W)
  have HLK : Hid (∀ W, Calls Tryz.prog 22 #[.int .i64 k.code] W fun e w' => e = .returned (enV (lookE k.code)) ∧ Below W.heap.size W w') := Lib.hid fun W => rlook_any k.code W
  have HSH : Hid (∀ W, Calls Tryz.prog 14 #[kyV k] W fun e w' => e = .returned (.int .i64 (shownK k)) ∧ Below W.heap.size W w') := Lib.hid fun W => rshown_any k hk W
  obtain ⟨t, ht⟩ : ∃ t, (ki == 1) = t := ⟨_, rfl⟩
  have HC := Lib.hid (show charK k = if t = true then shownK k else k.code by unfold charK; rw [hki, ← ht]; simp)
  obtain ⟨R, hR⟩ : ∃ R, charK k = R := ⟨_, rfl⟩
  obtain ⟨sh, hsh⟩ : ∃ x, shownK k = x := ⟨_, rfl⟩
  obtain ⟨E, hE⟩ : ∃ E, enV (lookE k.code) = E := ⟨_, rfl⟩
  rw [hE] at HLK hf
  rw [hR] at HC ⊢
  rw [hsh] at HSH HC
  clear hki hE hR hsh hk
  obtain ⟨code, mods, typ, shift, base, text⟩ := k
  simp only [kyV] at HSH HLK HC ⊢
  have k0 := Blk.new w 25 #[.int .i64 code, .int .i64 mods, .int .i64 typ, .int .i64 shift, .int .i64 base, .string text]
  have hB : Below w.heap.size w (w.alloc (.cells #[.int .i64 code, .int .i64 mods, .int .i64 typ, .int .i64 shift, .int .i64 base, .string text] 25)) := (Below.refl _ w).alloc (Nat.le_refl _) _
  have a0 := k0.cell 0
  go_enter Tryz.func24, Tryz.ntmps24
  go_wp2_with fail
  refine (HLK.out _).mono ?_
  rintro e w1 ⟨rfl, hb1⟩
  have k1 := k0.below hb1 k0.lt
  have hB1 := hB.trans (hb1.mono hB.size)
  clear HLK k0 hB hb1 a0
  obtain ⟨a0, a1, a2, a3, a4, a5⟩ := Blk.cells6 k1
  cases t with
  | true =>
    have HR := Lib.hid (show R = sh from HC.out)
    clear HC
    go_wp2_with fail
    refine (HSH.out _).mono ?_
    rintro e w2 ⟨rfl, hb2⟩
    go_wp2_with fail
    go_ret
    exact ⟨ret_i HR.out.symm, hB1.trans (hb2.mono hB1.size)⟩
  | false =>
    have HR := Lib.hid (show R = code from HC.out)
    clear HC
    go_wp2_with fail
    go_ret
    exact ⟨ret_i HR.out.symm, hB1⟩
set_option maxRecDepth 100000 in
set_option maxHeartbeats 4000000 in
theorem rless_any (k : Ky) (hk : okK k) (w : World) : Calls Tryz.prog 23 #[kyV k] w fun e w' => e = .returned (.bool (lessK k)) ∧ Below w.heap.size w w' := by
  obtain ⟨ki, hki⟩ : ∃ q, (lookE k.code).kind = q := ⟨_, rfl⟩
  have hf : ∀ W : World, (Instr.field 54 (enV (lookE k.code)) 0).run Tryz.prog W = .ok (.int .i64 ki) W := fun W => by
    rw [← hki]
    exact (by kernel_rfl : (Instr.field 54 (enV (lookE k.code)) 0).run Tryz.prog W = .ok (.int .i64 (lookE k.code).kind) W)
  have HLK : Hid (∀ W, Calls Tryz.prog 22 #[.int .i64 k.code] W fun e w' => e = .returned (enV (lookE k.code)) ∧ Below W.heap.size W w') := Lib.hid fun W => rlook_any k.code W
  have HSH : Hid (∀ W, Calls Tryz.prog 14 #[kyV k] W fun e w' => e = .returned (.int .i64 (shownK k)) ∧ Below W.heap.size W w') := Lib.hid fun W => rshown_any k hk W
  have H4 : Hid (∀ W, Calls Tryz.prog 34 #[.int .i64 k.mods, .int .i64 4] W fun e w' => e = .returned (.bool (hasN k.mods 4)) ∧ Below W.heap.size W w') := Lib.hid fun W => rhas10_any k.mods 4 (by decide) (by decide) hk.mods.2 W
  have H1 : Hid (∀ W, Calls Tryz.prog 34 #[.int .i64 k.mods, .int .i64 1] W fun e w' => e = .returned (.bool (hasN k.mods 1)) ∧ Below W.heap.size W w') := Lib.hid fun W => rhas10_any k.mods 1 (by decide) (by decide) hk.mods.2 W
  obtain ⟨t, ht⟩ : ∃ t, (ki == 2) = t := ⟨_, rfl⟩
  obtain ⟨c4, h4⟩ : ∃ x, hasN k.mods 4 = x := ⟨_, rfl⟩
  obtain ⟨c1, h1⟩ : ∃ x, hasN k.mods 1 = x := ⟨_, rfl⟩
  obtain ⟨sh, hsh⟩ : ∃ x, shownK k = x := ⟨_, rfl⟩
  obtain ⟨fv, hfv⟩ : ∃ x, (foldN sh).1 = x := ⟨_, rfl⟩
  obtain ⟨fb, hfb⟩ : ∃ x, (foldN sh).2 = x := ⟨_, rfl⟩
  have HF : Hid (∀ W, Calls Tryz.prog 51 #[.int .i64 sh] W fun e w' => e = .returned (.tuple #[.int .i64 fv, .bool fb]) ∧ Below W.heap.size W w') := Lib.hid fun W => by
    have := rfold_any sh W
    rwa [hfv, hfb] at this
  obtain ⟨t9, h9⟩ : ∃ x, (k.code == 9) = x := ⟨_, rfl⟩
  obtain ⟨t13, h13⟩ : ∃ x, (k.code == 13) = x := ⟨_, rfl⟩
  have HC := Lib.hid (show lessK k = (c4 && if t = true then t9 || t13 else c1 || !fb) by
    unfold lessK
    rw [hki, h4, h1, hsh, hfb, h9, h13, ← ht]
    simp)
  obtain ⟨R, hR⟩ : ∃ R, lessK k = R := ⟨_, rfl⟩
  obtain ⟨E, hE⟩ : ∃ E, enV (lookE k.code) = E := ⟨_, rfl⟩
  rw [hE] at HLK hf
  rw [hR] at HC ⊢
  rw [hsh] at HSH
  rw [h4] at H4
  rw [h1] at H1
  clear hki hE hR hsh hk h4 h1 hfv hfb
  obtain ⟨code, mods, typ, shift, base, text⟩ := k
  simp only [kyV] at HSH HLK HC H4 H1 h9 h13 ⊢
  have k0 := Blk.new w 25 #[.int .i64 code, .int .i64 mods, .int .i64 typ, .int .i64 shift, .int .i64 base, .string text]
  have hB : Below w.heap.size w (w.alloc (.cells #[.int .i64 code, .int .i64 mods, .int .i64 typ, .int .i64 shift, .int .i64 base, .string text] 25)) := (Below.refl _ w).alloc (Nat.le_refl _) _
  have a1 := k0.cell 1
  go_enter Tryz.func23, Tryz.ntmps23
  go_wp2_with fail
  refine (H4.out _).mono ?_
  rintro e w1 ⟨rfl, hb1⟩
  have k1 := k0.below hb1 k0.lt
  have hB1 := hB.trans (hb1.mono hB.size)
  clear k0 hB hb1 a1 H4
  have a0 := k1.cell 0
  cases c4 with
  | false =>
    have HR := Lib.hid (show R = false from HC.out)
    clear HC
    go_wp2_with fail
    go_ret
    exact ⟨ret_b HR.out.symm, hB1⟩
  | true =>
    go_wp2_with fail
    refine (HLK.out _).mono ?_
    rintro e w2 ⟨rfl, hb2⟩
    have k2 := k1.below hb2 k1.lt
    have hB2 := hB1.trans (hb2.mono hB1.size)
    clear k1 hB1 hb2 a0 HLK
    obtain ⟨a0, a1, a2, a3, a4, a5⟩ := Blk.cells6 k2
    cases t with
    | true =>
      have HR := Lib.hid (show R = (t9 || t13) from HC.out)
      clear HC
      cases t9 with
      | true =>
        go_wp2_with fail
        go_ret
        exact ⟨ret_b HR.out.symm, hB2⟩
      | false =>
        go_wp2_with fail
        go_ret
        exact ⟨ret_b HR.out.symm, hB2⟩
    | false =>
      have HR := Lib.hid (show R = (c1 || !fb) from HC.out)
      clear HC
      go_wp2_with fail
      refine (HSH.out _).mono ?_
      rintro e w3 ⟨rfl, hb3⟩
      have k3 := k2.below hb3 k2.lt
      have hB3 := hB2.trans (hb3.mono hB2.size)
      clear k2 hB2 hb3 a0 a1 a2 a3 a4 a5 HSH
      go_wp2_with fail
      refine (HF.out _).mono ?_
      rintro e w4 ⟨rfl, hb4⟩
      have k4 := k3.below hb4 k3.lt
      have hB4 := hB3.trans (hb4.mono hB3.size)
      clear k3 hB3 hb4 HF
      have a1 := k4.cell 1
      go_wp2_with fail
      refine (H1.out _).mono ?_
      rintro e w5 ⟨rfl, hb5⟩
      have hB5 := hB4.trans (hb5.mono hB4.size)
      cases c1 with
      | true =>
        go_wp2_with fail
        go_ret
        exact ⟨ret_b HR.out.symm, hB5⟩
      | false =>
        go_wp2_with fail
        go_ret
        exact ⟨ret_b HR.out.symm, hB5⟩
end Go.Proofs.YtmagokkegadmiaaGreatDoor
namespace Go.Proofs.YtmagokkegadmiaaGreatDoor
open Go.RowKit

theorem find_take_no {k : Nat} {c : Int} (h : ∀ r ∈ roL.take k, inRo c r = false) {r : Ro} (hk : k < roL.length) (hr : roL[k] = r) (hi : inRo c r = true) : roL.find? (inRo c) = some r := by
  have e : roL = roL.take k ++ roL.drop k := (List.take_append_drop k roL).symm
  rw [List.drop_eq_getElem_cons hk, hr] at e
  rw [e, List.find?_append, List.find?_eq_none.2 (fun x hx => by rw [h x hx]; decide)]
  simp [hi]
theorem take_more {k : Nat} {c : Int} (h : ∀ r ∈ roL.take k, inRo c r = false) {r : Ro} (hk : k < roL.length) (hr : roL[k] = r) (hi : inRo c r = false) : ∀ r ∈ roL.take (k + 1), inRo c r = false := by
  rw [List.take_succ_eq_append_getElem hk, hr]
  intro x hx
  rcases List.mem_append.1 hx with hx | hx
  · exact h x hx
  · rw [List.mem_singleton.1 hx]; exact hi
theorem ro_mem {k : Nat} (hk : k < roL.length) {r : Ro} (hr : roL[k] = r) : r ∈ roL := hr ▸ List.getElem_mem hk
theorem find_all_no {c : Int} (h : ∀ r ∈ roL.take 22, inRo c r = false) : roL.find? (inRo c) = none := by
  rw [show roL.take 22 = roL from rfl] at h
  exact List.find?_eq_none.2 (fun x hx => by rw [h x hx]; decide)
theorem below_set5 {B : Nat} {a w : World} (h : Below B a w) {b : Nat} (hb : B ≤ b) (x y z u v : Value) : Below B a (((((w.setCell ⟨b, 0, none⟩ x).setCell ⟨b, 1, none⟩ y).setCell ⟨b, 2, none⟩ z).setCell ⟨b, 3, none⟩ u).setCell ⟨b, 4, none⟩ v) :=
  ((((h.setCell (p := ⟨b, 0, none⟩) hb x).setCell (p := ⟨b, 1, none⟩) hb y).setCell (p := ⟨b, 2, none⟩) hb z).setCell (p := ⟨b, 3, none⟩) hb u).setCell (p := ⟨b, 4, none⟩) hb v
set_option maxRecDepth 100000 in
set_option maxHeartbeats 4000000 in
theorem plook_any (c : Int) (w : World) (hs : Siz w) (hR : Rws w) : Calls Tryz.prog 15 #[.int .i64 c] w fun e w' => e = .returned (enV (lookE c)) ∧ Below w.heap.size w w' := by
  have HC := Lib.hid (lookP_eq c)
  obtain ⟨b, o, cp, t, fz, hg, hg0, hb0, hrd⟩ := hR
  have cg := cell_of_row w 0 0 _ t fz hg
  simp only [List.getElem?_toArray, List.getElem?_cons_zero] at cg
  have hG : ∀ x, (w.alloc x).cell? ⟨0, 0, none⟩ = some (.slice (some ⟨b, o, none⟩) 22 cp) := fun x => (((Below.refl _ w).alloc (Nat.le_refl _) x).cell (p := ⟨0, 0, none⟩) hg0).trans cg
  have p0 := Blk.new w 37 #[.int .i64 0, .int .u8 0, .int .i64 0, .int .i64 0, .bool false]
  have hB0 := (Below.refl w.heap.size w).alloc (Nat.le_refl _) (.cells #[.int .i64 0, .int .u8 0, .int .i64 0, .int .i64 0, .bool false] 37)
  go_enter Tryz.func15, Tryz.ntmps15
  go_wp2
  clear hG cg hg
  go_loopw [7] (fun i wr => ∃ k : Nat, k ≤ 22 ∧ i = .int .i64 k ∧ Hid (∀ r ∈ roL.take k, inRo c r = false) ∧ Blk wr w.heap.size 37 #[.int .i64 0, .int .u8 0, .int .i64 0, .int .i64 0, .bool false] ∧ Below w.heap.size w wr) (fun i _ => 22 - (intOf i).toNat)
  case atStart => exact ⟨0, by omega, rfl, Lib.hid (by simp), p0, hB0⟩
  case round =>
    obtain ⟨k, hk, rfl, HN, hp, hbw⟩ := hrel
    clear p0 hB0
    by_cases hlt : k < 22
    · obtain ⟨r, hr⟩ : ∃ r, roL[k]'hlt = r := ⟨_, rfl⟩
      obtain ⟨A, cp1, hns, a0, a1, a2, a3, a4, a5, a6⟩ := (hrd.below hbw hb0).at_ hlt hr
      have hb1 : b < wr.heap.size := Nat.lt_of_lt_of_le hb0 hbw.size
      have HNS : Hid (∀ x, Rd (wr.alloc x) A (is_ r.nums)) := Lib.hid fun x => (hns.rd hbw.size).alloc x
      have k1 : (k : Int) < 22 := by omega
      have k0 : (0 : Int) ≤ (k : Int) := by omega
      have hx := ro_mem hlt hr
      clear hns
      by_cases h1 : r.first ≤ c
      · by_cases h2 : c ≤ r.last
        · have HF := Lib.hid (find_take_no HN.out hlt hr ((inRo_iff c r).2 ⟨h1, h2⟩))
          have HE : Hid (enV (entK r (c - r.first).toNat) = enV (lookE c)) := Lib.hid (by rw [← HC.out]; unfold lookP; rw [HF.out])
          obtain ⟨⟨K, F, N, C, B⟩, hE⟩ : ∃ E, entK r (c - r.first).toNat = E := ⟨_, rfl⟩
          have HQ : Hid (∀ W, Rd W A (is_ r.nums) → Calls Tryz.prog 35 #[.agg #[.int .i64 r.first, .int .i64 r.last, .int .i64 r.kind, .string ⟨r.finals.toArray⟩, .slice A r.nums.length cp1, .string ⟨r.chars.toArray⟩, .bool r.keys], .int .i64 c] W fun e w' => e = .returned (.agg #[.int .i64 K, .int .u8 F, .int .i64 N, .int .i64 C, .bool B]) ∧ Below W.heap.size W w') := Lib.hid fun W hW => by
            have := entry_ro r hx (c - r.first).toNat c (by omega) h2 A cp1 W hW
            rwa [hE] at this
          rw [hE] at HE
          clear hE hr
          go_wp2_with fail
          refine (HQ.out _ (HNS.out _)).mono ?_
          rintro e w2 ⟨rfl, hb2⟩
          have hp2 := (hp.alloc (.cells #[.int .i64 r.first, .int .i64 r.last, .int .i64 r.kind, .string ⟨r.finals.toArray⟩, .slice A r.nums.length cp1, .string ⟨r.chars.toArray⟩, .bool r.keys] 72)).below hb2 (by simp; exact Nat.lt_succ_of_lt hp.lt)
          have hbe := (hbw.alloc hbw.size (.cells #[.int .i64 r.first, .int .i64 r.last, .int .i64 r.kind, .string ⟨r.finals.toArray⟩, .slice A r.nums.length cp1, .string ⟨r.chars.toArray⟩, .bool r.keys] 72)).trans (hb2.mono (by simp; exact Nat.le_succ_of_le hbw.size))
          have q0 := hp2.frozen 0
          have q1 := hp2.frozen 1
          have q2 := hp2.frozen 2
          have q3 := hp2.frozen 3
          have q4 := hp2.frozen 4
          have c0 := hp2.cell 0
          have c1 := hp2.cell 1
          have c2 := hp2.cell 2
          have c3 := hp2.cell 3
          have c4 := hp2.cell 4
          go_wp2_with fail
          exact bodyPost_ret (v := .agg #[.int .i64 K, .int .u8 F, .int .i64 N, .int .i64 C, .bool B]) (by simp [results, Tryz.results15, go_sem, c0, c1, c2, c3, c4]) rfl ⟨by rw [← HE.out]; rfl, below_set5 hbe (Nat.le_refl _) _ _ _ _ _⟩
        · have HN2 := Lib.hid (take_more HN.out hlt hr (inRo_no (c := c) (r := r) (fun h => h2 h.2)))
          clear hr
          go_wp2
          go_roundw
          case rel => exact ⟨k + 1, by omega, by go_num, HN2, hp.alloc _, hbw.alloc hbw.size _⟩
          case measure => simp [intOf]; omega
      · have HN2 := Lib.hid (take_more HN.out hlt hr (inRo_no (c := c) (r := r) (fun h => h1 h.1)))
        clear hr
        go_wp2
        go_roundw
        case rel => exact ⟨k + 1, by omega, by go_num, HN2, hp.alloc _, hbw.alloc hbw.size _⟩
        case measure => simp [intOf]; omega
    · obtain rfl : k = 22 := by omega
      have HF := Lib.hid (find_all_no HN.out)
      have hs2 := hs.below hbw (Nat.le_refl _)
      obtain ⟨T, hT⟩ : ∃ T, txK c = T := ⟨_, rfl⟩
      have HE : Hid ((if T then (⟨1, 0, 0, 0, false⟩ : En) else ⟨0, 0, 0, 0, false⟩) = lookE c) := Lib.hid (by rw [← HC.out, ← hT]; unfold lookP; rw [HF.out])
      have HQ := Lib.hid (isText_any c wr hs2)
      rw [hT] at HQ
      clear hT
      go_wp2_with fail
      refine HQ.out.mono ?_
      rintro e w2 ⟨rfl, hb2⟩
      have hp2 := hp.below hb2 hp.lt
      have hbe := hbw.trans (hb2.mono hbw.size)
      have q0 := hp2.frozen 0
      have q1 := hp2.frozen 1
      have q2 := hp2.frozen 2
      have q3 := hp2.frozen 3
      have q4 := hp2.frozen 4
      have c0 := hp2.cell 0
      have c1 := hp2.cell 1
      have c2 := hp2.cell 2
      have c3 := hp2.cell 3
      have c4 := hp2.cell 4
      cases T with
      | true =>
        go_wp2_with fail
        exact bodyPost_ret (v := .agg #[.int .i64 1, .int .u8 0, .int .i64 0, .int .i64 0, .bool false]) (by simp [results, Tryz.results15, go_sem, c0, c1, c2, c3, c4]) rfl ⟨by rw [← HE.out]; rfl, below_set5 hbe (Nat.le_refl _) _ _ _ _ _⟩
      | false =>
        go_wp2_with fail
        exact bodyPost_ret (v := .agg #[.int .i64 0, .int .u8 0, .int .i64 0, .int .i64 0, .bool false]) (by simp [results, Tryz.results15, go_sem, c0, c1, c2, c3, c4]) rfl ⟨by rw [← HE.out]; rfl, below_set5 hbe (Nat.le_refl _) _ _ _ _ _⟩
end Go.Proofs.YtmagokkegadmiaaGreatDoor
namespace Go.Proofs.YtmagokkegadmiaaGreatDoor
open Go.RowKit

def typeN (n : Int) : Bool := n == 1 || n == 2 || n == 3
theorem type_eq (n : Int) : typeN n = (!(decide (n < 1) || decide (3 < n))) := by
  unfold typeN
  rw [Bool.eq_iff_iff]
  simp only [Bool.or_eq_true, beq_iff_eq, Bool.not_eq_true', Bool.or_eq_false_iff, decide_eq_false_iff_not]
  omega
theorem are_eq (n : Int) : areN n = (!(decide (n < 0) || decide (255 < n))) := by
  unfold areN
  rw [Bool.eq_iff_iff]
  simp only [Bool.and_eq_true, decide_eq_true_eq, Bool.not_eq_true', Bool.or_eq_false_iff, decide_eq_false_iff_not]
  omega
set_option maxRecDepth 100000 in
theorem type_any (n : Int) (w : World) : Calls Tryz.prog 61 #[.int .i64 n] w fun e w' => e = .returned (.bool (typeN n)) ∧ Below w.heap.size w w' := by
  unfold typeN
  obtain ⟨a, ha⟩ : ∃ a, (n == 1) = a := ⟨_, rfl⟩
  obtain ⟨b, hb⟩ : ∃ a, (n == 2) = a := ⟨_, rfl⟩
  obtain ⟨c, hc⟩ : ∃ a, (n == 3) = a := ⟨_, rfl⟩
  rw [ha, hb, hc]
  go_enter Tryz.func61, Tryz.ntmps61
  cases a <;> cases b <;> cases c <;> (go_wp2_with fail; go_ret; exact ⟨rfl, Below.refl _ _⟩)
set_option maxRecDepth 100000 in
theorem tn_any (c : Int) (w : World) (hs : Siz w) (hR : Rws w) : Calls Tryz.prog 62 #[.int .i64 c] w fun e w' => e = .returned (.bool (c == 0 || textK c)) ∧ Below w.heap.size w w' := by
  obtain ⟨a, ha⟩ : ∃ a, (c == 0) = a := ⟨_, rfl⟩
  obtain ⟨ki, hki⟩ : ∃ q, (lookE c).kind = q := ⟨_, rfl⟩
  have hf : ∀ W : World, (Instr.field 37 (enV (lookE c)) 0).run Tryz.prog W = .ok (.int .i64 ki) W := fun W => by
    rw [← hki]
    exact (by kernel_rfl : (Instr.field 37 (enV (lookE c)) 0).run Tryz.prog W = .ok (.int .i64 (lookE c).kind) W)
  have hlook := plook_any c w hs hR
  have HT := Lib.hid (show textK c = (ki == 1) by unfold textK; rw [hki])
  obtain ⟨q, hq⟩ : ∃ q, (ki == 1) = q := ⟨_, rfl⟩
  rw [HT.out, ha, hq]
  obtain ⟨E, hE⟩ : ∃ E, enV (lookE c) = E := ⟨_, rfl⟩
  rw [hE] at hf hlook
  clear hE hki HT hs hR
  go_enter Tryz.func62, Tryz.ntmps62
  cases a with
  | true =>
    go_wp2_with fail
    go_ret
    exact ⟨rfl, Below.refl _ _⟩
  | false =>
    go_wp2_with fail
    refine hlook.mono ?_
    clear hlook
    rintro e w1 ⟨rfl, hb1⟩
    go_wp2_with fail
    go_ret
    exact ⟨rfl, hb1⟩
set_option maxRecDepth 100000 in
set_option maxHeartbeats 8000000 in
theorem pmods_may (k : Ky) (hs : k.text.size ≤ 4294967296) (w : World) (hz : Siz w) (hR : Rws w) : Calls Tryz.prog 37 #[kyV k] w fun e w' => e = .returned (.bool (mayK k)) ∧ Below w.heap.size w w' := by
  obtain ⟨code, mods, typ, shift, base, text⟩ := k
  simp only at hs
  have HLK : Hid (∀ W, Siz W → Rws W → Calls Tryz.prog 15 #[.int .i64 code] W fun e w' => e = .returned (enV (lookE code)) ∧ Below W.heap.size W w') := Lib.hid fun W a b => plook_any code W a b
  obtain ⟨ki, hki⟩ : ∃ q, (lookE code).kind = q := ⟨_, rfl⟩
  have hf : ∀ W : World, (Instr.field 37 (enV (lookE code)) 0).run Tryz.prog W = .ok (.int .i64 ki) W := fun W => by
    rw [← hki]
    exact (by kernel_rfl : (Instr.field 37 (enV (lookE code)) 0).run Tryz.prog W = .ok (.int .i64 (lookE code).kind) W)
  obtain ⟨n0, h0⟩ : ∃ a, (ki != 0) = a := ⟨_, rfl⟩
  obtain ⟨am, h1⟩ : ∃ a, areN mods = a := ⟨_, rfl⟩
  obtain ⟨ty, h2⟩ : ∃ a, typeN typ = a := ⟨_, rfl⟩
  obtain ⟨p, hp⟩ : ∃ a, (shift == 0 || textK shift) = a := ⟨_, rfl⟩
  obtain ⟨q, hq⟩ : ∃ a, (base == 0 || textK base) = a := ⟨_, rfl⟩
  obtain ⟨r, hr⟩ : ∃ a, cleanB text = a := ⟨_, rfl⟩
  have HM := Lib.hid (show mayK ⟨code, mods, typ, shift, base, text⟩ = (n0 && (am && (ty && (p && (q && r))))) by
    rw [← h0, ← hki, ← h1, ← h2, ← hp, ← hq, ← hr, are_eq, type_eq]
    show (!((lookE code).kind == 0 || decide (mods < 0) || decide (255 < mods) || decide (typ < 1) || decide (3 < typ)) && ((shift == 0 || textK shift) && (base == 0 || textK base) && cleanB text)) = _
    show _ = ((!((lookE code).kind == 0)) && _)
    generalize ((lookE code).kind == 0) = x1
    generalize decide (mods < 0) = x2
    generalize decide (255 < mods) = x3
    generalize decide (typ < 1) = x4
    generalize decide (3 < typ) = x5
    generalize (shift == 0 || textK shift) = x6
    generalize (base == 0 || textK base) = x7
    generalize cleanB text = x8
    revert x1 x2 x3 x4 x5 x6 x7 x8
    decide)
  have HA : Hid (∀ W, Calls Tryz.prog 46 #[.int .i64 mods] W fun e w' => e = .returned (.bool am) ∧ Below W.heap.size W w') := Lib.hid fun W => are_at h1 W
  have HT : Hid (∀ W, Calls Tryz.prog 61 #[.int .i64 typ] W fun e w' => e = .returned (.bool ty) ∧ Below W.heap.size W w') := Lib.hid fun W => by
    have := type_any typ W
    rwa [h2] at this
  have HP : Hid (∀ W, Siz W → Rws W → Calls Tryz.prog 62 #[.int .i64 shift] W fun e w' => e = .returned (.bool p) ∧ Below W.heap.size W w') := Lib.hid fun W a b => by
    have := tn_any shift W a b
    rwa [hp] at this
  have HQ : Hid (∀ W, Siz W → Rws W → Calls Tryz.prog 62 #[.int .i64 base] W fun e w' => e = .returned (.bool q) ∧ Below W.heap.size W w') := Lib.hid fun W a b => by
    have := tn_any base W a b
    rwa [hq] at this
  have HC : Hid (∀ W, Siz W → Calls Tryz.prog 63 #[.string text] W fun e w' => e = .returned (.bool r) ∧ Below W.heap.size W w') := Lib.hid fun W a => by
    have := pkeytext_any text hs W a
    rwa [hr] at this
  obtain ⟨E, hE⟩ : ∃ E, enV (lookE code) = E := ⟨_, rfl⟩
  rw [hE] at HLK hf
  rw [HM.out]
  clear hE hki hp hq hr hs HM h1 h2
  have hB := ky_box w ⟨code, mods, typ, shift, base, text⟩
  have k0 := Blk.new w 25 (kyC ⟨code, mods, typ, shift, base, text⟩)
  rw [kyV]
  rw [kyC] at hB k0
  simp only at hB k0 ⊢
  have hz0 := hz.below' hB
  have hR0 := hR.below hB
  have c0 := k0.cell 0
  go_enter Tryz.func37, Tryz.ntmps37
  go_wp2_with fail
  refine (HLK.out _ hz0 hR0).mono ?_
  rintro e w1 ⟨rfl, hb1⟩
  have k1 := k0.below hb1 k0.lt
  have hB1 := hB.trans (hb1.mono hB.size)
  clear HLK k0 hB hb1 c0 hz0 hR0
  have c1 := k1.cell 1
  cases n0 with
  | false =>
    go_wp2_with fail
    go_ret
    exact ⟨rfl, hB1⟩
  | true =>
  go_wp2_with fail
  refine (HA.out _).mono ?_
  rintro e w2 ⟨rfl, hb2⟩
  have k2 := k1.below hb2 k1.lt
  have hB2 := hB1.trans (hb2.mono hB1.size)
  clear HA k1 hB1 hb2 c1
  have c2 := k2.cell 2
  cases am with
  | false =>
    go_wp2_with fail
    go_ret
    exact ⟨rfl, hB2⟩
  | true =>
  go_wp2_with fail
  refine (HT.out _).mono ?_
  rintro e w3 ⟨rfl, hb3⟩
  have k3 := k2.below hb3 k2.lt
  have hB3 := hB2.trans (hb3.mono hB2.size)
  clear HT k2 hB2 hb3 c2
  have c3 := k3.cell 3
  cases ty with
  | false =>
    go_wp2_with fail
    go_ret
    exact ⟨rfl, hB3⟩
  | true =>
  go_wp2_with fail
  refine (HP.out _ (hz.below' hB3) (hR.below hB3)).mono ?_
  rintro e w4 ⟨rfl, hb4⟩
  have k4 := k3.below hb4 k3.lt
  have hB4 := hB3.trans (hb4.mono hB3.size)
  clear HP k3 hB3 hb4 c3
  have c4 := k4.cell 4
  cases p with
  | false =>
    go_wp2_with fail
    go_ret
    exact ⟨rfl, hB4⟩
  | true =>
  go_wp2_with fail
  refine (HQ.out _ (hz.below' hB4) (hR.below hB4)).mono ?_
  rintro e w5 ⟨rfl, hb5⟩
  have k5 := k4.below hb5 k4.lt
  have hB5 := hB4.trans (hb5.mono hB4.size)
  clear HQ k4 hB4 hb5 c4
  have c5 := k5.cell 5
  cases q with
  | false =>
    go_wp2_with fail
    go_ret
    exact ⟨rfl, hB5⟩
  | true =>
  go_wp2_with fail
  refine (HC.out _ (hz.below' hB5)).mono ?_
  rintro e w6 ⟨rfl, hb6⟩
  have hB6 := hB5.trans (hb6.mono hB5.size)
  clear HC k5 hB5 hb6 c5
  go_wp2_with fail
  go_ret
  exact ⟨rfl, hB6⟩
end Go.Proofs.YtmagokkegadmiaaGreatDoor
namespace Go.Proofs.YtmagokkegadmiaaGreatDoor
open Go.RowKit

theorem part_len22 (p : List Int) (h : partOk p) : (partL p).length ≤ 22 * p.length := partL_len p h
theorem own_full {w : World} {base : Nat} {e : TypeId} {g n : Nat} {xs : List Value} {l : List Value} (h : Own w base e 1 (.slice (some ⟨g, 0, none⟩) n n) n xs) (hl : l.length = n) (hx : ∀ j, j < n → xs[j]? = l[j]?) : Rd w (some ⟨g, 0, none⟩) l := by
  have h1 := h.1
  have : xs = l := List.ext_getElem? fun j => by
    by_cases hj : j < n
    · exact hx j hj
    · rw [List.getElem?_eq_none (by omega), List.getElem?_eq_none (by omega)]
  subst this
  exact h.rd

set_option maxRecDepth 100000 in
set_option maxHeartbeats 8000000 in
theorem ptext_any (A : Option Addr) (c : Nat) (ps : List (List Int)) (w : World) (hp : parOk ps = true) (ht : Tab w) (hr : RdP w A ps) :
    Calls Tryz.prog 44 #[.slice A ps.length c] w fun e w' => e = .returned (.string ⟨(parL ps).toArray⟩) ∧ Below w.heap.size w w' := by
  obtain ⟨i0, hi, hz0, hz1, hz2⟩ : ∃ i, Tryz.prog.info? 9 = some i ∧ i.zero = some (.string ⟨#[]⟩) ∧ i.size = 1 ∧ i.bytes = 16 := ⟨_, rfl, rfl, rfl, rfl⟩
  obtain ⟨hl16, hp8⟩ := parOk_lens hp
  have HP8 := Lib.hid hp8
  obtain ⟨n, hn⟩ : ∃ n, ps.length = n := ⟨_, rfl⟩
  rw [hn] at hl16 ⊢
  have HN := Lib.hid hn
  have HP := Lib.hid hp
  clear hp hp8 hn
  go_enter Tryz.func44, Tryz.ntmps44
  go_wp2_with (first | (at_make; refine wpList_make_full _ rfl _ _ 103 rfl w.heap.size 9 i0 _ 1 Tryz.underlying103 hi hz0 hz1 _ _ _ _ n rfl rfl ?d0 ?d1 ?d2 ?d3 ?d4 ?_))
  case d0 => omega
  case d1 => omega
  case d2 => rw [hz2]; omega
  case d3 => simp only [maxLen]; omega
  case d4 => exact Nat.le_refl _
  intro w2 hown2 hg2
  have hb2 : Below w.heap.size w w2 := (Below.refl _ _).grown hg2 (Nat.le_refl _) (by simp)
  have ho2 := Own.of hown2
  have hlt2 : w.heap.size < w2.heap.size := (ho2.lt w.heap.size rfl).2
  clear hown2 hg2
  go_wp2_with fail
  go_loopw [14] (fun i wr => ∃ (k : Nat) (xs : List Value), k ≤ n ∧ i = .int .i64 k ∧ Own wr w.heap.size 9 1 (.slice (some ⟨w.heap.size, 0, none⟩) n n) n xs ∧ Below w.heap.size w wr ∧ Hid (∀ j, j < k → xs[j]? = (ss_ (ps.map partL))[j]?)) (fun i _ => n - (intOf i).toNat)
  case atStart => exact ⟨0, _, Nat.zero_le _, rfl, ho2, hb2, Lib.hid fun j h => absurd h (by omega)⟩
  case round =>
    obtain ⟨k, xs, hk, rfl, ho, hb, hdone⟩ := hrel
    clear ho2 hb2 hlt2
    have hltr : w.heap.size < wr.heap.size := (ho.lt w.heap.size rfl).2
    obtain ⟨wo, rfl⟩ : ∃ wo : World, wo = wr := ⟨_, rfl⟩
    by_cases hlt : k < n
    · have hkn : k < ps.length := by rw [HN.out]; exact hlt
      obtain ⟨b, o, hA, hbA, hcc⟩ := (hr.below hb) (by omega)
      cases hA
      obtain ⟨A', c', hck, hrk⟩ := hcc k hkn
      obtain ⟨p, hp'⟩ : ∃ p, (ps[k]'hkn) = p := ⟨_, rfl⟩
      have hpl := HP8.out _ (List.getElem_mem hkn)
      rw [hp'] at hck hrk hpl
      have HPP := Lib.hid hp'
      clear hp' hcc
      obtain ⟨m, hm⟩ : ∃ m, p.length = m := ⟨_, rfl⟩
      rw [hm] at hck hpl
      have HM := Lib.hid hm
      obtain ⟨hm8, hpo⟩ := hpl
      have HPO := Lib.hid hpo
      clear hm hpo
      go_wp2_with (first | (at_make; refine wpList_make_full _ rfl _ _ 103 rfl wo.heap.size 9 i0 _ 1 Tryz.underlying103 hi hz0 hz1 _ _ _ _ m rfl rfl ?d0 ?d1 ?d2 ?d3 ?d4 ?_))
      case d0 => omega
      case d1 => omega
      case d2 => rw [hz2]; omega
      case d3 => simp only [maxLen]; omega
      case d4 => exact Nat.le_refl _
      intro w3 hown3 hg3
      have hb3 : Below wo.heap.size wo w3 := (Below.refl _ _).grown hg3 (Nat.le_refl _) (by simp)
      have ho3 := Own.of hown3
      clear hown3 hg3
      go_wp2_with fail
      go_loopw [24] (fun i wr => ∃ (j : Nat) (ys : List Value), j ≤ m ∧ i = .int .i64 j ∧ Own wr wo.heap.size 9 1 (.slice (some ⟨wo.heap.size, 0, none⟩) m m) m ys ∧ Below wo.heap.size wo wr ∧ Hid (∀ t, t < j → ys[t]? = (ss_ (p.map textL))[t]?)) (fun i _ => m - (intOf i).toNat)
      case atStart => exact ⟨0, _, Nat.zero_le _, rfl, ho3, hb3, Lib.hid fun j h => absurd h (by omega)⟩
      case round =>
        obtain ⟨j, ys, hj, rfl, hoi, hbi, hdi⟩ := hrel
        clear ho3 hb3
        have hlti : wo.heap.size < wr.heap.size := (hoi.lt wo.heap.size rfl).2
        by_cases hjm : j < m
        · have hjp : j < p.length := by rw [HM.out]; exact hjm
          obtain ⟨b4, o4, hA4, hb4, hc4⟩ := (hrk.below hbi).int_at (by omega)
          cases hA4
          have hcj := hc4 j hjp
          obtain ⟨x, hx⟩ : ∃ x, p[j]'hjp = x := ⟨_, rfl⟩
          have hxr := HPO.out _ (List.getElem_mem hjp)
          rw [hx] at hcj hxr
          have HX := Lib.hid hx
          clear hx hc4
          obtain ⟨x0, x1⟩ := hxr
          go_wp2_with fail
          refine (text_any x _ (by omega) (by omega) (ht.below (hb.trans (hbi.mono hb.size)))).mono ?_
          rintro e w5 ⟨rfl, hb5⟩
          have ho5 := hoi.behind hb5
          have hyl : j < ys.length := by have := hoi.1; omega
          have hd1 := ho5.cellAt j hyl
          have hd2 := ho5.frozenAt j hyl
          have hbi5 : Below wo.heap.size wo w5 := hbi.trans (hb5.mono hbi.size)
          clear hb5 hcj
          go_wp2_with fail
          go_roundw
          case rel =>
            refine ⟨j + 1, _, by omega, by go_num, ho5.stored j _, hbi5.setCell (p := ⟨wo.heap.size, j, none⟩) (Nat.le_refl _) _, Lib.hid fun t ht => ?_⟩
            by_cases e : t = j
            · subst e
              rw [List.getElem?_set_self hyl]
              simp [ss_, List.getElem?_eq_getElem hjp, HX.out]
            · rw [List.getElem?_set_ne (fun h => e h.symm)]
              exact hdi.out t (by omega)
          case measure => simp [intOf]; omega
        · have hrow := own_full hoi (l := ss_ (p.map textL)) (by simp [ss_, HM.out]) (fun t ht => hdi.out t (by omega))
          have hJ := Lib.hid (join_part p)
          have hlen := partL_len p HPO.out
          rw [HM.out] at hlen
          have hml := Lib.hid (show (p.map textL).length = m by rw [List.length_map]; exact HM.out)
          go_wp2_with fail
          refine (join_any (some ⟨wo.heap.size, 0, none⟩) m m (p.map textL) [58] (partL p) _ hml.out hJ.out (by omega) (Nat.le_refl _) (by omega) hrow).mono ?_
          rintro e w5 ⟨rfl, hb5⟩
          have hbi5 : Below wo.heap.size wo w5 := hbi.trans (hb5.mono hbi.size)
          have ho5 := ho.behind hbi5
          have hxl : k < xs.length := by have := ho.1; omega
          have hd1 := ho5.cellAt k hxl
          have hd2 := ho5.frozenAt k hxl
          have hb5' : Below w.heap.size w w5 := hb.trans (hbi5.mono hb.size)
          clear hb5 hrow
          go_wp2_with fail
          go_roundw
          case rel =>
            refine ⟨k + 1, _, by omega, by go_num, ho5.stored k _, hb5'.setCell (p := ⟨w.heap.size, k, none⟩) (Nat.le_refl _) _, Lib.hid fun t ht => ?_⟩
            by_cases e : t = k
            · subst e
              rw [List.getElem?_set_self hxl]
              simp [ss_, List.getElem?_eq_getElem hkn, HPP.out]
            · rw [List.getElem?_set_ne (fun h => e h.symm)]
              exact hdone.out t (by omega)
          case measure => simp [intOf]; omega
    · have hrow := own_full ho (l := ss_ (ps.map partL)) (by simp [ss_, HN.out]) (fun t ht => hdone.out t (by omega))
      have hJ := Lib.hid (join_par ps)
      have hlen := parL_len ps HP8.out
      rw [HN.out] at hlen
      have hml := Lib.hid (show (ps.map partL).length = n by rw [List.length_map]; exact HN.out)
      go_wp2_with fail
      refine (join_any (some ⟨w.heap.size, 0, none⟩) n n (ps.map partL) [59] (parL ps) _ hml.out hJ.out (by omega) (Nat.le_refl _) (by omega) hrow).mono ?_
      rintro e w5 ⟨rfl, hb5⟩
      go_wp2_with fail
      go_ret
      exact ⟨rfl, hb.trans (hb5.mono hb.size)⟩
end Go.Proofs.YtmagokkegadmiaaGreatDoor
