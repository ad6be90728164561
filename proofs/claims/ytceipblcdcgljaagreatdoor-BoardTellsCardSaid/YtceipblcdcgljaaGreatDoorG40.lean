/-
  Layer 11, walked: the document's Key, all of it. Layer 14, walked: the document's Clears and Key. Layer 14, the laws' walks over the bundle: BoardTells.
-/
import Derived.Test.YtceipblcdcgljaaGreatDoorG07
import Derived.Test.YtceipblcdcgljaaGreatDoorG12
import Derived.Test.YtceipblcdcgljaaGreatDoorG15
import Derived.Test.YtceipblcdcgljaaGreatDoorG18
import Derived.Test.YtceipblcdcgljaaGreatDoorG28
import Derived.Test.YtceipblcdcgljaaGreatDoorG32
import Derived.Test.YtceipblcdcgljaaGreatDoorG35
import Derived.Test.YtceipblcdcgljaaGreatDoorG36
import Derived.Test.YtceipblcdcgljaaGreatDoorG38
import Derived.Test.YtceipblcdcgljaaGreatDoorG39
import Derived.Deep.Cut
namespace Go.Proofs.YtceipblcdcgljaaGreatDoor
open Go.RowKit
set_option maxRecDepth 100000 in
set_option maxHeartbeats 8000000 in
theorem rkey11_no (m : Mo) (k : Ky) (hs : k.text.size ≤ 4294967296) (h : mayK k = false ∨ k.typ = 3) (w : World) :
 Calls Tryz.prog 21 #[moV m, kyV k] w (Out (legL m k) w) := by
 rw [leg_no h]
 obtain ⟨v, hv⟩ : ∃ v, mayK k = v := ⟨_, rfl⟩
 have HM : Hid (∀ W, Calls Tryz.prog 14 #[kyV k] W fun e w' => e = .returned (.bool v) ∧ Below W.heap.size W w') := Lib.hid fun W => by rw [← hv]; exact rmay10_any k hs W
 rw [hv] at h
 clear hv hs
 simp only [kyV] at HM
 rw [kyV, moV]
 obtain ⟨code, mods, typ, shift, base, text⟩ := k
 obtain ⟨m0, m1, m2, m3, m4, m5, m6, m7, m8, m9⟩ := m
 simp only at HM h ⊢
 have k3 := Blk.new (w.alloc (.cells #[.bool m0, .bool m1, .bool m2, .bool m3, .bool m4, .bool m5, .bool m6, .int .i64 m7, .int .i64 m8, .int .i64 m9] 23)) 25 #[.int .i64 code, .int .i64 mods, .int .i64 typ, .int .i64 shift, .int .i64 base, .string text]
 rw [World.size_alloc] at k3
 have hB0 : Below w.heap.size w ((w.alloc (.cells #[.bool m0, .bool m1, .bool m2, .bool m3, .bool m4, .bool m5, .bool m6, .int .i64 m7, .int .i64 m8, .int .i64 m9] 23)).alloc (.cells #[.int .i64 code, .int .i64 mods, .int .i64 typ, .int .i64 shift, .int .i64 base, .string text] 25)) := ((Below.refl _ w).alloc (Nat.le_refl _) _).alloc (by simp) _
 obtain ⟨a0, a1, a2, a3, a4, a5⟩ := Blk.cells6 k3
 cases v with
 | false =>
   clear h
   go_enter Tryz.func21, Tryz.ntmps21
   go_wp2_with fail
   refine (HM.out _).mono ?_
   rintro e w1 ⟨rfl, hb1⟩
   go_wp2_with fail
   go_ret
   exact nil_out (hB0.trans (hb1.mono hB0.size))
 | true =>
   obtain rfl : typ = 3 := h.resolve_left (by decide)
   clear h
   go_enter Tryz.func21, Tryz.ntmps21
   go_wp2_with fail
   refine (HM.out _).mono ?_
   rintro e w1 ⟨rfl, hb1⟩
   have b2 := (k3.below hb1 k3.lt).cell 2
   go_wp2_with fail
   go_ret
   exact nil_out (hB0.trans (hb1.mono hB0.size))
set_option maxRecDepth 100000 in
set_option maxHeartbeats 16000000 in
theorem rkey11_pad (m : Mo) (k : Ky) (hk : okK k) (hs : k.text.size ≤ 4294967296) (hm : mayK k = true) (h3 : k.typ ≠ 3) (h5 : (lookE k.code).kind = 5) (hkp : m.keypad = true ∧ oldN k.mods = 0) (w : World) :
 Calls Tryz.prog 21 #[moV m, kyV k] w (Out (legL m k) w) := by
 obtain ⟨R, hR⟩ : ∃ R, legL m k = R := ⟨_, rfl⟩
 have HM : Hid (∀ W, Calls Tryz.prog 14 #[kyV k] W fun e w' => e = .returned (.bool true) ∧ Below W.heap.size W w') := Lib.hid fun W => by rw [← hm]; exact rmay10_any k hs W
 have HO : Hid (∀ W, Calls Tryz.prog 44 #[.int .i64 k.mods] W fun e w' => e = .returned (.int .i64 (oldN k.mods)) ∧ Below W.heap.size W w') := Lib.hid fun W => rold_any k.mods W
 have HL : Hid (∀ W, Calls Tryz.prog 22 #[.int .i64 k.code] W fun e w' => e = .returned (enV (lookE k.code)) ∧ Below W.heap.size W w') := Lib.hid fun W => rlook_any k.code W
 have t3 : (k.typ == 3) = false := beq_false_of_ne h3
 have ho : 0 ≤ oldN k.mods ∧ oldN k.mods < 8 := by unfold oldN; omega
 rw [leg_yes hm h3] at hR
 unfold legG at hR
 obtain ⟨hch, hfn⟩ := char_e k.code
 rw [if_pos h5, if_pos hkp] at hR
 have E := Lib.hid hR.symm
 have hR0 : legL m k = R := by rw [leg_yes hm h3]; unfold legG; rw [if_pos h5, if_pos hkp]; exact hR
 rw [hR0]
 clear hR hR0 hm h3
 have HT : Hid (∀ W, Calls Tryz.prog 47 #[.int .i64 2, .int .u8 (lookE k.code).fin, .slice none 0 0] W (Out (seqB 2 (lookE k.code).fin []) W)) := Lib.hid fun W => rseq11_any 2 _ hfn.1 (by omega) none [] 0 0 rfl (by decide) W (Rd.nil _ _)
 obtain ⟨⟨K, F, N, C, B⟩, hE⟩ : ∃ E, lookE k.code = E := ⟨_, rfl⟩
 simp only [hE] at HL h5 E HT
 clear hE hch hfn
 obtain ⟨hkp, ov⟩ := hkp
 simp only [ov] at HO
 clear ov ho
 subst h5
 obtain ⟨code, mods, typ, shift, base, text⟩ := k
 obtain ⟨m0, m1, m2, m3, m4, m5, m6, m7, m8, m9⟩ := m
 simp only [enV, kyV] at HM HO HL t3 HT E
 simp only at hkp
 subst hkp
 rw [kyV, moV]
 have k2 := (Blk.new w 23 #[.bool m0, .bool true, .bool m2, .bool m3, .bool m4, .bool m5, .bool m6, .int .i64 m7, .int .i64 m8, .int .i64 m9]).alloc (.cells #[.int .i64 code, .int .i64 mods, .int .i64 typ, .int .i64 shift, .int .i64 base, .string text] 25)
 have k3 := Blk.new (w.alloc (.cells #[.bool m0, .bool true, .bool m2, .bool m3, .bool m4, .bool m5, .bool m6, .int .i64 m7, .int .i64 m8, .int .i64 m9] 23)) 25 #[.int .i64 code, .int .i64 mods, .int .i64 typ, .int .i64 shift, .int .i64 base, .string text]
 rw [World.size_alloc] at k3
 have hB0 : Below w.heap.size w ((w.alloc (.cells #[.bool m0, .bool true, .bool m2, .bool m3, .bool m4, .bool m5, .bool m6, .int .i64 m7, .int .i64 m8, .int .i64 m9] 23)).alloc (.cells #[.int .i64 code, .int .i64 mods, .int .i64 typ, .int .i64 shift, .int .i64 base, .string text] 25)) := ((Below.refl _ w).alloc (Nat.le_refl _) _).alloc (by simp) _
 obtain ⟨a0, a1, a2, a3, a4, a5⟩ := Blk.cells6 k3
 go_enter Tryz.func21, Tryz.ntmps21
 go_wp2_with fail
 refine (HM.out _).mono ?_
 rintro e w1 ⟨rfl, hb1⟩
 have m1_ := k2.below hb1 k2.lt
 have k1_ := k3.below hb1 k3.lt
 have hB1 := hB0.trans (hb1.mono hB0.size)
 clear k2 k3 hB0 hb1 a0 a1 a2 a3 a4 a5
 obtain ⟨a0, a1, a2, a3, a4, a5⟩ := Blk.cells6 k1_
 go_wp2_with fail
 refine (HL.out _).mono ?_
 rintro e w2 ⟨rfl, hb2⟩
 have m2_ := m1_.below hb2 m1_.lt
 have k2_ := k1_.below hb2 k1_.lt
 have hB2 := hB1.trans (hb2.mono hB1.size)
 clear m1_ k1_ hB1 hb2 a0 a1 a2 a3 a4 a5
 have m2a := m2_.alloc (.cells #[.int .i64 5, .int .u8 F, .int .i64 N, .int .i64 C, .bool B] 53)
 have k2a := k2_.alloc (.cells #[.int .i64 5, .int .u8 F, .int .i64 N, .int .i64 C, .bool B] 53)
 have e2a := Blk.new w2 53 #[.int .i64 5, .int .u8 F, .int .i64 N, .int .i64 C, .bool B]
 have hB2a := hB2.alloc hB2.size (.cells #[.int .i64 5, .int .u8 F, .int .i64 N, .int .i64 C, .bool B] 53)
 have hlk := k2_.lt
 obtain ⟨a0, a1, a2, a3, a4, a5⟩ := Blk.cells6 k2a
 go_wp2_with fail
 refine (HO.out _).mono ?_
 rintro e w3 ⟨rfl, hb3⟩
 have mB := m2a.below hb3 m2a.lt
 have kB := k2a.below hb3 k2a.lt
 have eB := e2a.below hb3 e2a.lt
 have hB3 := hB2a.trans (hb3.mono hB2a.size)
 clear m2_ k2_ m2a k2a e2a hB2a hb3 a0 a1 a2 a3 a4 a5
 have hlw := hB2.size
 obtain ⟨a0, a1, a2, a3, a4, a5⟩ := Blk.cells6 kB
 obtain ⟨e0, e1, e2, e3, e4⟩ := Blk.cells5 eB
 obtain ⟨c0, c1, c2, c3, c4, c5, c6, c7, c8, c9⟩ := Blk.cells10 mB
 go_wp2_with fail
 refine (HT.out _).mono ?_
 rintro e w6 ⟨A6, c6_, rfl, hr6, hb6⟩
 go_wp2_with fail
 go_ret
 exact out_is E.out ⟨A6, c6_, rfl, hr6, hB3.trans (hb6.mono hB3.size)⟩
theorem rkey11_any (m : Mo) (k : Ky) (hk : okK k) (hs : k.text.size ≤ 4294967296) (w : World) :
 Calls Tryz.prog 21 #[moV m, kyV k] w (Out (legL m k) w) := by
 by_cases h : mayK k = false ∨ k.typ = 3
 ·exact rkey11_no m k hs h w
 ·have hm : mayK k = true := by
   cases e : mayK k with
   | true => rfl
   | false => exact absurd (.inl e) h
  have h3 : k.typ ≠ 3 := fun e => h (.inr e)
  by_cases h5 : (lookE k.code).kind = 5
  ·by_cases hkp : m.keypad = true ∧ oldN k.mods = 0
   ·exact rkey11_pad m k hk hs hm h3 h5 hkp w
   ·by_cases h1 : (lookE (lookE k.code).char).kind = 1
    ·exact rkey11_p_text m k hk hs hm h3 h5 hkp h1 w
    ·by_cases h2 : (lookE (lookE k.code).char).kind = 2
     ·exact rkey11_p_plain m k hk hs hm h3 h5 hkp h2 w
     ·by_cases hf : (lookE (lookE k.code).char).kind = 3 ∨ (lookE (lookE k.code).char).kind = 4
      ·exact rkey11_p_func m k hk hs hm h3 h5 hkp hf w
      ·exact rkey11_p_none m k hk hs hm h3 h5 hkp ⟨h1, h2, fun e => hf (.inl e), fun e => hf (.inr e)⟩ w
  ·by_cases h1 : (lookE k.code).kind = 1
   ·exact rkey11_m_text m k hk hs hm h3 h5 h1 w
   ·by_cases h2 : (lookE k.code).kind = 2
    ·exact rkey11_m_plain m k hk hs hm h3 h5 h2 w
    ·by_cases hf : (lookE k.code).kind = 3 ∨ (lookE k.code).kind = 4
     ·exact rkey11_m_func m k hk hs hm h3 h5 hf w
     ·exact rkey11_m_none m k hk hs hm h3 h5 ⟨h1, h2, fun e => hf (.inl e), fun e => hf (.inr e)⟩ w
set_option maxRecDepth 100000 in
set_option maxHeartbeats 4000000 in
theorem rclears_any (f : Int) (w : World) : Calls Tryz.prog 13 #[.int .i64 f] w fun e w' => e = .returned (.bool (clearsK f)) ∧ Below w.heap.size w w' := by
 have HF : Hid (∀ W, Calls Tryz.prog 17 #[.int .i64 f] W fun e w' => e = .returned (.int .i64 (flg f)) ∧ Below W.heap.size W w') := Lib.hid fun W => rflags_any f W
 obtain ⟨h0, h1⟩ := flg_rng f
 obtain ⟨n, hn⟩ : ∃ n, flg f = n := ⟨_, rfl⟩
 obtain ⟨x, hx⟩ : ∃ x, (n % 2 == 1) = x := ⟨_, rfl⟩
 obtain ⟨y, hy⟩ : ∃ y, (n / 8 % 2 == 1) = y := ⟨_, rfl⟩
 have HC := Lib.hid (show clearsK f = (x || y) by unfold clearsK; rw [hn, hx, hy])
 rw [hn] at HF h0 h1
 obtain ⟨r, hr⟩ : ∃ r, clearsK f = r := ⟨_, rfl⟩
 rw [hr] at HC ⊢
 have m1 : Int.tmod n 2 = n % 2 := Int.tmod_eq_emod_of_nonneg h0
 have d8 : Int.tdiv n 8 = n / 8 := Int.tdiv_eq_ediv_of_nonneg h0
 have m8 : Int.tmod (n / 8) 2 = n / 8 % 2 := Int.tmod_eq_emod_of_nonneg (by omega)
 have w1_ : IntKind.i64.wrap (n % 2) = n % 2 := IntWalk.i64_in _ ⟨by omega, by omega⟩
 have w8_ : IntKind.i64.wrap (n / 8) = n / 8 := IntWalk.i64_in _ ⟨by omega, by omega⟩
 have w9_ : IntKind.i64.wrap (n / 8 % 2) = n / 8 % 2 := IntWalk.i64_in _ ⟨by omega, by omega⟩
 clear hn hr h0 h1
 cases x with
 | true =>
   go_enter Tryz.func13, Tryz.ntmps13
   go_wp2_with fail
   refine (HF.out _).mono ?_
   rintro e w1 ⟨rfl, hb1⟩
   go_wp2_with fail
   go_ret
   exact ⟨by rw [HC.out]; rfl, hb1⟩
 | false =>
   go_enter Tryz.func13, Tryz.ntmps13
   go_wp2_with fail
   refine (HF.out _).mono ?_
   rintro e w1 ⟨rfl, hb1⟩
   go_wp2_with fail
   go_ret
   exact ⟨by rw [HC.out]; rfl, hb1⟩
theorem out_isB {L L' : List UInt8} {w w' : World} {e : Ending} (h : L = L') (ho : Out L' w e w') : Out L w e w' := h ▸ ho
set_option maxRecDepth 100000 in
set_option maxHeartbeats 8000000 in
theorem rkey14_any (m : Mo) (f : Int) (k : Ky) (hk : okK k) (hs : k.text.size ≤ 4294967296) (w : World) : Calls Tryz.prog 11 #[moV m, .int .i64 f, kyV k] w (Out (brdL m f k) w) := by
 have HC : Hid (∀ W, Calls Tryz.prog 13 #[.int .i64 f] W fun e w' => e = .returned (.bool (clearsK f)) ∧ Below W.heap.size W w') := Lib.hid fun W => rclears_any f W
 have H13 : Hid (∀ W, Calls Tryz.prog 19 #[.int .i64 f, kyV k] W (Out (kitL f k) W)) := Lib.hid fun W => rkey13_any f k hk hs W
 have H12 : Hid (∀ W, Calls Tryz.prog 20 #[moV m, kyV k] W (OutB (othL m.other k) (othL m.other k).length (isO m.other k) W)) := Lib.hid fun W => rkey12_any m k hk hs W
 have H11 : Hid (∀ W, Calls Tryz.prog 21 #[moV m, kyV k] W (Out (legL m k) W)) := Lib.hid fun W => rkey11_any m k hk hs W
 obtain ⟨l, hl⟩ : ∃ l, m.lock = l := ⟨_, rfl⟩
 have HB := Lib.hid (show brdL m f k = if l = true then [] else if clearsK f = true then kitL f k else if isO m.other k = true then othL m.other k else legL m k by unfold brdL; rw [hl])
 obtain ⟨R, hR⟩ : ∃ R, brdL m f k = R := ⟨_, rfl⟩
 obtain ⟨c, hc⟩ : ∃ c, clearsK f = c := ⟨_, rfl⟩
 obtain ⟨L13, h13⟩ : ∃ R, kitL f k = R := ⟨_, rfl⟩
 obtain ⟨L12, h12⟩ : ∃ R, othL m.other k = R := ⟨_, rfl⟩
 obtain ⟨n12, hn12⟩ : ∃ R, L12.length = R := ⟨_, rfl⟩
 obtain ⟨L11, h11⟩ : ∃ R, legL m k = R := ⟨_, rfl⟩
 obtain ⟨q, hq⟩ : ∃ q, isO m.other k = q := ⟨_, rfl⟩
 rw [hR, hc, h13, h12, h11, hq] at HB
 rw [hR]
 rw [hc] at HC
 rw [h13] at H13
 rw [h12, hn12, hq] at H12
 rw [h11] at H11
 have HN := Lib.hid hn12
 clear hR hc h13 h12 hn12 h11 hq hk hs
 obtain ⟨code, mods, typ, shift, base, text⟩ := k
 obtain ⟨m0, m1, m2, m3, m4, m5, m6, m7, m8, m9⟩ := m
 simp only at hl
 subst hl
 simp only [moV, kyV] at H13 H12 H11 ⊢
 have hB0 : Below w.heap.size w ((w.alloc (.cells #[.bool m0, .bool m1, .bool m2, .bool m3, .bool m4, .bool m5, .bool m6, .int .i64 m7, .int .i64 m8, .int .i64 m9] 23)).alloc (.cells #[.int .i64 code, .int .i64 mods, .int .i64 typ, .int .i64 shift, .int .i64 base, .string text] 25)) := ((Below.refl _ w).alloc (Nat.le_refl _) _).alloc (by simp) _
 have a0 := (Blk.new w 23 #[.bool m0, .bool m1, .bool m2, .bool m3, .bool m4, .bool m5, .bool m6, .int .i64 m7, .int .i64 m8, .int .i64 m9]).alloc (.cells #[.int .i64 code, .int .i64 mods, .int .i64 typ, .int .i64 shift, .int .i64 base, .string text] 25)
 have b0 := Blk.new (w.alloc (.cells #[.bool m0, .bool m1, .bool m2, .bool m3, .bool m4, .bool m5, .bool m6, .int .i64 m7, .int .i64 m8, .int .i64 m9] 23)) 25 #[.int .i64 code, .int .i64 mods, .int .i64 typ, .int .i64 shift, .int .i64 base, .string text]
 rw [World.size_alloc] at b0
 have d5 := a0.cell 5
 cases m5 with
 | true =>
   have HE := Lib.hid (show R = [] from HB.out)
   go_enter Tryz.func11, Tryz.ntmps11
   go_wp2_with fail
   go_ret
   exact out_isB HE.out ⟨none, 0, rfl, Rd.nil _ _, hB0⟩
 | false =>
   have HB2 := Lib.hid (show R = if c = true then L13 else if q = true then L12 else L11 from HB.out)
   clear HB
   go_enter Tryz.func11, Tryz.ntmps11
   go_wp2_with fail
   refine (HC.out _).mono ?_
   rintro e w1 ⟨rfl, hb1⟩
   have hB1 := hB0.trans (hb1.mono hB0.size)
   have a1 := a0.below hb1 a0.lt
   have b1 := b0.below hb1 b0.lt
   clear a0 b0 hB0 hb1 HC d5
   obtain ⟨c0, c1, c2, c3, c4, c5⟩ := Blk.cells6 b1
   obtain ⟨d0, d1, d2, d3, d4, d5, d6, d7, d8, d9⟩ := Blk.cells10 a1
   cases c with
   | true =>
     have HE := Lib.hid (show R = L13 from HB2.out)
     go_wp2_with fail
     refine (H13.out _).mono ?_
     rintro e w2 ⟨A2, n2, rfl, hr2, hb2⟩
     go_wp2_with fail
     go_ret
     exact out_isB HE.out ⟨A2, n2, rfl, hr2, hB1.trans (hb2.mono hB1.size)⟩
   | false =>
     have HB3 := Lib.hid (show R = if q = true then L12 else L11 from HB2.out)
     clear HB2
     go_wp2_with fail
     refine (H12.out _).mono ?_
     rintro e w2 ⟨A2, n2, rfl, hr2, hb2⟩
     have hB2 := hB1.trans (hb2.mono hB1.size)
     have a2 := a1.below hb2 a1.lt
     have b2 := b1.below hb2 b1.lt
     clear a1 b1 hB1 hb2 H12 c0 c1 c2 c3 c4 c5 d0 d1 d2 d3 d4 d5 d6 d7 d8 d9
     obtain ⟨c0, c1, c2, c3, c4, c5⟩ := Blk.cells6 b2
     obtain ⟨d0, d1, d2, d3, d4, d5, d6, d7, d8, d9⟩ := Blk.cells10 a2
     cases q with
     | true =>
       have HE := Lib.hid (show R = L12 from HB3.out)
       go_wp2_with fail
       go_ret
       exact out_isB HE.out (out_same HN.out hr2 hB2)
     | false =>
       have HE := Lib.hid (show R = L11 from HB3.out)
       go_wp2_with fail
       refine (H11.out _).mono ?_
       rintro e w3 ⟨A3, n3, rfl, hr3, hb3⟩
       go_wp2_with fail
       go_ret
       exact out_isB HE.out ⟨A3, n3, rfl, hr3, hB2.trans (hb3.mono hB2.size)⟩
section
variable {Inv : World → Prop}
set_option maxRecDepth 100000 in
set_option maxHeartbeats 16000000 in
theorem boardTells_walk (H : BrdC Inv) (m : Mo) (_ : okM m) (flags : Int) (f0 : -9223372036854775808 ≤ flags) (f1 : flags ≤ 9223372036854775807) (k : Ky) (hk : okK k) (hs : k.text.size ≤ maxLen) (w : World) (hv : Inv w) : Calls Tryz.prog 3 #[moV m, .int .i64 flags, kyV k] w fun e w' => e = .returned (.bool true) ∧ Below w.heap.size w w' := by
 obtain ⟨L, hL⟩ : ∃ L, brdL m flags k = L := ⟨_, rfl⟩
 obtain ⟨q, hq⟩ : ∃ q, clearsK flags = q := ⟨_, rfl⟩
 have HKA0 : Hid (k.text.size ≤ 4294967296 → ∀ W, Inv W → Calls Tryz.prog 10 #[moV m, .int .i64 flags, kyV k] W (Out L W)) := Lib.hid fun h W hW => by rw [← hL]; exact H.key m flags k W hW ⟨f0, f1⟩ hk h
 have HKB0 : Hid (k.text.size ≤ 4294967296 → ∀ W, Calls Tryz.prog 11 #[moV m, .int .i64 flags, kyV k] W (Out L W)) := Lib.hid fun h W => by rw [← hL]; exact rkey14_any m flags k hk h W
 have HCA : Hid (∀ W, Inv W → Calls Tryz.prog 12 #[.int .i64 flags] W fun e w' => e = .returned (.bool q) ∧ Below W.heap.size W w') := Lib.hid fun W hW => by rw [← hq]; exact H.clears flags W hW ⟨f0, f1⟩
 have HCB : Hid (∀ W, Calls Tryz.prog 13 #[.int .i64 flags] W fun e w' => e = .returned (.bool q) ∧ Below W.heap.size W w') := Lib.hid fun W => by rw [← hq]; exact rclears_any flags W
 clear hL hk hq f0 f1
 simp only [moV, kyV] at HKA0 HKB0 hs ⊢
 obtain ⟨code, mods, typ, shift, base, text⟩ := k
 obtain ⟨m0, m1, m2, m3, m4, m5, m6, m7, m8, m9⟩ := m
 have hB : Below w.heap.size w ((w.alloc (.cells #[.bool m0, .bool m1, .bool m2, .bool m3, .bool m4, .bool m5, .bool m6, .int .i64 m7, .int .i64 m8, .int .i64 m9] 23)).alloc (.cells #[.int .i64 code, .int .i64 mods, .int .i64 typ, .int .i64 shift, .int .i64 base, .string text] 25)) := ((Below.refl _ w).alloc (Nat.le_refl _) _).alloc (by simp) _
 have a0 := (Blk.new w 23 #[.bool m0, .bool m1, .bool m2, .bool m3, .bool m4, .bool m5, .bool m6, .int .i64 m7, .int .i64 m8, .int .i64 m9]).alloc (.cells #[.int .i64 code, .int .i64 mods, .int .i64 typ, .int .i64 shift, .int .i64 base, .string text] 25)
 have b0 := Blk.new (w.alloc (.cells #[.bool m0, .bool m1, .bool m2, .bool m3, .bool m4, .bool m5, .bool m6, .int .i64 m7, .int .i64 m8, .int .i64 m9] 23)) 25 #[.int .i64 code, .int .i64 mods, .int .i64 typ, .int .i64 shift, .int .i64 base, .string text]
 rw [World.size_alloc] at b0
 have hv0 := H.invB hv hB
 simp only at HKA0 HKB0 hs
 have HSZ := Lib.hid hs
 clear hs
 go_enter Tryz.func3, Tryz.ntmps3
 go_wp2_with fail
 refine (brdAwake H _ hv0).mono ?_
 rintro e w1 ⟨rfl, hb1⟩
 have a1 := a0.below hb1 a0.lt
 have b1 := b0.below hb1 b0.lt
 have hB1 := hB.trans (hb1.mono hB.size)
 have hv1 := H.invB hv hB1
 clear hv0 a0 b0 hB hb1
 have c5 := b1.cell 5
 have hsz : (text.size : Int) ≤ 9223372036854775807 := by
  have := HSZ.out
  simp only [maxLen] at this
  omega
 by_cases h : 100 < text.size
 ·have t1 : decide (100 < (text.size : Int)) = true := decide_eq_true (by omega)
  clear h
  go_wp2_with fail
  go_ret
  exact ⟨rfl, hB1⟩
 have t1 : decide (100 < (text.size : Int)) = false := decide_eq_false (by omega)
 have hsm : text.size ≤ 4294967296 := by omega
 clear h
 have HKA := Lib.hid (HKA0.out hsm)
 have HKB := Lib.hid (HKB0.out hsm)
 have HV : Hid (∀ W, Below w1.heap.size w1 W → Inv W) := Lib.hid fun W hW => H.invB hv1 hW
 have la : ∀ W, Below w1.heap.size w1 W → Blk W w.heap.size 23 #[.bool m0, .bool m1, .bool m2, .bool m3, .bool m4, .bool m5, .bool m6, .int .i64 m7, .int .i64 m8, .int .i64 m9] := fun W hW => a1.below hW a1.lt
 have lb : ∀ W, Below w1.heap.size w1 W → Blk W (w.heap.size + 1) 25 #[.int .i64 code, .int .i64 mods, .int .i64 typ, .int .i64 shift, .int .i64 base, .string text] := fun W hW => b1.below hW b1.lt
 have hst : ∀ f ∈ ([⟨5, 19, FB L⟩, ⟨10, 24, FB L⟩] : List Fact), f.ok := List.forall_mem_cons.2 ⟨fb_ok _ _ _, List.forall_mem_cons.2 ⟨fb_ok _ _ _, fun _ h => by cases h⟩⟩
 go_wp2_with fail
 refine wp_region_told (w1 := w1) (K := [⟨5, 19, FB L⟩, ⟨10, 24, FB L⟩]) (ix := 1000) (R0 := fun _ _ _ => True) (R1 := fun _ _ _ => True) [19, 24] (⟨#[.agg #[.bool m0, .bool m1, .bool m2, .bool m3, .bool m4, .bool m5, .bool m6, .int .i64 m7, .int .i64 m8, .int .i64 m9], .int .i64 flags, .agg #[.int .i64 code, .int .i64 mods, .int .i64 typ, .int .i64 shift, .int .i64 base, .string text], .pointer (some ⟨w.heap.size, 0, none⟩), undef, .pointer (some ⟨w.heap.size + 1, 0, none⟩), .bool true, .bool true, .bool true, .pointer (some ⟨w.heap.size + 1, 5, none⟩), .string text, .int .i64 (text.size : Int), .bool false, undef, .bool true, .bool true, .agg #[.bool m0, .bool m1, .bool m2, .bool m3, .bool m4, .bool m5, .bool m6, .int .i64 m7, .int .i64 m8, .int .i64 m9], .int .i64 flags, .agg #[.int .i64 code, .int .i64 mods, .int .i64 typ, .int .i64 shift, .int .i64 base, .string text], undef, .string ⟨L.toArray⟩, .agg #[.bool m0, .bool m1, .bool m2, .bool m3, .bool m4, .bool m5, .bool m6, .int .i64 m7, .int .i64 m8, .int .i64 m9], .int .i64 flags, .agg #[.int .i64 code, .int .i64 mods, .int .i64 typ, .int .i64 shift, .int .i64 base, .string text], undef, .string ⟨L.toArray⟩, .bool true, .bool true, .bool true, .int .i64 flags, .bool q, .int .i64 flags, .bool q, .bool true, .bool true], []⟩) (fun g => ⟨#[.agg #[.bool m0, .bool m1, .bool m2, .bool m3, .bool m4, .bool m5, .bool m6, .int .i64 m7, .int .i64 m8, .int .i64 m9], .int .i64 flags, .agg #[.int .i64 code, .int .i64 mods, .int .i64 typ, .int .i64 shift, .int .i64 base, .string text], .pointer (some ⟨w.heap.size, 0, none⟩), undef, .pointer (some ⟨w.heap.size + 1, 0, none⟩), .bool true, .bool true, .bool true, .pointer (some ⟨w.heap.size + 1, 5, none⟩), .string text, .int .i64 (text.size : Int), .bool false, undef, .bool true, .bool true, .agg #[.bool m0, .bool m1, .bool m2, .bool m3, .bool m4, .bool m5, .bool m6, .int .i64 m7, .int .i64 m8, .int .i64 m9], .int .i64 flags, .agg #[.int .i64 code, .int .i64 mods, .int .i64 typ, .int .i64 shift, .int .i64 base, .string text], (g 19), .string ⟨L.toArray⟩, .agg #[.bool m0, .bool m1, .bool m2, .bool m3, .bool m4, .bool m5, .bool m6, .int .i64 m7, .int .i64 m8, .int .i64 m9], .int .i64 flags, .agg #[.int .i64 code, .int .i64 mods, .int .i64 typ, .int .i64 shift, .int .i64 base, .string text], (g 24), .string ⟨L.toArray⟩, .bool true, .bool true, .bool true, .int .i64 flags, .bool q, .int .i64 flags, .bool q, .bool true, .bool true], []⟩) [.bool true, .bool true, .agg #[.bool m0, .bool m1, .bool m2, .bool m3, .bool m4, .bool m5, .bool m6, .int .i64 m7, .int .i64 m8, .int .i64 m9], .int .i64 flags, .agg #[.int .i64 code, .int .i64 mods, .int .i64 typ, .int .i64 shift, .int .i64 base, .string text], undef, .string ⟨L.toArray⟩, .agg #[.bool m0, .bool m1, .bool m2, .bool m3, .bool m4, .bool m5, .bool m6, .int .i64 m7, .int .i64 m8, .int .i64 m9], .int .i64 flags, .agg #[.int .i64 code, .int .i64 mods, .int .i64 typ, .int .i64 shift, .int .i64 base, .string text], undef, .string ⟨L.toArray⟩, .bool true, .bool true, .bool true, .int .i64 flags, .bool q, .int .i64 flags, .bool q, .bool true, .bool true, .bool true] (by kernel_rfl) (by kernel_rfl) (by kernel_rfl) (fun g => by kernel_rfl) (by kernel_rfl) (Below.refl _ _).drew (by decide) (by kernel_rfl)
  (goes_cons (gkP (fun _ => .bool true))
  (goes_cons (gkP (fun _ => .bool true))
  (goes_cons (gkL hst la Tryz.underlying23)
  (goes_cons (gkP (fun _ => .int .i64 flags))
  (goes_cons (gkL hst lb Tryz.underlying25)
  (goes_cons (gkG (fun g => #[.agg #[.bool m0, .bool m1, .bool m2, .bool m3, .bool m4, .bool m5, .bool m6, .int .i64 m7, .int .i64 m8, .int .i64 m9], .int .i64 flags, .agg #[.int .i64 code, .int .i64 mods, .int .i64 typ, .int .i64 shift, .int .i64 base, .string text]]) hst 0 (fun g W hW hin => fb_out (HKA.out W (HV.out W hW))))
  (goes_cons (goesK_str 0 rfl (by kernel_rfl) Tryz.underlying27 Tryz.underlying5 Tryz.underlying9 hst (ahead_none (by decide)) rfl (by decide) (by decide) (by kernel_rfl) (fun g => by kernel_rfl) rfl (fun g => by kernel_rfl) rfl (fun g => by kernel_rfl))
  (goes_cons (gkL hst la Tryz.underlying23)
  (goes_cons (gkP (fun _ => .int .i64 flags))
  (goes_cons (gkL hst lb Tryz.underlying25)
  (goes_cons (gkG (fun g => #[.agg #[.bool m0, .bool m1, .bool m2, .bool m3, .bool m4, .bool m5, .bool m6, .int .i64 m7, .int .i64 m8, .int .i64 m9], .int .i64 flags, .agg #[.int .i64 code, .int .i64 mods, .int .i64 typ, .int .i64 shift, .int .i64 base, .string text]]) hst 1 (fun g W hW hin => fb_out (HKB.out W)))
  (goes_cons (goesK_str 1 rfl (by kernel_rfl) Tryz.underlying27 Tryz.underlying5 Tryz.underlying9 hst (ahead_none (by decide)) rfl (by decide) (by decide) (by kernel_rfl) (fun g => by kernel_rfl) rfl (fun g => by kernel_rfl) rfl (fun g => by kernel_rfl))
  (goes_cons (goesK_bin (v := .bool true) (xv := .string ⟨L.toArray⟩) (yv := .string ⟨L.toArray⟩) rfl (by decide) (by decide) (by kernel_rfl) (fun g => by kernel_rfl) rfl (fun g => by kernel_rfl) rfl (fun g => by kernel_rfl) (fun g => by kernel_rfl) (fun w => by go_simp))
  (goes_cons (gkP (fun _ => .bool true))
  (goes_cons (gkP (fun _ => .bool true))
  (goes_cons (gkP (fun _ => .int .i64 flags))
  (goes_cons (gkK (fun g => #[.int .i64 flags]) hst (fun g W hW hin => HCA.out W (HV.out W hW)))
  (goes_cons (gkP (fun _ => .int .i64 flags))
  (goes_cons (gkK (fun g => #[.int .i64 flags]) hst (fun g W hW hin => HCB.out W))
  (goes_cons (gkB (.bool true) (.bool q) (.bool q) (fun w => by cases q <;> kernel_rfl))
  (goes_cons (gkP (fun _ => .bool true))
  (goes_cons (gkP (fun _ => .bool true)) goes_nil)))))))))))))))))))))) ?_
 intro g W hW _
 go_wp2_with fail
 go_ret
 exact ⟨rfl, hB1.trans (hW.mono hB1.size)⟩
end
end Go.Proofs.YtceipblcdcgljaaGreatDoor
