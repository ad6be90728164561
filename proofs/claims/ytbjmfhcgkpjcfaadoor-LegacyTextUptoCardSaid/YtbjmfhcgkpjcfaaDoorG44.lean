/-
  Layer 11, the laws' walks over the bundle: LegacyAlt.
-/
import Derived.Test.YtbjmfhcgkpjcfaaDoorG13
import Derived.Test.YtbjmfhcgkpjcfaaDoorG18
import Derived.Test.YtbjmfhcgkpjcfaaDoorG35
import Derived.Test.YtbjmfhcgkpjcfaaDoorG43
import Derived.Deep.Cut
import Derived.Laws.Concat
namespace Go.Proofs.YtbjmfhcgkpjcfaaDoor
open Go.RowKit

variable {Inv : World → Prop}
theorem leg_len (m : Mo) {k : Ky} (hK : (lookE k.code).kind = 1 ∨ (lookE k.code).kind = 2) : (legL m k).length ≤ k.text.size + 5 := by
  have e : k.text.data.toList.length = k.text.size := Array.length_toList
  have ha : ∀ (a : Bool) (l : List UInt8), (aheadG a l).length ≤ l.length + 1 := fun a l => by unfold aheadG; split <;> simp
  by_cases h : mayK k = false ∨ k.typ = 3
  · rw [leg_no h]; simp
  · have hm : mayK k = true := by
      cases e : mayK k with
      | true => rfl
      | false => exact absurd (.inl e) h
    rw [leg_yes hm (fun e => h (.inr e))]
    unfold legG
    rw [if_neg (by omega)]
    unfold legE
    split
    · refine Nat.le_trans (ha _ _) ?_
      have := shownG_len k.code k.shift (hasN k.mods 1) (hasN k.mods 4) k.text.data.toList
      omega
    · rw [if_pos (by omega)]
      refine Nat.le_trans (ha _ _) ?_
      have := plainG_len m k.code (hasN k.mods 1) (hasN k.mods 4)
      omega
set_option maxRecDepth 100000 in
set_option maxHeartbeats 16000000 in
theorem legacyAlt_no (H : LegC Inv) (m : Mo) (k : Ky) (_hk : okK k) (hs : k.text.size ≤ 4294967296) (h : mayK k = false ∨ k.typ = 3) (w : World) (hv : Inv w) : Calls Tryd.prog 5 #[moV m, kyV k] w fun e w' => e = .returned (.bool true) ∧ Below w.heap.size w w' := by
  obtain ⟨v, hm⟩ : ∃ v, mayK k = v := ⟨_, rfl⟩
  have HM : Hid (∀ W, Calls Tryd.prog 8 #[kyV k] W fun e w' => e = .returned (.bool v) ∧ Below W.heap.size W w') := Lib.hid fun W => by rw [← hm]; exact rmay10_any k hs W
  rw [hm] at h
  clear hm hs
  simp only [moV, kyV] at HM ⊢
  obtain ⟨code, mods, typ, shift, base, text⟩ := k
  obtain ⟨m0, m1, m2, m3, m4, m5, m6, m7, m8, m9⟩ := m
  have hB : Below w.heap.size w ((w.alloc (.cells #[.bool m0, .bool m1, .bool m2, .bool m3, .bool m4, .bool m5, .bool m6, .int .i64 m7, .int .i64 m8, .int .i64 m9] 23)).alloc (.cells #[.int .i64 code, .int .i64 mods, .int .i64 typ, .int .i64 shift, .int .i64 base, .string text] 25)) := ((Below.refl _ w).alloc (Nat.le_refl _) _).alloc (by simp) _
  have a0 := (Blk.new w 23 #[.bool m0, .bool m1, .bool m2, .bool m3, .bool m4, .bool m5, .bool m6, .int .i64 m7, .int .i64 m8, .int .i64 m9]).alloc (.cells #[.int .i64 code, .int .i64 mods, .int .i64 typ, .int .i64 shift, .int .i64 base, .string text] 25)
  have b0 := Blk.new (w.alloc (.cells #[.bool m0, .bool m1, .bool m2, .bool m3, .bool m4, .bool m5, .bool m6, .int .i64 m7, .int .i64 m8, .int .i64 m9] 23)) 25 #[.int .i64 code, .int .i64 mods, .int .i64 typ, .int .i64 shift, .int .i64 base, .string text]
  rw [World.size_alloc] at b0
  have hv0 := H.invB hv hB
  simp only at HM h
  cases v with
  | false =>
    clear h
    go_enter Tryd.func5, Tryd.ntmps5
    go_wp2_with fail
    refine (legAwake H _ hv0).mono ?_
    rintro e w1 ⟨rfl, hb1⟩
    have a1 := a0.below hb1 a0.lt
    have b1 := b0.below hb1 b0.lt
    have hB1 := hB.trans (hb1.mono hB.size)
    have hv1 := H.invB hv hB1
    clear hv0 a0 b0 hB hb1
    obtain ⟨a0_, a1_, a2_, a3_, a4_, a5_⟩ := Blk.cells6 b1
    go_wp2_with fail
    refine (HM.out _).mono ?_
    rintro e w2 ⟨rfl, hb2⟩
    have mB0 := a1.below hb2 a1.lt
    have kB0 := b1.below hb2 b1.lt
    have hB0 := hB1.trans (hb2.mono hB1.size)
    clear hv1 a1 b1 hB1 hb2 a0_ a1_ a2_ a3_ a4_ a5_
    obtain ⟨a0, a1, a2, a3, a4, a5⟩ := Blk.cells6 kB0
    go_wp2_with fail
    go_ret
    exact ⟨rfl, hB0⟩
  | true =>
    obtain rfl : typ = 3 := h.resolve_left (by decide)
    clear h
    go_enter Tryd.func5, Tryd.ntmps5
    go_wp2_with fail
    refine (legAwake H _ hv0).mono ?_
    rintro e w1 ⟨rfl, hb1⟩
    have a1 := a0.below hb1 a0.lt
    have b1 := b0.below hb1 b0.lt
    have hB1 := hB.trans (hb1.mono hB.size)
    have hv1 := H.invB hv hB1
    clear hv0 a0 b0 hB hb1
    obtain ⟨a0_, a1_, a2_, a3_, a4_, a5_⟩ := Blk.cells6 b1
    go_wp2_with fail
    refine (HM.out _).mono ?_
    rintro e w2 ⟨rfl, hb2⟩
    have mB0 := a1.below hb2 a1.lt
    have kB0 := b1.below hb2 b1.lt
    have hB0 := hB1.trans (hb2.mono hB1.size)
    clear hv1 a1 b1 hB1 hb2 a0_ a1_ a2_ a3_ a4_ a5_
    obtain ⟨a0, a1, a2, a3, a4, a5⟩ := Blk.cells6 kB0
    go_wp2_with fail
    go_ret
    exact ⟨rfl, hB0⟩
set_option maxRecDepth 100000 in
set_option maxHeartbeats 16000000 in
theorem legacyAlt_kind (H : LegC Inv) (m : Mo) (k : Ky) (hk : okK k) (hs : k.text.size ≤ 4294967296) (hm : mayK k = true) (h3 : k.typ ≠ 3) (hK : (lookE k.code).kind ≠ 1 ∧ (lookE k.code).kind ≠ 2) (w : World) (hv : Inv w) : Calls Tryd.prog 5 #[moV m, kyV k] w fun e w' => e = .returned (.bool true) ∧ Below w.heap.size w w' := by
  have HM : Hid (∀ W, Calls Tryd.prog 8 #[kyV k] W fun e w' => e = .returned (.bool true) ∧ Below W.heap.size W w') := Lib.hid fun W => by rw [← hm]; exact rmay10_any k hs W
  obtain ⟨⟨K, F, N, C, B⟩, hE⟩ : ∃ E, lookE k.code = E := ⟨_, rfl⟩
  have HL : Hid (∀ W, Inv W → Calls Tryd.prog 10 #[.int .i64 k.code] W fun e w' => e = .returned (.agg #[.int .i64 K, .int .u8 F, .int .i64 N, .int .i64 C, .bool B]) ∧ Below W.heap.size W w') := Lib.hid fun W hW => H.look_at W hW hk.code hE
  rw [hE] at hK
  clear hm hk hs hE
  simp only [moV, kyV] at HM ⊢
  obtain ⟨code, mods, typ, shift, base, text⟩ := k
  obtain ⟨m0, m1, m2, m3, m4, m5, m6, m7, m8, m9⟩ := m
  have hB : Below w.heap.size w ((w.alloc (.cells #[.bool m0, .bool m1, .bool m2, .bool m3, .bool m4, .bool m5, .bool m6, .int .i64 m7, .int .i64 m8, .int .i64 m9] 23)).alloc (.cells #[.int .i64 code, .int .i64 mods, .int .i64 typ, .int .i64 shift, .int .i64 base, .string text] 25)) := ((Below.refl _ w).alloc (Nat.le_refl _) _).alloc (by simp) _
  have a0 := (Blk.new w 23 #[.bool m0, .bool m1, .bool m2, .bool m3, .bool m4, .bool m5, .bool m6, .int .i64 m7, .int .i64 m8, .int .i64 m9]).alloc (.cells #[.int .i64 code, .int .i64 mods, .int .i64 typ, .int .i64 shift, .int .i64 base, .string text] 25)
  have b0 := Blk.new (w.alloc (.cells #[.bool m0, .bool m1, .bool m2, .bool m3, .bool m4, .bool m5, .bool m6, .int .i64 m7, .int .i64 m8, .int .i64 m9] 23)) 25 #[.int .i64 code, .int .i64 mods, .int .i64 typ, .int .i64 shift, .int .i64 base, .string text]
  rw [World.size_alloc] at b0
  have hv0 := H.invB hv hB
  simp only at HM HL h3 hK
  have u1 : (K == 1) = false := beq_false_of_ne hK.1
  have u2 : (K == 2) = false := beq_false_of_ne hK.2
  have v1 : (K != 1) = true := by simp [bne, u1]
  have v2 : (K != 2) = true := by simp [bne, u2]
  clear hK
  go_enter Tryd.func5, Tryd.ntmps5
  go_wp2_with fail
  refine (legAwake H _ hv0).mono ?_
  rintro e w1 ⟨rfl, hb1⟩
  have a1 := a0.below hb1 a0.lt
  have b1 := b0.below hb1 b0.lt
  have hB1 := hB.trans (hb1.mono hB.size)
  have hv1 := H.invB hv hB1
  clear hv0 a0 b0 hB hb1
  obtain ⟨a0_, a1_, a2_, a3_, a4_, a5_⟩ := Blk.cells6 b1
  go_wp2_with fail
  refine (HM.out _).mono ?_
  rintro e w2 ⟨rfl, hb2⟩
  have mB0 := a1.below hb2 a1.lt
  have kB0 := b1.below hb2 b1.lt
  have hB0 := hB1.trans (hb2.mono hB1.size)
  clear hv1 a1 b1 hB1 hb2 a0_ a1_ a2_ a3_ a4_ a5_
  have t3 : (typ == 3) = false := beq_false_of_ne h3
  obtain ⟨a0, a1, a2, a3, a4, a5⟩ := Blk.cells6 kB0
  have hv2 := H.invB hv hB0
  go_wp2_with fail
  refine (HL.out _ hv2).mono ?_
  rintro e w3 ⟨rfl, hb3⟩
  have mBa := (mB0.below hb3 mB0.lt).alloc (.cells #[.int .i64 K, .int .u8 F, .int .i64 N, .int .i64 C, .bool B] 32)
  have kBa := (kB0.below hb3 kB0.lt).alloc (.cells #[.int .i64 K, .int .u8 F, .int .i64 N, .int .i64 C, .bool B] 32)
  have hBa := (hB0.trans (hb3.mono hB0.size)).alloc (hB0.trans (hb3.mono hB0.size)).size (.cells #[.int .i64 K, .int .u8 F, .int .i64 N, .int .i64 C, .bool B] 32)
  clear a0 a1 a2 a3 a4 a5 mB0 kB0 hB0 hb3 hv2
  go_wp2_with fail
  go_ret
  exact ⟨rfl, hBa⟩
set_option maxRecDepth 100000 in
set_option maxHeartbeats 16000000 in
theorem legacyAlt_main1 (H : LegC Inv) (m : Mo) (k : Ky) (hk : okK k) (hs : k.text.size ≤ 4294967296) (hm : mayK k = true) (h3 : k.typ ≠ 3) (hK : (lookE k.code).kind = 1) (w : World) (hv : Inv w) : Calls Tryd.prog 5 #[moV m, kyV k] w fun e w' => e = .returned (.bool true) ∧ Below w.heap.size w w' := by
  have HM : Hid (∀ W, Calls Tryd.prog 8 #[kyV k] W fun e w' => e = .returned (.bool true) ∧ Below W.heap.size W w') := Lib.hid fun W => by rw [← hm]; exact rmay10_any k hs W
  obtain ⟨⟨K, F, N, C, B⟩, hE⟩ : ∃ E, lookE k.code = E := ⟨_, rfl⟩
  have HL : Hid (∀ W, Inv W → Calls Tryd.prog 10 #[.int .i64 k.code] W fun e w' => e = .returned (.agg #[.int .i64 K, .int .u8 F, .int .i64 N, .int .i64 C, .bool B]) ∧ Below W.heap.size W w') := Lib.hid fun W hW => H.look_at W hW hk.code hE
  obtain ⟨hne, hal⟩ := leg_alt m hm h3 (by rw [hK]; decide)
  obtain ⟨⟨_, y0, y1, _, _⟩, _⟩ := (may_parts k).1 hm
  obtain ⟨d, hd⟩ : ∃ d, k.mods / 2 = d := ⟨_, rfl⟩
  obtain ⟨r, hr⟩ : ∃ r, d % 2 = r := ⟨_, rfl⟩
  rw [hd, hr] at hne hal
  have q1 : Int.tdiv k.mods 2 = d := by rw [← hd]; exact Int.tdiv_eq_ediv_of_nonneg y0
  have q2 : Int.tmod d 2 = r := by rw [← hr]; exact Int.tmod_eq_emod_of_nonneg (by omega)
  have d0 : 0 ≤ d ∧ d ≤ 127 := by omega
  have r0 : 0 ≤ r ∧ r ≤ 1 := by omega
  obtain ⟨L, hL⟩ : ∃ L, legL m { k with mods := k.mods - r * 2 } = L := ⟨_, rfl⟩
  obtain ⟨n, hn⟩ : ∃ n, L.length = n := ⟨_, rfl⟩
  rw [hL] at hne hal
  have hn0 : 0 < n := by rw [← hn]; exact List.length_pos_iff.2 hne
  have H1 : Hid (∀ W, Inv W → Calls Tryd.prog 9 #[moV m, kyV { k with mods := k.mods - r * 2 }] W (KeyE L n W)) := Lib.hid fun W hW => H.key_at m { k with mods := k.mods - r * 2 } hL n hn ⟨hk.code, ⟨by show _ ≤ k.mods - r * 2; omega, by show k.mods - r * 2 ≤ _; omega⟩, hk.typ, hk.shift, hk.base⟩ hs W hW
  have H2 : Hid (∀ W, Inv W → Calls Tryd.prog 9 #[moV m, kyV { k with mods := k.mods - r * 2 + 2 }] W (Out (27 :: L) W)) := Lib.hid fun W hW => by
    rw [← hal]
    exact H.key m { k with mods := k.mods - r * 2 + 2 } W hW ⟨hk.code, ⟨by show _ ≤ k.mods - r * 2 + 2; omega, by show k.mods - r * 2 + 2 ≤ _; omega⟩, hk.typ, hk.shift, hk.base⟩ hs
  have HN := Lib.hid hn
  have HLL := Lib.hid (show L.length ≤ 4294967302 by have := leg_len m (k := { k with mods := k.mods - r * 2 }) (by show (lookE k.code).kind = 1 ∨ (lookE k.code).kind = 2; rw [hK]; decide); rw [hL] at this; have e : k.text.size ≤ 4294967296 := hs; exact Nat.le_trans this (by show k.text.size + 5 ≤ _; omega))
  rw [hE] at hK
  clear hm hk hs hE hL hn hal hne
  simp only [moV, kyV] at HM H1 H2 ⊢
  obtain ⟨code, mods, typ, shift, base, text⟩ := k
  obtain ⟨m0, m1, m2, m3, m4, m5, m6, m7, m8, m9⟩ := m
  have hB : Below w.heap.size w ((w.alloc (.cells #[.bool m0, .bool m1, .bool m2, .bool m3, .bool m4, .bool m5, .bool m6, .int .i64 m7, .int .i64 m8, .int .i64 m9] 23)).alloc (.cells #[.int .i64 code, .int .i64 mods, .int .i64 typ, .int .i64 shift, .int .i64 base, .string text] 25)) := ((Below.refl _ w).alloc (Nat.le_refl _) _).alloc (by simp) _
  have a0 := (Blk.new w 23 #[.bool m0, .bool m1, .bool m2, .bool m3, .bool m4, .bool m5, .bool m6, .int .i64 m7, .int .i64 m8, .int .i64 m9]).alloc (.cells #[.int .i64 code, .int .i64 mods, .int .i64 typ, .int .i64 shift, .int .i64 base, .string text] 25)
  have b0 := Blk.new (w.alloc (.cells #[.bool m0, .bool m1, .bool m2, .bool m3, .bool m4, .bool m5, .bool m6, .int .i64 m7, .int .i64 m8, .int .i64 m9] 23)) 25 #[.int .i64 code, .int .i64 mods, .int .i64 typ, .int .i64 shift, .int .i64 base, .string text]
  rw [World.size_alloc] at b0
  have hv0 := H.invB hv hB
  simp only at HM HL H1 H2 h3 hK q1 hd y0 y1
  subst hK
  go_enter Tryd.func5, Tryd.ntmps5
  go_wp2_with fail
  refine (legAwake H _ hv0).mono ?_
  rintro e w1 ⟨rfl, hb1⟩
  have a1 := a0.below hb1 a0.lt
  have b1 := b0.below hb1 b0.lt
  have hB1 := hB.trans (hb1.mono hB.size)
  have hv1 := H.invB hv hB1
  clear hv0 a0 b0 hB hb1
  obtain ⟨a0_, a1_, a2_, a3_, a4_, a5_⟩ := Blk.cells6 b1
  go_wp2_with fail
  refine (HM.out _).mono ?_
  rintro e w2 ⟨rfl, hb2⟩
  have mB0 := a1.below hb2 a1.lt
  have kB0 := b1.below hb2 b1.lt
  have hB0 := hB1.trans (hb2.mono hB1.size)
  clear hv1 a1 b1 hB1 hb2 a0_ a1_ a2_ a3_ a4_ a5_
  have t3 : (typ == 3) = false := beq_false_of_ne h3
  obtain ⟨a0, a1, a2, a3, a4, a5⟩ := Blk.cells6 kB0
  have hv2 := H.invB hv hB0
  go_wp2_with fail
  refine (HL.out _ hv2).mono ?_
  rintro e w3 ⟨rfl, hb3⟩
  have mBa := (mB0.below hb3 mB0.lt).alloc (.cells #[.int .i64 1, .int .u8 F, .int .i64 N, .int .i64 C, .bool B] 32)
  have kBa := (kB0.below hb3 kB0.lt).alloc (.cells #[.int .i64 1, .int .u8 F, .int .i64 N, .int .i64 C, .bool B] 32)
  have hBa := (hB0.trans (hb3.mono hB0.size)).alloc (hB0.trans (hb3.mono hB0.size)).size (.cells #[.int .i64 1, .int .u8 F, .int .i64 N, .int .i64 C, .bool B] 32)
  clear a0 a1 a2 a3 a4 a5 mB0 kB0 hB0 hb3 hv2
  have kB1 := kBa
  have mB1 := mBa
  have hB1 := hBa
  clear kBa mBa hBa
  obtain ⟨a0, a1, a2, a3, a4, a5⟩ := Blk.cells6 kB1
  go_upto_region 7 with (fail)
  generalize hW : (w3.alloc (.cells #[.int .i64 1, .int .u8 F, .int .i64 N, .int .i64 C, .bool B] 32)) = W0 at *
  clear hW
  have z2_1 := kB1.frozen 1
  obtain ⟨a0, a1, a2, a3, a4, a5⟩ := Blk.cells6 kB1
  have kB2 : Blk (W0.setCell ⟨w.heap.size + 1, 1, none⟩ (Value.int .i64 (mods - r * 2))) (w.heap.size + 1) 25 #[.int .i64 code, .int .i64 (mods - r * 2), .int .i64 typ, .int .i64 shift, .int .i64 base, .string text] := kB1.set 1 (Value.int .i64 (mods - r * 2))
  have mB2 := mB1.far (a := ⟨w.heap.size + 1, 1, none⟩) (by show w.heap.size ≠ w.heap.size + 1; omega) (Value.int .i64 (mods - r * 2))
  have hB2 := hB1.setCell (p := ⟨w.heap.size + 1, 1, none⟩) (by show _ ≤ w.heap.size + 1; omega) (Value.int .i64 (mods - r * 2))
  go_upto_region 8 with (fail)
  generalize hW2 : (W0.setCell ⟨w.heap.size + 1, 1, none⟩ (Value.int .i64 (mods - r * 2))) = W2 at *
  clear hW2
  have hv2 := H.invB hv hB2
  obtain ⟨a0, a1, a2, a3, a4, a5⟩ := Blk.cells6 kB2
  obtain ⟨c0, c1, c2, c3, c4, c5, c6, c7, c8, c9⟩ := Blk.cells10 mB2
  go_wp2_with fail
  refine (H1.out _ hv2).mono ?_
  rintro e w4 ⟨A1, d1, rfl, hr1, b3⟩
  have kB3 := kB2.below b3 kB2.lt
  have mB3 := mB2.below b3 mB2.lt
  have hB3 := hB2.trans (b3.mono hB2.size)
  have hr13 := hr1.off_key kB3 rfl
  clear hr1
  clear a0 a1 a2 a3 a4 a5 c0 c1 c2 c3 c4 c5 c6 c7 c8 c9 kB2 mB2 hv2
  have z4_1 := kB3.frozen 1
  obtain ⟨a0, a1, a2, a3, a4, a5⟩ := Blk.cells6 kB3
  have kB4 : Blk (w4.setCell ⟨w.heap.size + 1, 1, none⟩ (Value.int .i64 (mods - r * 2 + 2))) (w.heap.size + 1) 25 #[.int .i64 code, .int .i64 (mods - r * 2 + 2), .int .i64 typ, .int .i64 shift, .int .i64 base, .string text] := kB3.set 1 (Value.int .i64 (mods - r * 2 + 2))
  have mB4 := mB3.far (a := ⟨w.heap.size + 1, 1, none⟩) (by show w.heap.size ≠ w.heap.size + 1; omega) (Value.int .i64 (mods - r * 2 + 2))
  have hr14 := hr13.fr (Fr.setCell _ (w.heap.size + 1) 1 (Value.int .i64 (mods - r * 2 + 2)) _ rfl) (Wid.refl _ _)
  have hB4 := hB3.setCell (p := ⟨w.heap.size + 1, 1, none⟩) (by show _ ≤ w.heap.size + 1; omega) (Value.int .i64 (mods - r * 2 + 2))
  go_upto_region 10 with (fail)
  generalize hW4 : (w4.setCell ⟨w.heap.size + 1, 1, none⟩ (Value.int .i64 (mods - r * 2 + 2))) = W4 at *
  clear hW4
  have hvE := H.invB hv hB4
  have HV : Hid (∀ W, Below W4.heap.size W4 W → Inv W) := Lib.hid fun W hW => H.invB hvE hW
  have lm : ∀ W, Below W4.heap.size W4 W → Blk W w.heap.size 23 #[.bool m0, .bool m1, .bool m2, .bool m3, .bool m4, .bool m5, .bool m6, .int .i64 m7, .int .i64 m8, .int .i64 m9] := fun W hW => mB4.below hW mB4.lt
  have lk : ∀ W, Below W4.heap.size W4 W → Blk W (w.heap.size + 1) 25 #[.int .i64 code, .int .i64 (mods - r * 2 + 2), .int .i64 typ, .int .i64 shift, .int .i64 base, .string text] := fun W hW => kB4.below hW kB4.lt
  have hrE := (hr14).rd
  have hst : ∀ f ∈ ([⟨4, 50, FB (27 :: L)⟩] : List Fact), f.ok := List.forall_mem_cons.2 ⟨fb_ok _ _ _, fun _ h => by cases h⟩
  have hcat : ∀ W : World, (binOp .add 9 (.string ⟨#[27]⟩) (.string ⟨L.toArray⟩)).run Tryd.prog W = .ok (.string ⟨(27 :: L).toArray⟩) W := fun W => by
    have h27 : (⟨#[27]⟩ : ByteArray) = ⟨([27] : List UInt8).toArray⟩ := rfl
    have hsum : (⟨([27] : List UInt8).toArray⟩ : ByteArray).size + (⟨L.toArray⟩ : ByteArray).size ≤ 9223372036854775807 := by
      have := HLL.out
      have e1 : (⟨L.toArray⟩ : ByteArray).size = L.length := rfl
      have e2 : (⟨([27] : List UInt8).toArray⟩ : ByteArray).size = 1 := rfl
      omega
    rw [h27]
    simp only [binOp, run_string_add_sum (P := Tryd.prog) W _ _ hsum, ByteArray.mk_append_mk]
    rfl
  have hgt : ∀ W : World, (binOp .gtr 3 (.int .i64 (n : Int)) (.int .i64 0)).run Tryd.prog W = .ok (.bool true) W := fun W => by
    have : decide ((0 : Int) < (n : Int)) = true := decide_eq_true (by omega)
    go_simp
  refine wp_region_told (w1 := W4) (K := [⟨4, 50, FB (27 :: L)⟩]) (ix := 1000) (R0 := fun _ _ _ => True) (R1 := fun _ _ _ => True) [50] (⟨#[.agg #[.bool m0, .bool m1, .bool m2, .bool m3, .bool m4, .bool m5, .bool m6, .int .i64 m7, .int .i64 m8, .int .i64 m9], .agg #[.int .i64 code, .int .i64 mods, .int .i64 typ, .int .i64 shift, .int .i64 base, .string text], .pointer (some ⟨w.heap.size, 0, none⟩), .pointer (some ⟨w.heap.size + 1, 0, none⟩), .bool true, .bool true, .pointer (some ⟨w3.heap.size, 0, none⟩), .slice A1 n d1, .bool true, .agg #[.int .i64 code, .int .i64 mods, .int .i64 typ, .int .i64 shift, .int .i64 base, .string text], .bool true, .bool false, .bool false, .pointer (some ⟨w.heap.size + 1, 2, none⟩), .int .i64 typ, .bool false, .bool false, undef, .pointer (some ⟨w.heap.size + 1, 0, none⟩), .int .i64 code, .agg #[.int .i64 1, .int .u8 F, .int .i64 N, .int .i64 C, .bool B], .pointer (some ⟨w3.heap.size, 0, none⟩), .int .i64 1, .bool false, .bool false, undef, undef, undef, .bool false, undef, .pointer (some ⟨w.heap.size + 1, 1, none⟩), .int .i64 mods, .pointer (some ⟨w.heap.size + 1, 1, none⟩), .int .i64 mods, .int .i64 d, .int .i64 r, .int .i64 (r * 2), .int .i64 (mods - r * 2), .pointer (some ⟨w.heap.size + 1, 1, none⟩), .agg #[.bool m0, .bool m1, .bool m2, .bool m3, .bool m4, .bool m5, .bool m6, .int .i64 m7, .int .i64 m8, .int .i64 m9], .agg #[.int .i64 code, .int .i64 (mods - r * 2), .int .i64 typ, .int .i64 shift, .int .i64 base, .string text], .slice A1 n d1, .pointer (some ⟨w.heap.size + 1, 1, none⟩), .int .i64 (mods - r * 2), .int .i64 (mods - r * 2 + 2), .pointer (some ⟨w.heap.size + 1, 1, none⟩), .bool true, .bool true, .agg #[.bool m0, .bool m1, .bool m2, .bool m3, .bool m4, .bool m5, .bool m6, .int .i64 m7, .int .i64 m8, .int .i64 m9], .agg #[.int .i64 code, .int .i64 (mods - r * 2 + 2), .int .i64 typ, .int .i64 shift, .int .i64 base, .string text], undef, .string ⟨(27 :: L).toArray⟩, .slice A1 n d1, .string ⟨L.toArray⟩, .string ⟨(27 :: L).toArray⟩, .bool true, .bool true, .bool true, .slice A1 n d1, .int .i64 (n : Int), .bool true, .bool true], []⟩) (fun g => ⟨#[.agg #[.bool m0, .bool m1, .bool m2, .bool m3, .bool m4, .bool m5, .bool m6, .int .i64 m7, .int .i64 m8, .int .i64 m9], .agg #[.int .i64 code, .int .i64 mods, .int .i64 typ, .int .i64 shift, .int .i64 base, .string text], .pointer (some ⟨w.heap.size, 0, none⟩), .pointer (some ⟨w.heap.size + 1, 0, none⟩), .bool true, .bool true, .pointer (some ⟨w3.heap.size, 0, none⟩), .slice A1 n d1, .bool true, .agg #[.int .i64 code, .int .i64 mods, .int .i64 typ, .int .i64 shift, .int .i64 base, .string text], .bool true, .bool false, .bool false, .pointer (some ⟨w.heap.size + 1, 2, none⟩), .int .i64 typ, .bool false, .bool false, undef, .pointer (some ⟨w.heap.size + 1, 0, none⟩), .int .i64 code, .agg #[.int .i64 1, .int .u8 F, .int .i64 N, .int .i64 C, .bool B], .pointer (some ⟨w3.heap.size, 0, none⟩), .int .i64 1, .bool false, .bool false, undef, undef, undef, .bool false, undef, .pointer (some ⟨w.heap.size + 1, 1, none⟩), .int .i64 mods, .pointer (some ⟨w.heap.size + 1, 1, none⟩), .int .i64 mods, .int .i64 d, .int .i64 r, .int .i64 (r * 2), .int .i64 (mods - r * 2), .pointer (some ⟨w.heap.size + 1, 1, none⟩), .agg #[.bool m0, .bool m1, .bool m2, .bool m3, .bool m4, .bool m5, .bool m6, .int .i64 m7, .int .i64 m8, .int .i64 m9], .agg #[.int .i64 code, .int .i64 (mods - r * 2), .int .i64 typ, .int .i64 shift, .int .i64 base, .string text], .slice A1 n d1, .pointer (some ⟨w.heap.size + 1, 1, none⟩), .int .i64 (mods - r * 2), .int .i64 (mods - r * 2 + 2), .pointer (some ⟨w.heap.size + 1, 1, none⟩), .bool true, .bool true, .agg #[.bool m0, .bool m1, .bool m2, .bool m3, .bool m4, .bool m5, .bool m6, .int .i64 m7, .int .i64 m8, .int .i64 m9], .agg #[.int .i64 code, .int .i64 (mods - r * 2 + 2), .int .i64 typ, .int .i64 shift, .int .i64 base, .string text], (g 50), .string ⟨(27 :: L).toArray⟩, .slice A1 n d1, .string ⟨L.toArray⟩, .string ⟨(27 :: L).toArray⟩, .bool true, .bool true, .bool true, .slice A1 n d1, .int .i64 (n : Int), .bool true, .bool true], []⟩) [.bool true, .bool true, .agg #[.bool m0, .bool m1, .bool m2, .bool m3, .bool m4, .bool m5, .bool m6, .int .i64 m7, .int .i64 m8, .int .i64 m9], .agg #[.int .i64 code, .int .i64 (mods - r * 2 + 2), .int .i64 typ, .int .i64 shift, .int .i64 base, .string text], undef, .string ⟨(27 :: L).toArray⟩, .slice A1 n d1, .string ⟨L.toArray⟩, .string ⟨(27 :: L).toArray⟩, .bool true, .bool true, .bool true, .slice A1 n d1, .int .i64 (n : Int), .bool true, .bool true, .bool true] (by kernel_rfl) (by kernel_rfl) (by kernel_rfl) (fun g => by kernel_rfl) (by kernel_rfl) (Below.refl _ _).drew (by decide) (by kernel_rfl)
    (goes_cons (goesK_pure (fun _ => .bool true) rfl (by decide) (by decide) (by kernel_rfl) (fun g => by kernel_rfl) rfl (fun g => by kernel_rfl) (fun g w => by kernel_rfl)) 
    (goes_cons (goesK_pure (fun _ => .bool true) rfl (by decide) (by decide) (by kernel_rfl) (fun g => by kernel_rfl) rfl (fun g => by kernel_rfl) (fun g w => by kernel_rfl)) 
    (goes_cons (goesK_load hst (ahead_none (by decide)) rfl (by decide) (by decide) (by kernel_rfl) (fun g => by kernel_rfl) rfl (fun g => by kernel_rfl) rfl (fun g => by kernel_rfl) lm Tryd.underlying23 rfl (by kernel_rfl)) 
    (goes_cons (goesK_load hst (ahead_none (by decide)) rfl (by decide) (by decide) (by kernel_rfl) (fun g => by kernel_rfl) rfl (fun g => by kernel_rfl) rfl (fun g => by kernel_rfl) lk Tryd.underlying25 rfl (by kernel_rfl)) 
    (goes_cons (goesK_ghost (args := fun g => #[.agg #[.bool m0, .bool m1, .bool m2, .bool m3, .bool m4, .bool m5, .bool m6, .int .i64 m7, .int .i64 m8, .int .i64 m9], .agg #[.int .i64 code, .int .i64 (mods - r * 2 + 2), .int .i64 typ, .int .i64 shift, .int .i64 base, .string text]]) hst (ahead_none (by decide)) rfl (by decide) (by decide) 0 rfl (by kernel_rfl) (fun g => by kernel_rfl) rfl (fun g => by kernel_rfl) (fun g w => by kernel_rfl) (fun g W hW hin => fb_out (H2.out W (HV.out W hW)))) 
    (goes_cons (goesK_str 0 rfl (by kernel_rfl) Tryd.underlying28 Tryd.underlying5 Tryd.underlying9 hst (ahead_none (by decide)) rfl (by decide) (by decide) (by kernel_rfl) (fun g => by kernel_rfl) rfl (fun g => by kernel_rfl) rfl (fun g => by kernel_rfl)) 
    (goes_cons (goesK_pure (fun _ => .slice A1 n d1) rfl (by decide) (by decide) (by kernel_rfl) (fun g => by kernel_rfl) rfl (fun g => by kernel_rfl) (fun g w => by kernel_rfl)) 
    (goes_cons (goesK_conv (c := d1) HN.out (fun W hW => hrE.below hW) Tryd.underlying28 Tryd.underlying5 Tryd.underlying9 hst (ahead_none (by decide)) rfl (by decide) (by decide) (by kernel_rfl) (fun g => by kernel_rfl) rfl (fun g => by kernel_rfl) rfl (fun g => by kernel_rfl)) 
    (goes_cons (goesK_bin (v := .string ⟨(27 :: L).toArray⟩) (xv := .string ⟨#[27]⟩) (yv := .string ⟨L.toArray⟩) rfl (by decide) (by decide) (by kernel_rfl) (fun g => by kernel_rfl) rfl (fun g => by kernel_rfl) rfl (fun g => by kernel_rfl) (fun g => by kernel_rfl) hcat) 
    (goes_cons (goesK_bin (v := .bool true) (xv := .string ⟨(27 :: L).toArray⟩) (yv := .string ⟨(27 :: L).toArray⟩) rfl (by decide) (by decide) (by kernel_rfl) (fun g => by kernel_rfl) rfl (fun g => by kernel_rfl) rfl (fun g => by kernel_rfl) (fun g => by kernel_rfl) (fun w => by go_simp)) 
    (goes_cons (goesK_pure (fun _ => .bool true) rfl (by decide) (by decide) (by kernel_rfl) (fun g => by kernel_rfl) rfl (fun g => by kernel_rfl) (fun g w => by kernel_rfl)) 
    (goes_cons (goesK_pure (fun _ => .bool true) rfl (by decide) (by decide) (by kernel_rfl) (fun g => by kernel_rfl) rfl (fun g => by kernel_rfl) (fun g w => by kernel_rfl)) 
    (goes_cons (goesK_pure (fun _ => .slice A1 n d1) rfl (by decide) (by decide) (by kernel_rfl) (fun g => by kernel_rfl) rfl (fun g => by kernel_rfl) (fun g w => by kernel_rfl)) 
    (goes_cons (goesK_pure (fun _ => .int .i64 (n : Int)) rfl (by decide) (by decide) (by kernel_rfl) (fun g => by kernel_rfl) rfl (fun g => by kernel_rfl) (fun g w => by kernel_rfl)) 
    (goes_cons (goesK_bin (v := .bool true) (xv := .int .i64 (n : Int)) (yv := .int .i64 0) rfl (by decide) (by decide) (by kernel_rfl) (fun g => by kernel_rfl) rfl (fun g => by kernel_rfl) rfl (fun g => by kernel_rfl) (fun g => by kernel_rfl) hgt) 
    (goes_cons (goesK_pure (fun _ => .bool true) rfl (by decide) (by decide) (by kernel_rfl) (fun g => by kernel_rfl) rfl (fun g => by kernel_rfl) (fun g w => by kernel_rfl)) 
    (goes_cons (goesK_pure (fun _ => .bool true) rfl (by decide) (by decide) (by kernel_rfl) (fun g => by kernel_rfl) rfl (fun g => by kernel_rfl) (fun g w => by kernel_rfl)) goes_nil))))))))))))))))) ?_
  intro g W hW _
  go_wp2_with fail
  go_ret
  exact ⟨rfl, hB4.trans (hW.mono hB4.size)⟩
set_option maxRecDepth 100000 in
set_option maxHeartbeats 16000000 in
theorem legacyAlt_main2 (H : LegC Inv) (m : Mo) (k : Ky) (hk : okK k) (hs : k.text.size ≤ 4294967296) (hm : mayK k = true) (h3 : k.typ ≠ 3) (hK : (lookE k.code).kind = 2) (w : World) (hv : Inv w) : Calls Tryd.prog 5 #[moV m, kyV k] w fun e w' => e = .returned (.bool true) ∧ Below w.heap.size w w' := by
  have HM : Hid (∀ W, Calls Tryd.prog 8 #[kyV k] W fun e w' => e = .returned (.bool true) ∧ Below W.heap.size W w') := Lib.hid fun W => by rw [← hm]; exact rmay10_any k hs W
  obtain ⟨⟨K, F, N, C, B⟩, hE⟩ : ∃ E, lookE k.code = E := ⟨_, rfl⟩
  have HL : Hid (∀ W, Inv W → Calls Tryd.prog 10 #[.int .i64 k.code] W fun e w' => e = .returned (.agg #[.int .i64 K, .int .u8 F, .int .i64 N, .int .i64 C, .bool B]) ∧ Below W.heap.size W w') := Lib.hid fun W hW => H.look_at W hW hk.code hE
  obtain ⟨hne, hal⟩ := leg_alt m hm h3 (by rw [hK]; decide)
  obtain ⟨⟨_, y0, y1, _, _⟩, _⟩ := (may_parts k).1 hm
  obtain ⟨d, hd⟩ : ∃ d, k.mods / 2 = d := ⟨_, rfl⟩
  obtain ⟨r, hr⟩ : ∃ r, d % 2 = r := ⟨_, rfl⟩
  rw [hd, hr] at hne hal
  have q1 : Int.tdiv k.mods 2 = d := by rw [← hd]; exact Int.tdiv_eq_ediv_of_nonneg y0
  have q2 : Int.tmod d 2 = r := by rw [← hr]; exact Int.tmod_eq_emod_of_nonneg (by omega)
  have d0 : 0 ≤ d ∧ d ≤ 127 := by omega
  have r0 : 0 ≤ r ∧ r ≤ 1 := by omega
  obtain ⟨L, hL⟩ : ∃ L, legL m { k with mods := k.mods - r * 2 } = L := ⟨_, rfl⟩
  obtain ⟨n, hn⟩ : ∃ n, L.length = n := ⟨_, rfl⟩
  rw [hL] at hne hal
  have hn0 : 0 < n := by rw [← hn]; exact List.length_pos_iff.2 hne
  have H1 : Hid (∀ W, Inv W → Calls Tryd.prog 9 #[moV m, kyV { k with mods := k.mods - r * 2 }] W (KeyE L n W)) := Lib.hid fun W hW => H.key_at m { k with mods := k.mods - r * 2 } hL n hn ⟨hk.code, ⟨by show _ ≤ k.mods - r * 2; omega, by show k.mods - r * 2 ≤ _; omega⟩, hk.typ, hk.shift, hk.base⟩ hs W hW
  have H2 : Hid (∀ W, Inv W → Calls Tryd.prog 9 #[moV m, kyV { k with mods := k.mods - r * 2 + 2 }] W (Out (27 :: L) W)) := Lib.hid fun W hW => by
    rw [← hal]
    exact H.key m { k with mods := k.mods - r * 2 + 2 } W hW ⟨hk.code, ⟨by show _ ≤ k.mods - r * 2 + 2; omega, by show k.mods - r * 2 + 2 ≤ _; omega⟩, hk.typ, hk.shift, hk.base⟩ hs
  have HN := Lib.hid hn
  have HLL := Lib.hid (show L.length ≤ 4294967302 by have := leg_len m (k := { k with mods := k.mods - r * 2 }) (by show (lookE k.code).kind = 1 ∨ (lookE k.code).kind = 2; rw [hK]; decide); rw [hL] at this; have e : k.text.size ≤ 4294967296 := hs; exact Nat.le_trans this (by show k.text.size + 5 ≤ _; omega))
  rw [hE] at hK
  clear hm hk hs hE hL hn hal hne
  simp only [moV, kyV] at HM H1 H2 ⊢
  obtain ⟨code, mods, typ, shift, base, text⟩ := k
  obtain ⟨m0, m1, m2, m3, m4, m5, m6, m7, m8, m9⟩ := m
  have hB : Below w.heap.size w ((w.alloc (.cells #[.bool m0, .bool m1, .bool m2, .bool m3, .bool m4, .bool m5, .bool m6, .int .i64 m7, .int .i64 m8, .int .i64 m9] 23)).alloc (.cells #[.int .i64 code, .int .i64 mods, .int .i64 typ, .int .i64 shift, .int .i64 base, .string text] 25)) := ((Below.refl _ w).alloc (Nat.le_refl _) _).alloc (by simp) _
  have a0 := (Blk.new w 23 #[.bool m0, .bool m1, .bool m2, .bool m3, .bool m4, .bool m5, .bool m6, .int .i64 m7, .int .i64 m8, .int .i64 m9]).alloc (.cells #[.int .i64 code, .int .i64 mods, .int .i64 typ, .int .i64 shift, .int .i64 base, .string text] 25)
  have b0 := Blk.new (w.alloc (.cells #[.bool m0, .bool m1, .bool m2, .bool m3, .bool m4, .bool m5, .bool m6, .int .i64 m7, .int .i64 m8, .int .i64 m9] 23)) 25 #[.int .i64 code, .int .i64 mods, .int .i64 typ, .int .i64 shift, .int .i64 base, .string text]
  rw [World.size_alloc] at b0
  have hv0 := H.invB hv hB
  simp only at HM HL H1 H2 h3 hK q1 hd y0 y1
  subst hK
  go_enter Tryd.func5, Tryd.ntmps5
  go_wp2_with fail
  refine (legAwake H _ hv0).mono ?_
  rintro e w1 ⟨rfl, hb1⟩
  have a1 := a0.below hb1 a0.lt
  have b1 := b0.below hb1 b0.lt
  have hB1 := hB.trans (hb1.mono hB.size)
  have hv1 := H.invB hv hB1
  clear hv0 a0 b0 hB hb1
  obtain ⟨a0_, a1_, a2_, a3_, a4_, a5_⟩ := Blk.cells6 b1
  go_wp2_with fail
  refine (HM.out _).mono ?_
  rintro e w2 ⟨rfl, hb2⟩
  have mB0 := a1.below hb2 a1.lt
  have kB0 := b1.below hb2 b1.lt
  have hB0 := hB1.trans (hb2.mono hB1.size)
  clear hv1 a1 b1 hB1 hb2 a0_ a1_ a2_ a3_ a4_ a5_
  have t3 : (typ == 3) = false := beq_false_of_ne h3
  obtain ⟨a0, a1, a2, a3, a4, a5⟩ := Blk.cells6 kB0
  have hv2 := H.invB hv hB0
  go_wp2_with fail
  refine (HL.out _ hv2).mono ?_
  rintro e w3 ⟨rfl, hb3⟩
  have mBa := (mB0.below hb3 mB0.lt).alloc (.cells #[.int .i64 2, .int .u8 F, .int .i64 N, .int .i64 C, .bool B] 32)
  have kBa := (kB0.below hb3 kB0.lt).alloc (.cells #[.int .i64 2, .int .u8 F, .int .i64 N, .int .i64 C, .bool B] 32)
  have hBa := (hB0.trans (hb3.mono hB0.size)).alloc (hB0.trans (hb3.mono hB0.size)).size (.cells #[.int .i64 2, .int .u8 F, .int .i64 N, .int .i64 C, .bool B] 32)
  clear a0 a1 a2 a3 a4 a5 mB0 kB0 hB0 hb3 hv2
  have kB1 := kBa
  have mB1 := mBa
  have hB1 := hBa
  clear kBa mBa hBa
  obtain ⟨a0, a1, a2, a3, a4, a5⟩ := Blk.cells6 kB1
  go_upto_region 7 with (fail)
  generalize hW : (w3.alloc (.cells #[.int .i64 2, .int .u8 F, .int .i64 N, .int .i64 C, .bool B] 32)) = W0 at *
  clear hW
  have z2_1 := kB1.frozen 1
  obtain ⟨a0, a1, a2, a3, a4, a5⟩ := Blk.cells6 kB1
  have kB2 : Blk (W0.setCell ⟨w.heap.size + 1, 1, none⟩ (Value.int .i64 (mods - r * 2))) (w.heap.size + 1) 25 #[.int .i64 code, .int .i64 (mods - r * 2), .int .i64 typ, .int .i64 shift, .int .i64 base, .string text] := kB1.set 1 (Value.int .i64 (mods - r * 2))
  have mB2 := mB1.far (a := ⟨w.heap.size + 1, 1, none⟩) (by show w.heap.size ≠ w.heap.size + 1; omega) (Value.int .i64 (mods - r * 2))
  have hB2 := hB1.setCell (p := ⟨w.heap.size + 1, 1, none⟩) (by show _ ≤ w.heap.size + 1; omega) (Value.int .i64 (mods - r * 2))
  go_upto_region 8 with (fail)
  generalize hW2 : (W0.setCell ⟨w.heap.size + 1, 1, none⟩ (Value.int .i64 (mods - r * 2))) = W2 at *
  clear hW2
  have hv2 := H.invB hv hB2
  obtain ⟨a0, a1, a2, a3, a4, a5⟩ := Blk.cells6 kB2
  obtain ⟨c0, c1, c2, c3, c4, c5, c6, c7, c8, c9⟩ := Blk.cells10 mB2
  go_wp2_with fail
  refine (H1.out _ hv2).mono ?_
  rintro e w4 ⟨A1, d1, rfl, hr1, b3⟩
  have kB3 := kB2.below b3 kB2.lt
  have mB3 := mB2.below b3 mB2.lt
  have hB3 := hB2.trans (b3.mono hB2.size)
  have hr13 := hr1.off_key kB3 rfl
  clear hr1
  clear a0 a1 a2 a3 a4 a5 c0 c1 c2 c3 c4 c5 c6 c7 c8 c9 kB2 mB2 hv2
  have z4_1 := kB3.frozen 1
  obtain ⟨a0, a1, a2, a3, a4, a5⟩ := Blk.cells6 kB3
  have kB4 : Blk (w4.setCell ⟨w.heap.size + 1, 1, none⟩ (Value.int .i64 (mods - r * 2 + 2))) (w.heap.size + 1) 25 #[.int .i64 code, .int .i64 (mods - r * 2 + 2), .int .i64 typ, .int .i64 shift, .int .i64 base, .string text] := kB3.set 1 (Value.int .i64 (mods - r * 2 + 2))
  have mB4 := mB3.far (a := ⟨w.heap.size + 1, 1, none⟩) (by show w.heap.size ≠ w.heap.size + 1; omega) (Value.int .i64 (mods - r * 2 + 2))
  have hr14 := hr13.fr (Fr.setCell _ (w.heap.size + 1) 1 (Value.int .i64 (mods - r * 2 + 2)) _ rfl) (Wid.refl _ _)
  have hB4 := hB3.setCell (p := ⟨w.heap.size + 1, 1, none⟩) (by show _ ≤ w.heap.size + 1; omega) (Value.int .i64 (mods - r * 2 + 2))
  go_upto_region 10 with (fail)
  generalize hW4 : (w4.setCell ⟨w.heap.size + 1, 1, none⟩ (Value.int .i64 (mods - r * 2 + 2))) = W4 at *
  clear hW4
  have hvE := H.invB hv hB4
  have HV : Hid (∀ W, Below W4.heap.size W4 W → Inv W) := Lib.hid fun W hW => H.invB hvE hW
  have lm : ∀ W, Below W4.heap.size W4 W → Blk W w.heap.size 23 #[.bool m0, .bool m1, .bool m2, .bool m3, .bool m4, .bool m5, .bool m6, .int .i64 m7, .int .i64 m8, .int .i64 m9] := fun W hW => mB4.below hW mB4.lt
  have lk : ∀ W, Below W4.heap.size W4 W → Blk W (w.heap.size + 1) 25 #[.int .i64 code, .int .i64 (mods - r * 2 + 2), .int .i64 typ, .int .i64 shift, .int .i64 base, .string text] := fun W hW => kB4.below hW kB4.lt
  have hrE := (hr14).rd
  have hst : ∀ f ∈ ([⟨4, 50, FB (27 :: L)⟩] : List Fact), f.ok := List.forall_mem_cons.2 ⟨fb_ok _ _ _, fun _ h => by cases h⟩
  have hcat : ∀ W : World, (binOp .add 9 (.string ⟨#[27]⟩) (.string ⟨L.toArray⟩)).run Tryd.prog W = .ok (.string ⟨(27 :: L).toArray⟩) W := fun W => by
    have h27 : (⟨#[27]⟩ : ByteArray) = ⟨([27] : List UInt8).toArray⟩ := rfl
    have hsum : (⟨([27] : List UInt8).toArray⟩ : ByteArray).size + (⟨L.toArray⟩ : ByteArray).size ≤ 9223372036854775807 := by
      have := HLL.out
      have e1 : (⟨L.toArray⟩ : ByteArray).size = L.length := rfl
      have e2 : (⟨([27] : List UInt8).toArray⟩ : ByteArray).size = 1 := rfl
      omega
    rw [h27]
    simp only [binOp, run_string_add_sum (P := Tryd.prog) W _ _ hsum, ByteArray.mk_append_mk]
    rfl
  have hgt : ∀ W : World, (binOp .gtr 3 (.int .i64 (n : Int)) (.int .i64 0)).run Tryd.prog W = .ok (.bool true) W := fun W => by
    have : decide ((0 : Int) < (n : Int)) = true := decide_eq_true (by omega)
    go_simp
  refine wp_region_told (w1 := W4) (K := [⟨4, 50, FB (27 :: L)⟩]) (ix := 1000) (R0 := fun _ _ _ => True) (R1 := fun _ _ _ => True) [50] (⟨#[.agg #[.bool m0, .bool m1, .bool m2, .bool m3, .bool m4, .bool m5, .bool m6, .int .i64 m7, .int .i64 m8, .int .i64 m9], .agg #[.int .i64 code, .int .i64 mods, .int .i64 typ, .int .i64 shift, .int .i64 base, .string text], .pointer (some ⟨w.heap.size, 0, none⟩), .pointer (some ⟨w.heap.size + 1, 0, none⟩), .bool true, .bool true, .pointer (some ⟨w3.heap.size, 0, none⟩), .slice A1 n d1, .bool true, .agg #[.int .i64 code, .int .i64 mods, .int .i64 typ, .int .i64 shift, .int .i64 base, .string text], .bool true, .bool false, .bool false, .pointer (some ⟨w.heap.size + 1, 2, none⟩), .int .i64 typ, .bool false, .bool false, undef, .pointer (some ⟨w.heap.size + 1, 0, none⟩), .int .i64 code, .agg #[.int .i64 2, .int .u8 F, .int .i64 N, .int .i64 C, .bool B], .pointer (some ⟨w3.heap.size, 0, none⟩), .int .i64 2, .bool true, .bool true, .pointer (some ⟨w3.heap.size, 0, none⟩), .int .i64 2, .bool false, .bool false, undef, .pointer (some ⟨w.heap.size + 1, 1, none⟩), .int .i64 mods, .pointer (some ⟨w.heap.size + 1, 1, none⟩), .int .i64 mods, .int .i64 d, .int .i64 r, .int .i64 (r * 2), .int .i64 (mods - r * 2), .pointer (some ⟨w.heap.size + 1, 1, none⟩), .agg #[.bool m0, .bool m1, .bool m2, .bool m3, .bool m4, .bool m5, .bool m6, .int .i64 m7, .int .i64 m8, .int .i64 m9], .agg #[.int .i64 code, .int .i64 (mods - r * 2), .int .i64 typ, .int .i64 shift, .int .i64 base, .string text], .slice A1 n d1, .pointer (some ⟨w.heap.size + 1, 1, none⟩), .int .i64 (mods - r * 2), .int .i64 (mods - r * 2 + 2), .pointer (some ⟨w.heap.size + 1, 1, none⟩), .bool true, .bool true, .agg #[.bool m0, .bool m1, .bool m2, .bool m3, .bool m4, .bool m5, .bool m6, .int .i64 m7, .int .i64 m8, .int .i64 m9], .agg #[.int .i64 code, .int .i64 (mods - r * 2 + 2), .int .i64 typ, .int .i64 shift, .int .i64 base, .string text], undef, .string ⟨(27 :: L).toArray⟩, .slice A1 n d1, .string ⟨L.toArray⟩, .string ⟨(27 :: L).toArray⟩, .bool true, .bool true, .bool true, .slice A1 n d1, .int .i64 (n : Int), .bool true, .bool true], []⟩) (fun g => ⟨#[.agg #[.bool m0, .bool m1, .bool m2, .bool m3, .bool m4, .bool m5, .bool m6, .int .i64 m7, .int .i64 m8, .int .i64 m9], .agg #[.int .i64 code, .int .i64 mods, .int .i64 typ, .int .i64 shift, .int .i64 base, .string text], .pointer (some ⟨w.heap.size, 0, none⟩), .pointer (some ⟨w.heap.size + 1, 0, none⟩), .bool true, .bool true, .pointer (some ⟨w3.heap.size, 0, none⟩), .slice A1 n d1, .bool true, .agg #[.int .i64 code, .int .i64 mods, .int .i64 typ, .int .i64 shift, .int .i64 base, .string text], .bool true, .bool false, .bool false, .pointer (some ⟨w.heap.size + 1, 2, none⟩), .int .i64 typ, .bool false, .bool false, undef, .pointer (some ⟨w.heap.size + 1, 0, none⟩), .int .i64 code, .agg #[.int .i64 2, .int .u8 F, .int .i64 N, .int .i64 C, .bool B], .pointer (some ⟨w3.heap.size, 0, none⟩), .int .i64 2, .bool true, .bool true, .pointer (some ⟨w3.heap.size, 0, none⟩), .int .i64 2, .bool false, .bool false, undef, .pointer (some ⟨w.heap.size + 1, 1, none⟩), .int .i64 mods, .pointer (some ⟨w.heap.size + 1, 1, none⟩), .int .i64 mods, .int .i64 d, .int .i64 r, .int .i64 (r * 2), .int .i64 (mods - r * 2), .pointer (some ⟨w.heap.size + 1, 1, none⟩), .agg #[.bool m0, .bool m1, .bool m2, .bool m3, .bool m4, .bool m5, .bool m6, .int .i64 m7, .int .i64 m8, .int .i64 m9], .agg #[.int .i64 code, .int .i64 (mods - r * 2), .int .i64 typ, .int .i64 shift, .int .i64 base, .string text], .slice A1 n d1, .pointer (some ⟨w.heap.size + 1, 1, none⟩), .int .i64 (mods - r * 2), .int .i64 (mods - r * 2 + 2), .pointer (some ⟨w.heap.size + 1, 1, none⟩), .bool true, .bool true, .agg #[.bool m0, .bool m1, .bool m2, .bool m3, .bool m4, .bool m5, .bool m6, .int .i64 m7, .int .i64 m8, .int .i64 m9], .agg #[.int .i64 code, .int .i64 (mods - r * 2 + 2), .int .i64 typ, .int .i64 shift, .int .i64 base, .string text], (g 50), .string ⟨(27 :: L).toArray⟩, .slice A1 n d1, .string ⟨L.toArray⟩, .string ⟨(27 :: L).toArray⟩, .bool true, .bool true, .bool true, .slice A1 n d1, .int .i64 (n : Int), .bool true, .bool true], []⟩) [.bool true, .bool true, .agg #[.bool m0, .bool m1, .bool m2, .bool m3, .bool m4, .bool m5, .bool m6, .int .i64 m7, .int .i64 m8, .int .i64 m9], .agg #[.int .i64 code, .int .i64 (mods - r * 2 + 2), .int .i64 typ, .int .i64 shift, .int .i64 base, .string text], undef, .string ⟨(27 :: L).toArray⟩, .slice A1 n d1, .string ⟨L.toArray⟩, .string ⟨(27 :: L).toArray⟩, .bool true, .bool true, .bool true, .slice A1 n d1, .int .i64 (n : Int), .bool true, .bool true, .bool true] (by kernel_rfl) (by kernel_rfl) (by kernel_rfl) (fun g => by kernel_rfl) (by kernel_rfl) (Below.refl _ _).drew (by decide) (by kernel_rfl)
    (goes_cons (goesK_pure (fun _ => .bool true) rfl (by decide) (by decide) (by kernel_rfl) (fun g => by kernel_rfl) rfl (fun g => by kernel_rfl) (fun g w => by kernel_rfl)) 
    (goes_cons (goesK_pure (fun _ => .bool true) rfl (by decide) (by decide) (by kernel_rfl) (fun g => by kernel_rfl) rfl (fun g => by kernel_rfl) (fun g w => by kernel_rfl)) 
    (goes_cons (goesK_load hst (ahead_none (by decide)) rfl (by decide) (by decide) (by kernel_rfl) (fun g => by kernel_rfl) rfl (fun g => by kernel_rfl) rfl (fun g => by kernel_rfl) lm Tryd.underlying23 rfl (by kernel_rfl)) 
    (goes_cons (goesK_load hst (ahead_none (by decide)) rfl (by decide) (by decide) (by kernel_rfl) (fun g => by kernel_rfl) rfl (fun g => by kernel_rfl) rfl (fun g => by kernel_rfl) lk Tryd.underlying25 rfl (by kernel_rfl)) 
    (goes_cons (goesK_ghost (args := fun g => #[.agg #[.bool m0, .bool m1, .bool m2, .bool m3, .bool m4, .bool m5, .bool m6, .int .i64 m7, .int .i64 m8, .int .i64 m9], .agg #[.int .i64 code, .int .i64 (mods - r * 2 + 2), .int .i64 typ, .int .i64 shift, .int .i64 base, .string text]]) hst (ahead_none (by decide)) rfl (by decide) (by decide) 0 rfl (by kernel_rfl) (fun g => by kernel_rfl) rfl (fun g => by kernel_rfl) (fun g w => by kernel_rfl) (fun g W hW hin => fb_out (H2.out W (HV.out W hW)))) 
    (goes_cons (goesK_str 0 rfl (by kernel_rfl) Tryd.underlying28 Tryd.underlying5 Tryd.underlying9 hst (ahead_none (by decide)) rfl (by decide) (by decide) (by kernel_rfl) (fun g => by kernel_rfl) rfl (fun g => by kernel_rfl) rfl (fun g => by kernel_rfl)) 
    (goes_cons (goesK_pure (fun _ => .slice A1 n d1) rfl (by decide) (by decide) (by kernel_rfl) (fun g => by kernel_rfl) rfl (fun g => by kernel_rfl) (fun g w => by kernel_rfl)) 
    (goes_cons (goesK_conv (c := d1) HN.out (fun W hW => hrE.below hW) Tryd.underlying28 Tryd.underlying5 Tryd.underlying9 hst (ahead_none (by decide)) rfl (by decide) (by decide) (by kernel_rfl) (fun g => by kernel_rfl) rfl (fun g => by kernel_rfl) rfl (fun g => by kernel_rfl)) 
    (goes_cons (goesK_bin (v := .string ⟨(27 :: L).toArray⟩) (xv := .string ⟨#[27]⟩) (yv := .string ⟨L.toArray⟩) rfl (by decide) (by decide) (by kernel_rfl) (fun g => by kernel_rfl) rfl (fun g => by kernel_rfl) rfl (fun g => by kernel_rfl) (fun g => by kernel_rfl) hcat) 
    (goes_cons (goesK_bin (v := .bool true) (xv := .string ⟨(27 :: L).toArray⟩) (yv := .string ⟨(27 :: L).toArray⟩) rfl (by decide) (by decide) (by kernel_rfl) (fun g => by kernel_rfl) rfl (fun g => by kernel_rfl) rfl (fun g => by kernel_rfl) (fun g => by kernel_rfl) (fun w => by go_simp)) 
    (goes_cons (goesK_pure (fun _ => .bool true) rfl (by decide) (by decide) (by kernel_rfl) (fun g => by kernel_rfl) rfl (fun g => by kernel_rfl) (fun g w => by kernel_rfl)) 
    (goes_cons (goesK_pure (fun _ => .bool true) rfl (by decide) (by decide) (by kernel_rfl) (fun g => by kernel_rfl) rfl (fun g => by kernel_rfl) (fun g w => by kernel_rfl)) 
    (goes_cons (goesK_pure (fun _ => .slice A1 n d1) rfl (by decide) (by decide) (by kernel_rfl) (fun g => by kernel_rfl) rfl (fun g => by kernel_rfl) (fun g w => by kernel_rfl)) 
    (goes_cons (goesK_pure (fun _ => .int .i64 (n : Int)) rfl (by decide) (by decide) (by kernel_rfl) (fun g => by kernel_rfl) rfl (fun g => by kernel_rfl) (fun g w => by kernel_rfl)) 
    (goes_cons (goesK_bin (v := .bool true) (xv := .int .i64 (n : Int)) (yv := .int .i64 0) rfl (by decide) (by decide) (by kernel_rfl) (fun g => by kernel_rfl) rfl (fun g => by kernel_rfl) rfl (fun g => by kernel_rfl) (fun g => by kernel_rfl) hgt) 
    (goes_cons (goesK_pure (fun _ => .bool true) rfl (by decide) (by decide) (by kernel_rfl) (fun g => by kernel_rfl) rfl (fun g => by kernel_rfl) (fun g w => by kernel_rfl)) 
    (goes_cons (goesK_pure (fun _ => .bool true) rfl (by decide) (by decide) (by kernel_rfl) (fun g => by kernel_rfl) rfl (fun g => by kernel_rfl) (fun g w => by kernel_rfl)) goes_nil))))))))))))))))) ?_
  intro g W hW _
  go_wp2_with fail
  go_ret
  exact ⟨rfl, hB4.trans (hW.mono hB4.size)⟩
theorem legacyAlt_walk (H : LegC Inv) (m : Mo) (_ : okM m) (k : Ky) (hk : okK k) (hs : k.text.size ≤ 4294967296) (w : World) (hv : Inv w) : Calls Tryd.prog 5 #[moV m, kyV k] w fun e w' => e = .returned (.bool true) ∧ Below w.heap.size w w' := by
  by_cases h : mayK k = false ∨ k.typ = 3
  · exact legacyAlt_no H m k hk hs h w hv
  · have hm : mayK k = true := by
      cases e : mayK k with
      | true => rfl
      | false => exact absurd (.inl e) h
    have h3 : k.typ ≠ 3 := fun e => h (.inr e)
    by_cases h1 : (lookE k.code).kind = 1
    · exact legacyAlt_main1 H m k hk hs hm h3 h1 w hv
    · by_cases h2 : (lookE k.code).kind = 2
      · exact legacyAlt_main2 H m k hk hs hm h3 h2 w hv
      · exact legacyAlt_kind H m k hk hs hm h3 ⟨h1, h2⟩ w hv
end Go.Proofs.YtbjmfhcgkpjcfaaDoor
