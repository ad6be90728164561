/-
  Layer 11, the laws' walks over the bundle: LegacyTypes.
-/
import Derived.Test.YtbjmfhcgkpjcfaaDoorG13
import Derived.Test.YtbjmfhcgkpjcfaaDoorG15
import Derived.Test.YtbjmfhcgkpjcfaaDoorG17
import Derived.Test.YtbjmfhcgkpjcfaaDoorG35
import Derived.Test.YtbjmfhcgkpjcfaaDoorG42
import Derived.Deep.Cut
namespace Go.Proofs.YtbjmfhcgkpjcfaaDoor
open Go.RowKit

variable {Inv : World → Prop}
set_option maxRecDepth 100000 in
set_option maxHeartbeats 16000000 in
theorem legacyTypes_walk (H : LegC Inv) (m : Mo) (_ : okM m) (k : Ky) (hk : okK k) (hs : k.text.size ≤ 4294967296) (more : Int) (l0 : 0 ≤ more) (_l1 : more ≤ 255) (w : World) (hv : Inv w) : Calls Tryd.prog 3 #[moV m, kyV k, .int .u8 more] w fun e w' => e = .returned (.bool true) ∧ Below w.heap.size w w' := by
  cases hm : mayK k with
  | false =>
    have HM : Hid (∀ W, Calls Tryd.prog 8 #[kyV k] W fun e w' => e = .returned (.bool false) ∧ Below W.heap.size W w') := Lib.hid fun W => by rw [← hm]; exact rmay10_any k hs W
    have HK : Hid (∀ W, Inv W → Calls Tryd.prog 9 #[moV m, kyV k] W (KeyE [] 0 W)) := Lib.hid fun W hW => H.key_at m k (leg_no (.inl hm)) 0 rfl hk hs W hW
    clear hm hk hs
    simp only [moV, kyV] at HM HK ⊢
    obtain ⟨code, mods, typ, shift, base, text⟩ := k
    obtain ⟨m0, m1, m2, m3, m4, m5, m6, m7, m8, m9⟩ := m
    have hB : Below w.heap.size w ((w.alloc (.cells #[.bool m0, .bool m1, .bool m2, .bool m3, .bool m4, .bool m5, .bool m6, .int .i64 m7, .int .i64 m8, .int .i64 m9] 23)).alloc (.cells #[.int .i64 code, .int .i64 mods, .int .i64 typ, .int .i64 shift, .int .i64 base, .string text] 25)) := ((Below.refl _ w).alloc (Nat.le_refl _) _).alloc (by simp) _
    have a0 := (Blk.new w 23 #[.bool m0, .bool m1, .bool m2, .bool m3, .bool m4, .bool m5, .bool m6, .int .i64 m7, .int .i64 m8, .int .i64 m9]).alloc (.cells #[.int .i64 code, .int .i64 mods, .int .i64 typ, .int .i64 shift, .int .i64 base, .string text] 25)
    have b0 := Blk.new (w.alloc (.cells #[.bool m0, .bool m1, .bool m2, .bool m3, .bool m4, .bool m5, .bool m6, .int .i64 m7, .int .i64 m8, .int .i64 m9] 23)) 25 #[.int .i64 code, .int .i64 mods, .int .i64 typ, .int .i64 shift, .int .i64 base, .string text]
    rw [World.size_alloc] at b0
    have hv0 := H.invB hv hB
    simp only at HM HK
    go_enter Tryd.func3, Tryd.ntmps3
    go_wp2_with fail
    refine (legAwake H _ hv0).mono ?_
    rintro e w1 ⟨rfl, hb1⟩
    have a1 := a0.below hb1 a0.lt
    have b1 := b0.below hb1 b0.lt
    have hB1 := hB.trans (hb1.mono hB.size)
    have hv1 := H.invB hv hB1
    clear hv0 a0 b0 hB hb1
    obtain ⟨a0_, a1_, a2_, a3_, a4_, a5_⟩ := Blk.cells6 b1
    go_wp2_with fail
    refine (HM.out _).mono ?_
    rintro e w2 ⟨rfl, hb2⟩
    have a2 := a1.below hb2 a1.lt
    have b2 := b1.below hb2 b1.lt
    have hB2 := hB1.trans (hb2.mono hB1.size)
    have hv2 := H.invB hv hB2
    clear hv1 a1 b1 hB1 hb2 a0_ a1_ a2_ a3_ a4_ a5_
    obtain ⟨a0_, a1_, a2_, a3_, a4_, a5_⟩ := Blk.cells6 b2
    obtain ⟨c0, c1, c2, c3, c4, c5, c6, c7, c8, c9⟩ := Blk.cells10 a2
    go_wp2_with fail
    refine (HK.out _ hv2).mono ?_
    rintro e w3 ⟨A, c, rfl, hr3, hb3⟩
    go_wp2_with fail
    go_ret
    exact ⟨rfl, hB2.trans (hb3.mono hB2.size)⟩
  | true =>
    have HM : Hid (∀ W, Calls Tryd.prog 8 #[kyV k] W fun e w' => e = .returned (.bool true) ∧ Below W.heap.size W w') := Lib.hid fun W => by rw [← hm]; exact rmay10_any k hs W
    obtain ⟨⟨_, y0, y1, _, _⟩, _⟩ := (may_parts k).1 hm
    obtain ⟨L, hL⟩ : ∃ L, legL m { k with typ := 1 } = L := ⟨_, rfl⟩
    obtain ⟨n, hn⟩ : ∃ n, L.length = n := ⟨_, rfl⟩
    obtain ⟨a, ha⟩ : ∃ a, k.mods % 8 = a := ⟨_, rfl⟩
    obtain ⟨b, hb⟩ : ∃ b, more % 32 = b := ⟨_, rfl⟩
    have q1 : Int.tmod k.mods 8 = a := by rw [← ha]; exact Int.tmod_eq_emod_of_nonneg y0
    have q2 : Int.tmod more 32 = b := by rw [← hb]; exact Int.tmod_eq_emod_of_nonneg l0
    have i1 : in10 1 := in_lit11 (by decide)
    have i2 : in10 2 := in_lit11 (by decide)
    have i3 : in10 3 := in_lit11 (by decide)
    have i0 : in10 0 := in_lit11 (by decide)
    have im : in10 (a + 8 * b) := ⟨by omega, by omega⟩
    have hL3 : legL m { k with typ := 2, mods := a + 8 * b, base := 0 } = L := by
      have := leg_other m hm (j := b) (by omega) (by omega)
      rw [ha] at this
      rw [this, hL]
    have hL4 : legL m { k with typ := 3, mods := a + 8 * b, base := 0 } = [] := leg_no (.inr rfl)
    have H1 : Hid (∀ W, Inv W → Calls Tryd.prog 9 #[moV m, kyV { k with typ := 1 }] W (KeyE L n W)) := Lib.hid fun W hW => H.key_at m { k with typ := 1 } hL n hn ⟨hk.code, hk.mods, i1, hk.shift, hk.base⟩ hs W hW
    have H2 : Hid (∀ W, Inv W → Calls Tryd.prog 9 #[moV m, kyV { k with typ := 2 }] W (KeyE L n W)) := Lib.hid fun W hW => H.key_at m { k with typ := 2 } ((leg_repeat m hm).trans hL) n hn ⟨hk.code, hk.mods, i2, hk.shift, hk.base⟩ hs W hW
    have H3 : Hid (∀ W, Inv W → Calls Tryd.prog 9 #[moV m, kyV { k with typ := 2, mods := a + 8 * b, base := 0 }] W (KeyE L n W)) := Lib.hid fun W hW => H.key_at m { k with typ := 2, mods := a + 8 * b, base := 0 } hL3 n hn ⟨hk.code, im, i2, hk.shift, i0⟩ hs W hW
    have H4 : Hid (∀ W, Inv W → Calls Tryd.prog 9 #[moV m, kyV { k with typ := 3, mods := a + 8 * b, base := 0 }] W (KeyE [] 0 W)) := Lib.hid fun W hW => H.key_at m { k with typ := 3, mods := a + 8 * b, base := 0 } hL4 0 rfl ⟨hk.code, im, i3, hk.shift, i0⟩ hs W hW
    have HN := Lib.hid hn
    have r1 : 0 ≤ a ∧ a < 8 := by omega
    have r2 : 0 ≤ b ∧ b < 32 := by omega
    clear hm hk hs hL hn im
    simp only [moV, kyV] at HM H1 H2 H3 H4 ⊢
    obtain ⟨code, mods, typ, shift, base, text⟩ := k
    obtain ⟨m0, m1, m2, m3, m4, m5, m6, m7, m8, m9⟩ := m
    have hB : Below w.heap.size w ((w.alloc (.cells #[.bool m0, .bool m1, .bool m2, .bool m3, .bool m4, .bool m5, .bool m6, .int .i64 m7, .int .i64 m8, .int .i64 m9] 23)).alloc (.cells #[.int .i64 code, .int .i64 mods, .int .i64 typ, .int .i64 shift, .int .i64 base, .string text] 25)) := ((Below.refl _ w).alloc (Nat.le_refl _) _).alloc (by simp) _
    have a0 := (Blk.new w 23 #[.bool m0, .bool m1, .bool m2, .bool m3, .bool m4, .bool m5, .bool m6, .int .i64 m7, .int .i64 m8, .int .i64 m9]).alloc (.cells #[.int .i64 code, .int .i64 mods, .int .i64 typ, .int .i64 shift, .int .i64 base, .string text] 25)
    have b0 := Blk.new (w.alloc (.cells #[.bool m0, .bool m1, .bool m2, .bool m3, .bool m4, .bool m5, .bool m6, .int .i64 m7, .int .i64 m8, .int .i64 m9] 23)) 25 #[.int .i64 code, .int .i64 mods, .int .i64 typ, .int .i64 shift, .int .i64 base, .string text]
    rw [World.size_alloc] at b0
    have hv0 := H.invB hv hB
    simp only at HM H1 H2 H3 H4 q1 ha y0 y1
    go_enter Tryd.func3, Tryd.ntmps3
    go_wp2_with fail
    refine (legAwake H _ hv0).mono ?_
    rintro e w1 ⟨rfl, hb1⟩
    have a1 := a0.below hb1 a0.lt
    have b1 := b0.below hb1 b0.lt
    have hB1 := hB.trans (hb1.mono hB.size)
    have hv1 := H.invB hv hB1
    clear hv0 a0 b0 hB hb1
    obtain ⟨a0_, a1_, a2_, a3_, a4_, a5_⟩ := Blk.cells6 b1
    go_wp2_with fail
    refine (HM.out _).mono ?_
    rintro e w2 ⟨rfl, hb2⟩
    have mB0 := a1.below hb2 a1.lt
    have kB0 := b1.below hb2 b1.lt
    have hB0 := hB1.trans (hb2.mono hB1.size)
    clear hv1 a1 b1 hB1 hb2 a0_ a1_ a2_ a3_ a4_ a5_
    have z1_2 := kB0.frozen 2
    obtain ⟨a0, a1, a2, a3, a4, a5⟩ := Blk.cells6 kB0
    have kB1 : Blk (w2.setCell ⟨w.heap.size + 1, 2, none⟩ (Value.int .i64 1)) (w.heap.size + 1) 25 #[.int .i64 code, .int .i64 mods, .int .i64 1, .int .i64 shift, .int .i64 base, .string text] := kB0.set 2 (Value.int .i64 1)
    have mB1 := mB0.far (a := ⟨w.heap.size + 1, 2, none⟩) (by show w.heap.size ≠ w.heap.size + 1; omega) (Value.int .i64 1)
    have hB1 := hB0.setCell (p := ⟨w.heap.size + 1, 2, none⟩) (by show _ ≤ w.heap.size + 1; omega) (Value.int .i64 1)
    go_upto_region 5 with (fail)
    generalize hW1 : (w2.setCell ⟨w.heap.size + 1, 2, none⟩ (Value.int .i64 1)) = W1 at *
    clear hW1
    have hv1 := H.invB hv hB1
    obtain ⟨a0, a1, a2, a3, a4, a5⟩ := Blk.cells6 kB1
    obtain ⟨c0, c1, c2, c3, c4, c5, c6, c7, c8, c9⟩ := Blk.cells10 mB1
    go_wp2_with fail
    refine (H1.out _ hv1).mono ?_
    rintro e w3 ⟨A1, d1, rfl, hr, b2⟩
    have kB2 := kB1.below b2 kB1.lt
    have mB2 := mB1.below b2 mB1.lt
    have hB2 := hB1.trans (b2.mono hB1.size)
    have hr2 := hr.off_key kB2 rfl
    clear hr
    clear a0 a1 a2 a3 a4 a5 c0 c1 c2 c3 c4 c5 c6 c7 c8 c9 kB1 mB1 hv1
    have z3_2 := kB2.frozen 2
    obtain ⟨a0, a1, a2, a3, a4, a5⟩ := Blk.cells6 kB2
    have kB3 : Blk (w3.setCell ⟨w.heap.size + 1, 2, none⟩ (Value.int .i64 2)) (w.heap.size + 1) 25 #[.int .i64 code, .int .i64 mods, .int .i64 2, .int .i64 shift, .int .i64 base, .string text] := kB2.set 2 (Value.int .i64 2)
    have mB3 := mB2.far (a := ⟨w.heap.size + 1, 2, none⟩) (by show w.heap.size ≠ w.heap.size + 1; omega) (Value.int .i64 2)
    have hr3 := hr2.fr (Fr.setCell _ (w.heap.size + 1) 2 (Value.int .i64 2) _ rfl) (Wid.refl _ _)
    have hB3 := hB2.setCell (p := ⟨w.heap.size + 1, 2, none⟩) (by show _ ≤ w.heap.size + 1; omega) (Value.int .i64 2)
    go_upto_region 7 with (fail)
    generalize hW3 : (w3.setCell ⟨w.heap.size + 1, 2, none⟩ (Value.int .i64 2)) = W3 at *
    clear hW3
    have hv3 := H.invB hv hB3
    obtain ⟨a0, a1, a2, a3, a4, a5⟩ := Blk.cells6 kB3
    obtain ⟨c0, c1, c2, c3, c4, c5, c6, c7, c8, c9⟩ := Blk.cells10 mB3
    go_wp2_with fail
    refine (H2.out _ hv3).mono ?_
    rintro e w4 ⟨A2, d2, rfl, hs, b4⟩
    have kB4 := kB3.below b4 kB3.lt
    have mB4 := mB3.below b4 mB3.lt
    have hB4 := hB3.trans (b4.mono hB3.size)
    have hr4 := hr3.below' b4
    have hs4 := hs.off_key kB4 rfl
    clear hs
    clear a0 a1 a2 a3 a4 a5 c0 c1 c2 c3 c4 c5 c6 c7 c8 c9 kB3 mB3 hv3
    have z5_1 := kB4.frozen 1
    obtain ⟨a0, a1, a2, a3, a4, a5⟩ := Blk.cells6 kB4
    have kB5 : Blk (w4.setCell ⟨w.heap.size + 1, 1, none⟩ (Value.int .i64 (a + 8 * b))) (w.heap.size + 1) 25 #[.int .i64 code, .int .i64 (a + 8 * b), .int .i64 2, .int .i64 shift, .int .i64 base, .string text] := kB4.set 1 (Value.int .i64 (a + 8 * b))
    have mB5 := mB4.far (a := ⟨w.heap.size + 1, 1, none⟩) (by show w.heap.size ≠ w.heap.size + 1; omega) (Value.int .i64 (a + 8 * b))
    have hr5 := hr4.fr (Fr.setCell _ (w.heap.size + 1) 1 (Value.int .i64 (a + 8 * b)) _ rfl) (Wid.refl _ _)
    have hs5 := hs4.fr (Fr.setCell _ (w.heap.size + 1) 1 (Value.int .i64 (a + 8 * b)) _ rfl) (Wid.refl _ _)
    have hB5 := hB4.setCell (p := ⟨w.heap.size + 1, 1, none⟩) (by show _ ≤ w.heap.size + 1; omega) (Value.int .i64 (a + 8 * b))
    have z6_4 := kB5.frozen 4
    obtain ⟨a0, a1, a2, a3, a4, a5⟩ := Blk.cells6 kB5
    have kB6 : Blk ((w4.setCell ⟨w.heap.size + 1, 1, none⟩ (Value.int .i64 (a + 8 * b))).setCell ⟨w.heap.size + 1, 4, none⟩ (Value.int .i64 0)) (w.heap.size + 1) 25 #[.int .i64 code, .int .i64 (a + 8 * b), .int .i64 2, .int .i64 shift, .int .i64 0, .string text] := kB5.set 4 (Value.int .i64 0)
    have mB6 := mB5.far (a := ⟨w.heap.size + 1, 4, none⟩) (by show w.heap.size ≠ w.heap.size + 1; omega) (Value.int .i64 0)
    have hr6 := hr5.fr (Fr.setCell _ (w.heap.size + 1) 4 (Value.int .i64 0) _ rfl) (Wid.refl _ _)
    have hs6 := hs5.fr (Fr.setCell _ (w.heap.size + 1) 4 (Value.int .i64 0) _ rfl) (Wid.refl _ _)
    have hB6 := hB5.setCell (p := ⟨w.heap.size + 1, 4, none⟩) (by show _ ≤ w.heap.size + 1; omega) (Value.int .i64 0)
    go_upto_region 10 with (fail)
    generalize hW6 : ((w4.setCell ⟨w.heap.size + 1, 1, none⟩ (Value.int .i64 (a + 8 * b))).setCell ⟨w.heap.size + 1, 4, none⟩ (Value.int .i64 0)) = W6 at *
    clear hW6
    have hv6 := H.invB hv hB6
    obtain ⟨a0, a1, a2, a3, a4, a5⟩ := Blk.cells6 kB6
    obtain ⟨c0, c1, c2, c3, c4, c5, c6, c7, c8, c9⟩ := Blk.cells10 mB6
    go_wp2_with fail
    refine (H3.out _ hv6).mono ?_
    rintro e w5 ⟨A3, d3, rfl, ht, b7⟩
    have kB7 := kB6.below b7 kB6.lt
    have mB7 := mB6.below b7 mB6.lt
    have hB7 := hB6.trans (b7.mono hB6.size)
    have hr7 := hr6.below' b7
    have hs7 := hs6.below' b7
    have ht7 := ht.off_key kB7 rfl
    clear ht
    clear a0 a1 a2 a3 a4 a5 c0 c1 c2 c3 c4 c5 c6 c7 c8 c9 kB6 mB6 hv6
    have z8_2 := kB7.frozen 2
    obtain ⟨a0, a1, a2, a3, a4, a5⟩ := Blk.cells6 kB7
    have kB8 : Blk (w5.setCell ⟨w.heap.size + 1, 2, none⟩ (Value.int .i64 3)) (w.heap.size + 1) 25 #[.int .i64 code, .int .i64 (a + 8 * b), .int .i64 3, .int .i64 shift, .int .i64 0, .string text] := kB7.set 2 (Value.int .i64 3)
    have mB8 := mB7.far (a := ⟨w.heap.size + 1, 2, none⟩) (by show w.heap.size ≠ w.heap.size + 1; omega) (Value.int .i64 3)
    have hr8 := hr7.fr (Fr.setCell _ (w.heap.size + 1) 2 (Value.int .i64 3) _ rfl) (Wid.refl _ _)
    have hs8 := hs7.fr (Fr.setCell _ (w.heap.size + 1) 2 (Value.int .i64 3) _ rfl) (Wid.refl _ _)
    have ht8 := ht7.fr (Fr.setCell _ (w.heap.size + 1) 2 (Value.int .i64 3) _ rfl) (Wid.refl _ _)
    have hB8 := hB7.setCell (p := ⟨w.heap.size + 1, 2, none⟩) (by show _ ≤ w.heap.size + 1; omega) (Value.int .i64 3)
    go_upto_region 12 with (fail)
    generalize hW8 : (w5.setCell ⟨w.heap.size + 1, 2, none⟩ (Value.int .i64 3)) = W8 at *
    clear hW8
    have s1 := str_lit (c := d1) HN.out hr8.rd
    have s2 := str_lit (c := d2) HN.out hs8.rd
    have s3 := str_lit (c := d3) HN.out ht8.rd
    have hv8 := H.invB hv hB8
    obtain ⟨a0, a1, a2, a3, a4, a5⟩ := Blk.cells6 kB8
    obtain ⟨c0, c1, c2, c3, c4, c5, c6, c7, c8, c9⟩ := Blk.cells10 mB8
    go_wp2_with fail
    refine (H4.out _ hv8).mono ?_
    rintro e w6 ⟨A4, d4, rfl, hu, b9⟩
    have kB9 := kB8.below b9 kB8.lt
    have mB9 := mB8.below b9 mB8.lt
    have hB9 := hB8.trans (b9.mono hB8.size)
    have hr9 := hr8.below' b9
    have hs9 := hs8.below' b9
    have ht9 := ht8.below' b9
    clear a0 a1 a2 a3 a4 a5 c0 c1 c2 c3 c4 c5 c6 c7 c8 c9 kB8 mB8 hv8
    go_wp2_with fail
    go_ret
    exact ⟨rfl, hB9⟩
end Go.Proofs.YtbjmfhcgkpjcfaaDoor
