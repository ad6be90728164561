/-
  Layer 11, the laws' walks over the bundle: LegacyText.
-/
import Derived.Test.YtbjmfhcgkpjcfaaDoorG13
import Derived.Test.YtbjmfhcgkpjcfaaDoorG18
import Derived.Test.YtbjmfhcgkpjcfaaDoorG35
import Derived.Test.YtbjmfhcgkpjcfaaDoorG39
import Derived.Test.YtbjmfhcgkpjcfaaDoorG44
import Derived.Deep.Cut
namespace Go.Proofs.YtbjmfhcgkpjcfaaDoor
open Go.RowKit

variable {Inv : World → Prop}
theorem fieldK_kind (K F N C : Int) (B : Bool) (W : World) : (Instr.field 32 (.agg #[.int .i64 K, .int .u8 F, .int .i64 N, .int .i64 C, .bool B]) 0).run Tryd.prog W = .ok (.int .i64 K) W := by kernel_rfl
theorem str_list11 (s : ByteArray) : (⟨s.data.toList.toArray⟩ : ByteArray) = s := by cases s; simp
theorem shownG_ctrl {code shift : Int} {s1 is : Bool} {t : List UInt8} {C F : Int} (hC : shownC code shift s1 = C) (hF : foldN C = (F, is)) : shownG code shift s1 true t = if is = true then [byt F] else putL C := by
  unfold shownG
  rw [if_neg (by simp), hC, hF]
  cases is <;> rfl
theorem shownG_bare {code shift : Int} {s1 : Bool} {C : Int} (hC : shownC code shift s1 = C) : shownG code shift s1 false [] = putL C := by
  unfold shownG
  rw [if_neg (by simp), if_neg (by simp), hC]
set_option maxRecDepth 100000 in
set_option maxHeartbeats 16000000 in
theorem legacyText_no (H : LegC Inv) (k : Ky) (_hk : okK k) (hs : k.text.size ≤ 4294967296) (h : mayK k = false) (w : World) (hv : Inv w) : Calls Tryd.prog 6 #[kyV k] w fun e w' => e = .returned (.bool true) ∧ Below w.heap.size w w' := by
  have HM : Hid (∀ W, Calls Tryd.prog 8 #[kyV k] W fun e w' => e = .returned (.bool false) ∧ Below W.heap.size W w') := Lib.hid fun W => by rw [← h]; exact rmay10_any k hs W
  clear h hs
  simp only [kyV] at HM ⊢
  obtain ⟨code, mods, typ, shift, base, text⟩ := k
  have hB : Below w.heap.size w (w.alloc (.cells #[.int .i64 code, .int .i64 mods, .int .i64 typ, .int .i64 shift, .int .i64 base, .string text] 25)) := (Below.refl _ w).alloc (Nat.le_refl _) _
  have b0 := Blk.new w 25 #[.int .i64 code, .int .i64 mods, .int .i64 typ, .int .i64 shift, .int .i64 base, .string text]
  have hv0 := H.invB hv hB
  simp only at HM
  go_enter Tryd.func6, Tryd.ntmps6
  go_wp2_with fail
  refine (legAwake H _ hv0).mono ?_
  rintro e w1 ⟨rfl, hb1⟩
  have b1 := b0.below hb1 b0.lt
  have hB1 := hB.trans (hb1.mono hB.size)
  have hv1 := H.invB hv hB1
  clear hv0 b0 hB hb1
  obtain ⟨a0_, a1_, a2_, a3_, a4_, a5_⟩ := Blk.cells6 b1
  go_wp2_with fail
  refine (HM.out _).mono ?_
  rintro e w2 ⟨rfl, hb2⟩
  have kB0 := b1.below hb2 b1.lt
  have hB0 := hB1.trans (hb2.mono hB1.size)
  clear hv1 b1 hB1 hb2 a0_ a1_ a2_ a3_ a4_ a5_
  obtain ⟨a0, a1, a2, a3, a4, a5⟩ := Blk.cells6 kB0
  go_wp2_with fail
  go_ret
  exact ⟨rfl, hB0⟩
set_option maxRecDepth 100000 in
set_option maxHeartbeats 16000000 in
theorem legacyText_kind (H : LegC Inv) (k : Ky) (hk : okK k) (hs : k.text.size ≤ 4294967296) (hm : mayK k = true) (hK : (lookE k.code).kind ≠ 1) (w : World) (hv : Inv w) : Calls Tryd.prog 6 #[kyV k] w fun e w' => e = .returned (.bool true) ∧ Below w.heap.size w w' := by
  have HM : Hid (∀ W, Calls Tryd.prog 8 #[kyV k] W fun e w' => e = .returned (.bool true) ∧ Below W.heap.size W w') := Lib.hid fun W => by rw [← hm]; exact rmay10_any k hs W
  obtain ⟨⟨K, F0, N, C0, B⟩, hE⟩ : ∃ E, lookE k.code = E := ⟨_, rfl⟩
  have HL : Hid (∀ W, Inv W → Calls Tryd.prog 10 #[.int .i64 k.code] W fun e w' => e = .returned (.agg #[.int .i64 K, .int .u8 F0, .int .i64 N, .int .i64 C0, .bool B]) ∧ Below W.heap.size W w') := Lib.hid fun W hW => H.look_at W hW hk.code hE
  rw [hE] at hK
  clear hm hk hs hE
  simp only [kyV] at HM ⊢
  obtain ⟨code, mods, typ, shift, base, text⟩ := k
  have hB : Below w.heap.size w (w.alloc (.cells #[.int .i64 code, .int .i64 mods, .int .i64 typ, .int .i64 shift, .int .i64 base, .string text] 25)) := (Below.refl _ w).alloc (Nat.le_refl _) _
  have b0 := Blk.new w 25 #[.int .i64 code, .int .i64 mods, .int .i64 typ, .int .i64 shift, .int .i64 base, .string text]
  have hv0 := H.invB hv hB
  simp only at HM HL hK
  have u1 : (K == 1) = false := beq_false_of_ne hK
  have v1 : (K != 1) = true := by simp [bne, u1]
  clear hK
  go_enter Tryd.func6, Tryd.ntmps6
  go_wp2_with fail
  refine (legAwake H _ hv0).mono ?_
  rintro e w1 ⟨rfl, hb1⟩
  have b1 := b0.below hb1 b0.lt
  have hB1 := hB.trans (hb1.mono hB.size)
  have hv1 := H.invB hv hB1
  clear hv0 b0 hB hb1
  obtain ⟨a0_, a1_, a2_, a3_, a4_, a5_⟩ := Blk.cells6 b1
  go_wp2_with fail
  refine (HM.out _).mono ?_
  rintro e w2 ⟨rfl, hb2⟩
  have kB0 := b1.below hb2 b1.lt
  have hB0 := hB1.trans (hb2.mono hB1.size)
  clear hv1 b1 hB1 hb2 a0_ a1_ a2_ a3_ a4_ a5_
  obtain ⟨a0, a1, a2, a3, a4, a5⟩ := Blk.cells6 kB0
  have hv2 := H.invB hv hB0
  have gk := fieldK_kind K F0 N C0 B
  go_wp2_with fail
  refine (HL.out _ hv2).mono ?_
  rintro e w3 ⟨rfl, hb3⟩
  have kB1 := kB0.below hb3 kB0.lt
  have hB1 := hB0.trans (hb3.mono hB0.size)
  clear a0 a1 a2 a3 a4 a5 kB0 hB0 hb3 hv2
  go_wp2_with fail
  go_ret
  exact ⟨rfl, hB1⟩
set_option maxRecDepth 100000 in
set_option maxHeartbeats 16000000 in
theorem legacyText_ey (H : LegC Inv) (k : Ky) (hk : okK k) (hs : k.text.size ≤ 4294967296) (hm : mayK k = true) (hK : (lookE k.code).kind = 1) (ht : k.text.data.toList = []) (F : Int) (hF : foldN (shownC k.code k.shift (hasN (k.mods % 2) 1)) = (F, true)) (w : World) (hv : Inv w) : Calls Tryd.prog 6 #[kyV k] w fun e w' => e = .returned (.bool true) ∧ Below w.heap.size w w' := by
  have HM : Hid (∀ W, Calls Tryd.prog 8 #[kyV k] W fun e w' => e = .returned (.bool true) ∧ Below W.heap.size W w') := Lib.hid fun W => by rw [← hm]; exact rmay10_any k hs W
  obtain ⟨⟨K, F0, N, C0, B⟩, hE⟩ : ∃ E, lookE k.code = E := ⟨_, rfl⟩
  have HL : Hid (∀ W, Inv W → Calls Tryd.prog 10 #[.int .i64 k.code] W fun e w' => e = .returned (.agg #[.int .i64 K, .int .u8 F0, .int .i64 N, .int .i64 C0, .bool B]) ∧ Below W.heap.size W w') := Lib.hid fun W hW => H.look_at W hW hk.code hE
  obtain ⟨⟨_, y0, y1, _, _⟩, _⟩ := (may_parts k).1 hm
  obtain ⟨b2, b4, c2, c4, cs⟩ := text_bits k.mods
  obtain ⟨r, hr⟩ : ∃ r, k.mods % 2 = r := ⟨_, rfl⟩
  have q2 : Int.tmod k.mods 2 = r := by rw [← hr]; exact Int.tmod_eq_emod_of_nonneg y0
  have r0 : 0 ≤ r ∧ r ≤ 1 := by omega
  rw [hr] at b2 b4 c2 c4 cs hF
  obtain ⟨C, hC⟩ : ∃ C, shownC k.code k.shift (hasN r 1) = C := ⟨_, rfl⟩
  rw [hC] at hF
  have i1 : in10 1 := in_lit11 (by decide)
  have ir : in10 r := ⟨by omega, by omega⟩
  have ir4 : in10 (r + 4) := ⟨by omega, by omega⟩
  have m1_ : mayK { k with typ := 1, mods := r } = true := may_mods (may_typ hm (t := 1) (by decide) (by decide)) (n := r) (by omega) (by omega)
  have m2_ : mayK { k with typ := 1, mods := r + 4 } = true := may_mods (may_typ hm (t := 1) (by decide) (by decide)) (n := r + 4) (by omega) (by omega)
  have m3_ : mayK { k with typ := 1, mods := r, text := ByteArray.empty } = true := may_mute m1_
  have L1 : legL mo0 { k with typ := 1, mods := r } = shownG k.code k.shift (hasN r 1) false k.text.data.toList := by
    have := leg_text mo0 (k := { k with typ := 1, mods := r }) m1_ (by simp) hK b2
    rw [b4] at this
    exact this
  have L2 : legL mo0 { k with typ := 1, mods := r + 4 } = (if true = true then [byt F] else putL C) := by
    have := leg_text mo0 (k := { k with typ := 1, mods := r + 4 }) m2_ (by simp) hK c2
    rw [c4, cs] at this
    exact this.trans (shownG_ctrl hC hF)
  have L3 : legL mo0 { k with typ := 1, mods := r, text := ByteArray.empty } = putL C := by
    have := leg_text mo0 (k := { k with typ := 1, mods := r, text := ByteArray.empty }) m3_ (by simp) hK b2
    rw [b4] at this
    exact this.trans (shownG_bare hC)
  obtain ⟨Z, hZ⟩ : ∃ Z, legL mo0 { k with typ := 1, mods := r } = Z := ⟨_, rfl⟩
  obtain ⟨n1, hn1⟩ : ∃ n, Z.length = n := ⟨_, rfl⟩
  have H1 : Hid (∀ W, Inv W → Calls Tryd.prog 9 #[moV mo0, kyV { k with typ := 1, mods := r }] W (KeyE Z n1 W)) := Lib.hid fun W hW => H.key_at mo0 { k with typ := 1, mods := r } hZ n1 hn1 ⟨hk.code, ir, i1, hk.shift, hk.base⟩ hs W hW
  clear hZ
  have HN1 := Lib.hid hn1
  have hx : k.text = ⟨#[]⟩ := by apply ByteArray.ext; simpa using ht
  have f0 := (fold_rng C).1
  rw [hF] at f0
  obtain ⟨f1, f2⟩ := f0 rfl
  have f3 : F < 256 := by omega
  have H2 : Hid (∀ W, Inv W → Calls Tryd.prog 9 #[moV mo0, kyV { k with typ := 1, mods := r + 4 }] W (KeyE [byt F] 1 W)) := Lib.hid fun W hW => H.key_at mo0 { k with typ := 1, mods := r + 4 } (L2.trans (if_pos rfl)) 1 rfl ⟨hk.code, ir4, i1, hk.shift, hk.base⟩ hs W hW
  have HS : Hid (∀ W, Calls Tryd.prog 14 #[kyV { k with typ := 1, mods := r + 4 }] W fun e w' => e = .returned (.int .i64 C) ∧ Below W.heap.size W w') := Lib.hid fun W => by
    have := rshown_any { k with typ := 1, mods := r + 4 } ⟨hk.code, ir4, i1, hk.shift, hk.base⟩ W
    rw [shownK_eq] at this
    have e : shownC k.code k.shift (hasN (r + 4) 1) = C := by rw [cs]; exact hC
    rwa [show shownC (({ k with typ := 1, mods := r + 4 } : Ky)).code (({ k with typ := 1, mods := r + 4 } : Ky)).shift (hasN (({ k with typ := 1, mods := r + 4 } : Ky)).mods 1) = C from e] at this
  have HF : Hid (∀ W, Calls Tryd.prog 13 #[.int .i64 C] W fun e w' => e = .returned (.tuple #[.int .i64 F, .bool true]) ∧ Below W.heap.size W w') := Lib.hid fun W => by
    have := rfold_any C W
    rwa [hF] at this
  rw [hE] at hK
  clear hm hk hs hE hn1 hF hC L1 L2 L3 m1_ m2_ m3_ b2 b4 c2 c4 cs ir ir4 i1 ht
  simp only [moV, kyV, mo0] at HM H1 H2 HS ⊢
  obtain ⟨code, mods, typ, shift, base, text⟩ := k
  have hB : Below w.heap.size w (w.alloc (.cells #[.int .i64 code, .int .i64 mods, .int .i64 typ, .int .i64 shift, .int .i64 base, .string text] 25)) := (Below.refl _ w).alloc (Nat.le_refl _) _
  have b0 := Blk.new w 25 #[.int .i64 code, .int .i64 mods, .int .i64 typ, .int .i64 shift, .int .i64 base, .string text]
  have hv0 := H.invB hv hB
  simp only at hx
  subst hx
  simp only at HM HL H1 H2 HS hK q2 hr y0 y1
  subst hK
  go_enter Tryd.func6, Tryd.ntmps6
  go_wp2_with fail
  refine (legAwake H _ hv0).mono ?_
  rintro e w1 ⟨rfl, hb1⟩
  have b1 := b0.below hb1 b0.lt
  have hB1 := hB.trans (hb1.mono hB.size)
  have hv1 := H.invB hv hB1
  clear hv0 b0 hB hb1
  obtain ⟨a0_, a1_, a2_, a3_, a4_, a5_⟩ := Blk.cells6 b1
  go_wp2_with fail
  refine (HM.out _).mono ?_
  rintro e w2 ⟨rfl, hb2⟩
  have kB0 := b1.below hb2 b1.lt
  have hB0 := hB1.trans (hb2.mono hB1.size)
  clear hv1 b1 hB1 hb2 a0_ a1_ a2_ a3_ a4_ a5_
  obtain ⟨a0, a1, a2, a3, a4, a5⟩ := Blk.cells6 kB0
  have hv2 := H.invB hv hB0
  have gk := fieldK_kind 1 F0 N C0 B
  go_wp2_with fail
  refine (HL.out _ hv2).mono ?_
  rintro e w3 ⟨rfl, hb3⟩
  have kB1 := kB0.below hb3 kB0.lt
  have hB1 := hB0.trans (hb3.mono hB0.size)
  clear a0 a1 a2 a3 a4 a5 kB0 hB0 hb3 hv2
  have z2_2 := kB1.frozen 2
  obtain ⟨a0, a1, a2, a3, a4, a5⟩ := Blk.cells6 kB1
  have kB2 : Blk (w3.setCell ⟨w.heap.size, 2, none⟩ (Value.int .i64 1)) (w.heap.size) 25 #[.int .i64 code, .int .i64 mods, .int .i64 1, .int .i64 shift, .int .i64 base, .string ⟨#[]⟩] := kB1.set 2 (Value.int .i64 1)
  have hB2 := hB1.setCell (p := ⟨w.heap.size, 2, none⟩) (by show _ ≤ w.heap.size; omega) (Value.int .i64 1)
  have z3_1 := kB2.frozen 1
  obtain ⟨a0, a1, a2, a3, a4, a5⟩ := Blk.cells6 kB2
  have kB3 : Blk ((w3.setCell ⟨w.heap.size, 2, none⟩ (Value.int .i64 1)).setCell ⟨w.heap.size, 1, none⟩ (Value.int .i64 r)) (w.heap.size) 25 #[.int .i64 code, .int .i64 r, .int .i64 1, .int .i64 shift, .int .i64 base, .string ⟨#[]⟩] := kB2.set 1 (Value.int .i64 r)
  have hB3 := hB2.setCell (p := ⟨w.heap.size, 1, none⟩) (by show _ ≤ w.heap.size; omega) (Value.int .i64 r)
  go_upto_region 6 with (fail)
  generalize hW3 : ((w3.setCell ⟨w.heap.size, 2, none⟩ (Value.int .i64 1)).setCell ⟨w.heap.size, 1, none⟩ (Value.int .i64 r)) = W3 at *
  clear hW3
  have hv3 := H.invB hv hB3
  obtain ⟨a0, a1, a2, a3, a4, a5⟩ := Blk.cells6 kB3
  go_wp2_with fail
  refine (H1.out _ hv3).mono ?_
  rintro e w4 ⟨A1, d1, rfl, hr1, b4⟩
  have kB4 := kB3.below b4 kB3.lt
  have hB4 := hB3.trans (b4.mono hB3.size)
  have hr14 := hr1.off_key kB4 rfl
  clear hr1
  clear a0 a1 a2 a3 a4 a5 kB3 hv3
  obtain ⟨a0, a1, a2, a3, a4, a5⟩ := Blk.cells6 kB4
  go_upto_region 8 with (fail)
  clear a0 a1 a2 a3 a4 a5
  have z5_1 := kB4.frozen 1
  obtain ⟨a0, a1, a2, a3, a4, a5⟩ := Blk.cells6 kB4
  have kB5 : Blk (w4.setCell ⟨w.heap.size, 1, none⟩ (Value.int .i64 (r + 4))) (w.heap.size) 25 #[.int .i64 code, .int .i64 (r + 4), .int .i64 1, .int .i64 shift, .int .i64 base, .string ⟨#[]⟩] := kB4.set 1 (Value.int .i64 (r + 4))
  have hr15 := hr14.fr (Fr.setCell _ (w.heap.size) 1 (Value.int .i64 (r + 4)) _ rfl) (Wid.refl _ _)
  have hB5 := hB4.setCell (p := ⟨w.heap.size, 1, none⟩) (by show _ ≤ w.heap.size; omega) (Value.int .i64 (r + 4))
  go_upto_region 9 with (fail)
  generalize hW5 : (w4.setCell ⟨w.heap.size, 1, none⟩ (Value.int .i64 (r + 4))) = W5 at *
  clear hW5
  have hv5 := H.invB hv hB5
  obtain ⟨a0, a1, a2, a3, a4, a5⟩ := Blk.cells6 kB5
  go_wp2_with fail
  refine (H2.out _ hv5).mono ?_
  rintro e w5 ⟨A2, d2, rfl, hr2, b6⟩
  have kB6 := kB5.below b6 kB5.lt
  have hB6 := hB5.trans (b6.mono hB5.size)
  have hr16 := hr15.below' b6
  have hr26 := hr2.off_key kB6 rfl
  clear hr2
  clear a0 a1 a2 a3 a4 a5 kB5 hv5
  have hv6 := H.invB hv hB6
  obtain ⟨a0, a1, a2, a3, a4, a5⟩ := Blk.cells6 kB6
  go_wp2_with fail
  refine (HS.out _).mono ?_
  rintro e w6 ⟨rfl, b7⟩
  have kB7 := kB6.below b7 kB6.lt
  have hB7 := hB6.trans (b7.mono hB6.size)
  have hr17 := hr16.below' b7
  have hr27 := hr26.below' b7
  clear a0 a1 a2 a3 a4 a5 kB6 hv6
  have hv7 := H.invB hv hB7
  obtain ⟨a0, a1, a2, a3, a4, a5⟩ := Blk.cells6 kB7
  go_wp2_with fail
  refine (HF.out _).mono ?_
  rintro e w7 ⟨rfl, b8⟩
  have kB8 := kB7.below b8 kB7.lt
  have hB8 := hB7.trans (b8.mono hB7.size)
  have hr18 := hr17.below' b8
  have hr28 := hr27.below' b8
  clear a0 a1 a2 a3 a4 a5 kB7 hv7
  have z9_5 := kB8.frozen 5
  obtain ⟨a0, a1, a2, a3, a4, a5⟩ := Blk.cells6 kB8
  have kB9 : Blk (w7.setCell ⟨w.heap.size, 5, none⟩ (Value.string ⟨#[]⟩)) (w.heap.size) 25 #[.int .i64 code, .int .i64 (r + 4), .int .i64 1, .int .i64 shift, .int .i64 base, .string ⟨#[]⟩] := kB8.set 5 (Value.string ⟨#[]⟩)
  have hr19 := hr18.fr (Fr.setCell _ (w.heap.size) 5 (Value.string ⟨#[]⟩) _ rfl) (Wid.refl _ _)
  have hr29 := hr28.fr (Fr.setCell _ (w.heap.size) 5 (Value.string ⟨#[]⟩) _ rfl) (Wid.refl _ _)
  have hB9 := hB8.setCell (p := ⟨w.heap.size, 5, none⟩) (by show _ ≤ w.heap.size; omega) (Value.string ⟨#[]⟩)
  have z10_1 := kB9.frozen 1
  obtain ⟨a0, a1, a2, a3, a4, a5⟩ := Blk.cells6 kB9
  have kB10 : Blk ((w7.setCell ⟨w.heap.size, 5, none⟩ (Value.string ⟨#[]⟩)).setCell ⟨w.heap.size, 1, none⟩ (Value.int .i64 r)) (w.heap.size) 25 #[.int .i64 code, .int .i64 r, .int .i64 1, .int .i64 shift, .int .i64 base, .string ⟨#[]⟩] := kB9.set 1 (Value.int .i64 r)
  have hr110 := hr19.fr (Fr.setCell _ (w.heap.size) 1 (Value.int .i64 r) _ rfl) (Wid.refl _ _)
  have hr210 := hr29.fr (Fr.setCell _ (w.heap.size) 1 (Value.int .i64 r) _ rfl) (Wid.refl _ _)
  have hB10 := hB9.setCell (p := ⟨w.heap.size, 1, none⟩) (by show _ ≤ w.heap.size; omega) (Value.int .i64 r)
  go_upto_region 13 with (fail)
  generalize hW10 : ((w7.setCell ⟨w.heap.size, 5, none⟩ (Value.string ⟨#[]⟩)).setCell ⟨w.heap.size, 1, none⟩ (Value.int .i64 r)) = W10 at *
  clear hW10
  obtain ⟨b, o, rfl, hbb, hcc⟩ := (hr210).rd (by show 0 < 1; decide)
  have hc0 : W10.cell? ⟨b, o + 0, none⟩ = some (.int .u8 F) := hcc 0 _ (by rw [bs1 F f1 f3]; rfl)
  have lz : ∀ W, Below W10.heap.size W10 W → W.cell? ⟨b, o + 0, none⟩ = some (.int .u8 F) := fun W hW => (hW.cell (p := ⟨b, o + 0, none⟩) hbb).trans hc0
  have hst : ∀ f ∈ ([] : List Fact), f.ok := fun _ h => by cases h
  refine wp_region_told (w1 := W10) (K := []) (ix := 1000) (R0 := fun _ _ _ => True) (R1 := fun _ _ _ => True) [] (⟨#[.agg #[.int .i64 code, .int .i64 mods, .int .i64 typ, .int .i64 shift, .int .i64 base, .string ⟨#[]⟩], .pointer (some ⟨w.heap.size, 0, none⟩), .bool true, .bool true, .slice A1 n1 d1, .bool true, .slice (some ⟨b, o, none⟩) 1 d2, .int .i64 F, .bool true, .bool true, .agg #[.int .i64 code, .int .i64 mods, .int .i64 typ, .int .i64 shift, .int .i64 base, .string ⟨#[]⟩], .bool true, .bool false, .bool false, .pointer (some ⟨w.heap.size, 0, none⟩), .int .i64 code, .agg #[.int .i64 1, .int .u8 F0, .int .i64 N, .int .i64 C0, .bool B], .int .i64 1, .bool false, .bool false, undef, .pointer (some ⟨w.heap.size, 2, none⟩), .pointer (some ⟨w.heap.size, 1, none⟩), .int .i64 mods, .int .i64 r, .pointer (some ⟨w.heap.size, 1, none⟩), .agg #[.bool false, .bool false, .bool false, .bool false, .bool false, .bool false, .bool false, .int .i64 0, .int .i64 0, .int .i64 0], .agg #[.int .i64 code, .int .i64 r, .int .i64 1, .int .i64 shift, .int .i64 base, .string ⟨#[]⟩], .slice A1 n1 d1, .pointer (some ⟨w.heap.size, 5, none⟩), .string ⟨#[]⟩, .bool true, .bool true, undef, undef, undef, undef, undef, .bool true, .pointer (some ⟨w.heap.size, 1, none⟩), .int .i64 r, .int .i64 (r + 4), .pointer (some ⟨w.heap.size, 1, none⟩), .agg #[.bool false, .bool false, .bool false, .bool false, .bool false, .bool false, .bool false, .int .i64 0, .int .i64 0, .int .i64 0], .agg #[.int .i64 code, .int .i64 (r + 4), .int .i64 1, .int .i64 shift, .int .i64 base, .string ⟨#[]⟩], .slice (some ⟨b, o, none⟩) 1 d2, .tuple #[.int .i64 F, .bool true], .agg #[.int .i64 code, .int .i64 (r + 4), .int .i64 1, .int .i64 shift, .int .i64 base, .string ⟨#[]⟩], .int .i64 C, .tuple #[.int .i64 F, .bool true], .int .i64 F, .bool true, .pointer (some ⟨w.heap.size, 5, none⟩), .pointer (some ⟨w.heap.size, 1, none⟩), .int .i64 (r + 4), .int .i64 r, .pointer (some ⟨w.heap.size, 1, none⟩), .bool true, .bool true, .bool true, .bool true, .bool true, .bool true, .bool true, .slice (some ⟨b, o, none⟩) 1 d2, .int .i64 1, .bool true, .bool true, .bool true, .slice (some ⟨b, o, none⟩) 1 d2, .pointer (some ⟨b, o + 0, none⟩), .int .u8 F, .int .i64 F, .int .i64 F, .bool true, .bool true, .bool true, undef, undef, undef, undef, undef, undef, undef, undef, undef, undef, undef, .bool true, .bool true], []⟩) (fun g => ⟨#[.agg #[.int .i64 code, .int .i64 mods, .int .i64 typ, .int .i64 shift, .int .i64 base, .string ⟨#[]⟩], .pointer (some ⟨w.heap.size, 0, none⟩), .bool true, .bool true, .slice A1 n1 d1, .bool true, .slice (some ⟨b, o, none⟩) 1 d2, .int .i64 F, .bool true, .bool true, .agg #[.int .i64 code, .int .i64 mods, .int .i64 typ, .int .i64 shift, .int .i64 base, .string ⟨#[]⟩], .bool true, .bool false, .bool false, .pointer (some ⟨w.heap.size, 0, none⟩), .int .i64 code, .agg #[.int .i64 1, .int .u8 F0, .int .i64 N, .int .i64 C0, .bool B], .int .i64 1, .bool false, .bool false, undef, .pointer (some ⟨w.heap.size, 2, none⟩), .pointer (some ⟨w.heap.size, 1, none⟩), .int .i64 mods, .int .i64 r, .pointer (some ⟨w.heap.size, 1, none⟩), .agg #[.bool false, .bool false, .bool false, .bool false, .bool false, .bool false, .bool false, .int .i64 0, .int .i64 0, .int .i64 0], .agg #[.int .i64 code, .int .i64 r, .int .i64 1, .int .i64 shift, .int .i64 base, .string ⟨#[]⟩], .slice A1 n1 d1, .pointer (some ⟨w.heap.size, 5, none⟩), .string ⟨#[]⟩, .bool true, .bool true, undef, undef, undef, undef, undef, .bool true, .pointer (some ⟨w.heap.size, 1, none⟩), .int .i64 r, .int .i64 (r + 4), .pointer (some ⟨w.heap.size, 1, none⟩), .agg #[.bool false, .bool false, .bool false, .bool false, .bool false, .bool false, .bool false, .int .i64 0, .int .i64 0, .int .i64 0], .agg #[.int .i64 code, .int .i64 (r + 4), .int .i64 1, .int .i64 shift, .int .i64 base, .string ⟨#[]⟩], .slice (some ⟨b, o, none⟩) 1 d2, .tuple #[.int .i64 F, .bool true], .agg #[.int .i64 code, .int .i64 (r + 4), .int .i64 1, .int .i64 shift, .int .i64 base, .string ⟨#[]⟩], .int .i64 C, .tuple #[.int .i64 F, .bool true], .int .i64 F, .bool true, .pointer (some ⟨w.heap.size, 5, none⟩), .pointer (some ⟨w.heap.size, 1, none⟩), .int .i64 (r + 4), .int .i64 r, .pointer (some ⟨w.heap.size, 1, none⟩), .bool true, .bool true, .bool true, .bool true, .bool true, .bool true, .bool true, .slice (some ⟨b, o, none⟩) 1 d2, .int .i64 1, .bool true, .bool true, .bool true, .slice (some ⟨b, o, none⟩) 1 d2, .pointer (some ⟨b, o + 0, none⟩), .int .u8 F, .int .i64 F, .int .i64 F, .bool true, .bool true, .bool true, undef, undef, undef, undef, undef, undef, undef, undef, undef, undef, undef, .bool true, .bool true], []⟩) [.bool true, .bool true, .bool true, .bool true, .bool true, .bool true, .bool true, .slice (some ⟨b, o, none⟩) 1 d2, .int .i64 1, .bool true, .bool true, .bool true, .slice (some ⟨b, o, none⟩) 1 d2, .pointer (some ⟨b, o + 0, none⟩), .int .u8 F, .int .i64 F, .int .i64 F, .bool true, .bool true, .bool true, undef, undef, undef, undef, undef, undef, undef, undef, undef, undef, undef, .bool true, .bool true, .bool true] (by kernel_rfl) (by kernel_rfl) (by kernel_rfl) (fun g => by kernel_rfl) (by kernel_rfl) (Below.refl _ _).drew (by decide) (by kernel_rfl)
    (goes_cons (goesK_pure (fun _ => .bool true) rfl (by decide) (by decide) (by kernel_rfl) (fun g => by kernel_rfl) rfl (fun g => by kernel_rfl) (fun g w => by kernel_rfl)) 
    (goes_cons (goesK_pure (fun _ => .bool true) rfl (by decide) (by decide) (by kernel_rfl) (fun g => by kernel_rfl) rfl (fun g => by kernel_rfl) (fun g w => by kernel_rfl)) 
    (goes_cons (goesK_pure (fun _ => .bool true) rfl (by decide) (by decide) (by kernel_rfl) (fun g => by kernel_rfl) rfl (fun g => by kernel_rfl) (fun g w => by kernel_rfl)) 
    (goes_cons (goesK_pure (fun _ => .bool true) rfl (by decide) (by decide) (by kernel_rfl) (fun g => by kernel_rfl) rfl (fun g => by kernel_rfl) (fun g w => by kernel_rfl)) 
    (goes_cons (goesK_pure (fun _ => .bool true) rfl (by decide) (by decide) (by kernel_rfl) (fun g => by kernel_rfl) rfl (fun g => by kernel_rfl) (fun g w => by kernel_rfl)) 
    (goes_cons (goesK_pure (fun _ => .bool true) rfl (by decide) (by decide) (by kernel_rfl) (fun g => by kernel_rfl) rfl (fun g => by kernel_rfl) (fun g w => by kernel_rfl)) 
    (goes_cons (goesK_pure (fun _ => .bool true) rfl (by decide) (by decide) (by kernel_rfl) (fun g => by kernel_rfl) rfl (fun g => by kernel_rfl) (fun g w => by kernel_rfl)) 
    (goes_cons (goesK_pure (fun _ => .slice (some ⟨b, o, none⟩) 1 d2) rfl (by decide) (by decide) (by kernel_rfl) (fun g => by kernel_rfl) rfl (fun g => by kernel_rfl) (fun g w => by kernel_rfl)) 
    (goes_cons (goesK_pure (fun _ => .int .i64 1) rfl (by decide) (by decide) (by kernel_rfl) (fun g => by kernel_rfl) rfl (fun g => by kernel_rfl) (fun g w => by kernel_rfl)) 
    (goes_cons (goesK_bin (v := .bool true) (xv := .int .i64 1) (yv := .int .i64 1) rfl (by decide) (by decide) (by kernel_rfl) (fun g => by kernel_rfl) rfl (fun g => by kernel_rfl) rfl (fun g => by kernel_rfl) (fun g => by kernel_rfl) (fun w => by go_simp)) 
    (goes_cons (goesK_pure (fun _ => .bool true) rfl (by decide) (by decide) (by kernel_rfl) (fun g => by kernel_rfl) rfl (fun g => by kernel_rfl) (fun g w => by kernel_rfl)) 
    (goes_cons (goesK_pure (fun _ => .bool true) rfl (by decide) (by decide) (by kernel_rfl) (fun g => by kernel_rfl) rfl (fun g => by kernel_rfl) (fun g w => by kernel_rfl)) 
    (goes_cons (goesK_pure (fun _ => .slice (some ⟨b, o, none⟩) 1 d2) rfl (by decide) (by decide) (by kernel_rfl) (fun g => by kernel_rfl) rfl (fun g => by kernel_rfl) (fun g w => by kernel_rfl)) 
    (goes_cons (goesK_index (b := b) (q := o) (m := 1) (c := d2) (k := 0) rfl (by decide) (by decide) (by kernel_rfl) (fun g => by kernel_rfl) rfl (fun g => by kernel_rfl) rfl (fun g => by kernel_rfl) (fun g => by kernel_rfl) (by decide) Tryd.underlying28 (fun w => by kernel_rfl)) 
    (goes_cons (goesK_cell hst (ahead_none (by decide)) rfl (by decide) (by decide) (by kernel_rfl) (fun g => by kernel_rfl) rfl (fun g => by kernel_rfl) rfl (fun g => by kernel_rfl) lz (fun w => by kernel_rfl)) 
    (goes_cons (goesK_pure (fun _ => .int .i64 F) rfl (by decide) (by decide) (by kernel_rfl) (fun g => by kernel_rfl) rfl (fun g => by kernel_rfl) (fun g w => by unfold execOp; go_simp; exact IntWalk.i64_in F ⟨by omega, by omega⟩)) 
    (goes_cons (goesK_pure (fun _ => .int .i64 F) rfl (by decide) (by decide) (by kernel_rfl) (fun g => by kernel_rfl) rfl (fun g => by kernel_rfl) (fun g w => by kernel_rfl)) 
    (goes_cons (goesK_bin (v := .bool true) (xv := .int .i64 F) (yv := .int .i64 F) rfl (by decide) (by decide) (by kernel_rfl) (fun g => by kernel_rfl) rfl (fun g => by kernel_rfl) rfl (fun g => by kernel_rfl) (fun g => by kernel_rfl) (fun w => by go_simp)) 
    (goes_cons (goesK_pure (fun _ => .bool true) rfl (by decide) (by decide) (by kernel_rfl) (fun g => by kernel_rfl) rfl (fun g => by kernel_rfl) (fun g w => by kernel_rfl)) 
    (goes_cons (goesK_pure (fun _ => .bool true) rfl (by decide) (by decide) (by kernel_rfl) (fun g => by kernel_rfl) rfl (fun g => by kernel_rfl) (fun g w => by kernel_rfl)) 
    (goes_cons (goesK_off rfl (by decide) (by decide) (by kernel_rfl) (fun g => by kernel_rfl) rfl (fun g => by kernel_rfl)) 
    (goes_cons (goesK_off rfl (by decide) (by decide) (by kernel_rfl) (fun g => by kernel_rfl) rfl (fun g => by kernel_rfl)) 
    (goes_cons (goesK_off rfl (by decide) (by decide) (by kernel_rfl) (fun g => by kernel_rfl) rfl (fun g => by kernel_rfl)) 
    (goes_cons (goesK_off rfl (by decide) (by decide) (by kernel_rfl) (fun g => by kernel_rfl) rfl (fun g => by kernel_rfl)) 
    (goes_cons (goesK_off rfl (by decide) (by decide) (by kernel_rfl) (fun g => by kernel_rfl) rfl (fun g => by kernel_rfl)) 
    (goes_cons (goesK_off rfl (by decide) (by decide) (by kernel_rfl) (fun g => by kernel_rfl) rfl (fun g => by kernel_rfl)) 
    (goes_cons (goesK_off rfl (by decide) (by decide) (by kernel_rfl) (fun g => by kernel_rfl) rfl (fun g => by kernel_rfl)) 
    (goes_cons (goesK_off rfl (by decide) (by decide) (by kernel_rfl) (fun g => by kernel_rfl) rfl (fun g => by kernel_rfl)) 
    (goes_cons (goesK_off rfl (by decide) (by decide) (by kernel_rfl) (fun g => by kernel_rfl) rfl (fun g => by kernel_rfl)) 
    (goes_cons (goesK_off rfl (by decide) (by decide) (by kernel_rfl) (fun g => by kernel_rfl) rfl (fun g => by kernel_rfl)) 
    (goes_cons (goesK_off rfl (by decide) (by decide) (by kernel_rfl) (fun g => by kernel_rfl) rfl (fun g => by kernel_rfl)) 
    (goes_cons (goesK_pure (fun _ => .bool true) rfl (by decide) (by decide) (by kernel_rfl) (fun g => by kernel_rfl) rfl (fun g => by kernel_rfl) (fun g w => by kernel_rfl)) 
    (goes_cons (goesK_pure (fun _ => .bool true) rfl (by decide) (by decide) (by kernel_rfl) (fun g => by kernel_rfl) rfl (fun g => by kernel_rfl) (fun g w => by kernel_rfl)) 
    (goes_cons (goesK_pure (fun _ => .bool true) rfl (by decide) (by decide) (by kernel_rfl) (fun g => by kernel_rfl) rfl (fun g => by kernel_rfl) (fun g w => by kernel_rfl)) goes_nil)))))))))))))))))))))))))))))))))) ?_
  intro g W hW _
  go_wp2_with fail
  go_ret
  exact ⟨rfl, hB10.trans (hW.mono hB10.size)⟩
set_option maxRecDepth 100000 in
set_option maxHeartbeats 16000000 in
theorem legacyText_en (H : LegC Inv) (k : Ky) (hk : okK k) (hs : k.text.size ≤ 4294967296) (hm : mayK k = true) (hK : (lookE k.code).kind = 1) (ht : k.text.data.toList = []) (F : Int) (hF : foldN (shownC k.code k.shift (hasN (k.mods % 2) 1)) = (F, false)) (w : World) (hv : Inv w) : Calls Tryd.prog 6 #[kyV k] w fun e w' => e = .returned (.bool true) ∧ Below w.heap.size w w' := by
  have HM : Hid (∀ W, Calls Tryd.prog 8 #[kyV k] W fun e w' => e = .returned (.bool true) ∧ Below W.heap.size W w') := Lib.hid fun W => by rw [← hm]; exact rmay10_any k hs W
  obtain ⟨⟨K, F0, N, C0, B⟩, hE⟩ : ∃ E, lookE k.code = E := ⟨_, rfl⟩
  have HL : Hid (∀ W, Inv W → Calls Tryd.prog 10 #[.int .i64 k.code] W fun e w' => e = .returned (.agg #[.int .i64 K, .int .u8 F0, .int .i64 N, .int .i64 C0, .bool B]) ∧ Below W.heap.size W w') := Lib.hid fun W hW => H.look_at W hW hk.code hE
  obtain ⟨⟨_, y0, y1, _, _⟩, _⟩ := (may_parts k).1 hm
  obtain ⟨b2, b4, c2, c4, cs⟩ := text_bits k.mods
  obtain ⟨r, hr⟩ : ∃ r, k.mods % 2 = r := ⟨_, rfl⟩
  have q2 : Int.tmod k.mods 2 = r := by rw [← hr]; exact Int.tmod_eq_emod_of_nonneg y0
  have r0 : 0 ≤ r ∧ r ≤ 1 := by omega
  rw [hr] at b2 b4 c2 c4 cs hF
  obtain ⟨C, hC⟩ : ∃ C, shownC k.code k.shift (hasN r 1) = C := ⟨_, rfl⟩
  rw [hC] at hF
  have i1 : in10 1 := in_lit11 (by decide)
  have ir : in10 r := ⟨by omega, by omega⟩
  have ir4 : in10 (r + 4) := ⟨by omega, by omega⟩
  have m1_ : mayK { k with typ := 1, mods := r } = true := may_mods (may_typ hm (t := 1) (by decide) (by decide)) (n := r) (by omega) (by omega)
  have m2_ : mayK { k with typ := 1, mods := r + 4 } = true := may_mods (may_typ hm (t := 1) (by decide) (by decide)) (n := r + 4) (by omega) (by omega)
  have m3_ : mayK { k with typ := 1, mods := r, text := ByteArray.empty } = true := may_mute m1_
  have L1 : legL mo0 { k with typ := 1, mods := r } = shownG k.code k.shift (hasN r 1) false k.text.data.toList := by
    have := leg_text mo0 (k := { k with typ := 1, mods := r }) m1_ (by simp) hK b2
    rw [b4] at this
    exact this
  have L2 : legL mo0 { k with typ := 1, mods := r + 4 } = (if false = true then [byt F] else putL C) := by
    have := leg_text mo0 (k := { k with typ := 1, mods := r + 4 }) m2_ (by simp) hK c2
    rw [c4, cs] at this
    exact this.trans (shownG_ctrl hC hF)
  have L3 : legL mo0 { k with typ := 1, mods := r, text := ByteArray.empty } = putL C := by
    have := leg_text mo0 (k := { k with typ := 1, mods := r, text := ByteArray.empty }) m3_ (by simp) hK b2
    rw [b4] at this
    exact this.trans (shownG_bare hC)
  obtain ⟨Z, hZ⟩ : ∃ Z, legL mo0 { k with typ := 1, mods := r } = Z := ⟨_, rfl⟩
  obtain ⟨n1, hn1⟩ : ∃ n, Z.length = n := ⟨_, rfl⟩
  have H1 : Hid (∀ W, Inv W → Calls Tryd.prog 9 #[moV mo0, kyV { k with typ := 1, mods := r }] W (KeyE Z n1 W)) := Lib.hid fun W hW => H.key_at mo0 { k with typ := 1, mods := r } hZ n1 hn1 ⟨hk.code, ir, i1, hk.shift, hk.base⟩ hs W hW
  clear hZ
  have HN1 := Lib.hid hn1
  have hx : k.text = ⟨#[]⟩ := by apply ByteArray.ext; simpa using ht
  obtain ⟨L, hL⟩ : ∃ L, putL C = L := ⟨_, rfl⟩
  obtain ⟨n2, hn2⟩ : ∃ n, L.length = n := ⟨_, rfl⟩
  have H2 : Hid (∀ W, Inv W → Calls Tryd.prog 9 #[moV mo0, kyV { k with typ := 1, mods := r + 4 }] W (KeyE L n2 W)) := Lib.hid fun W hW => H.key_at mo0 { k with typ := 1, mods := r + 4 } (L2.trans ((if_neg (by decide)).trans hL)) n2 hn2 ⟨hk.code, ir4, i1, hk.shift, hk.base⟩ hs W hW
  have H3 : Hid (∀ W, Inv W → Calls Tryd.prog 9 #[moV mo0, kyV { k with typ := 1, mods := r, text := ByteArray.empty }] W (Out L W)) := Lib.hid fun W hW => by
    have := H.key mo0 { k with typ := 1, mods := r, text := ByteArray.empty } W hW ⟨hk.code, ir, i1, hk.shift, hk.base⟩ (by show (0 : Nat) ≤ _; decide)
    rwa [L3, hL] at this
  have HN2 := Lib.hid hn2
  clear hL hn2
  have HS : Hid (∀ W, Calls Tryd.prog 14 #[kyV { k with typ := 1, mods := r + 4 }] W fun e w' => e = .returned (.int .i64 C) ∧ Below W.heap.size W w') := Lib.hid fun W => by
    have := rshown_any { k with typ := 1, mods := r + 4 } ⟨hk.code, ir4, i1, hk.shift, hk.base⟩ W
    rw [shownK_eq] at this
    have e : shownC k.code k.shift (hasN (r + 4) 1) = C := by rw [cs]; exact hC
    rwa [show shownC (({ k with typ := 1, mods := r + 4 } : Ky)).code (({ k with typ := 1, mods := r + 4 } : Ky)).shift (hasN (({ k with typ := 1, mods := r + 4 } : Ky)).mods 1) = C from e] at this
  have HF : Hid (∀ W, Calls Tryd.prog 13 #[.int .i64 C] W fun e w' => e = .returned (.tuple #[.int .i64 F, .bool false]) ∧ Below W.heap.size W w') := Lib.hid fun W => by
    have := rfold_any C W
    rwa [hF] at this
  rw [hE] at hK
  clear hm hk hs hE hn1 hF hC L1 L2 L3 m1_ m2_ m3_ b2 b4 c2 c4 cs ir ir4 i1 ht
  simp only [moV, kyV, mo0] at HM H1 H2 HS H3 ⊢
  obtain ⟨code, mods, typ, shift, base, text⟩ := k
  have hB : Below w.heap.size w (w.alloc (.cells #[.int .i64 code, .int .i64 mods, .int .i64 typ, .int .i64 shift, .int .i64 base, .string text] 25)) := (Below.refl _ w).alloc (Nat.le_refl _) _
  have b0 := Blk.new w 25 #[.int .i64 code, .int .i64 mods, .int .i64 typ, .int .i64 shift, .int .i64 base, .string text]
  have hv0 := H.invB hv hB
  simp only at hx
  subst hx
  simp only at HM HL H1 H2 HS hK q2 hr y0 y1 H3
  subst hK
  go_enter Tryd.func6, Tryd.ntmps6
  go_wp2_with fail
  refine (legAwake H _ hv0).mono ?_
  rintro e w1 ⟨rfl, hb1⟩
  have b1 := b0.below hb1 b0.lt
  have hB1 := hB.trans (hb1.mono hB.size)
  have hv1 := H.invB hv hB1
  clear hv0 b0 hB hb1
  obtain ⟨a0_, a1_, a2_, a3_, a4_, a5_⟩ := Blk.cells6 b1
  go_wp2_with fail
  refine (HM.out _).mono ?_
  rintro e w2 ⟨rfl, hb2⟩
  have kB0 := b1.below hb2 b1.lt
  have hB0 := hB1.trans (hb2.mono hB1.size)
  clear hv1 b1 hB1 hb2 a0_ a1_ a2_ a3_ a4_ a5_
  obtain ⟨a0, a1, a2, a3, a4, a5⟩ := Blk.cells6 kB0
  have hv2 := H.invB hv hB0
  have gk := fieldK_kind 1 F0 N C0 B
  go_wp2_with fail
  refine (HL.out _ hv2).mono ?_
  rintro e w3 ⟨rfl, hb3⟩
  have kB1 := kB0.below hb3 kB0.lt
  have hB1 := hB0.trans (hb3.mono hB0.size)
  clear a0 a1 a2 a3 a4 a5 kB0 hB0 hb3 hv2
  have z2_2 := kB1.frozen 2
  obtain ⟨a0, a1, a2, a3, a4, a5⟩ := Blk.cells6 kB1
  have kB2 : Blk (w3.setCell ⟨w.heap.size, 2, none⟩ (Value.int .i64 1)) (w.heap.size) 25 #[.int .i64 code, .int .i64 mods, .int .i64 1, .int .i64 shift, .int .i64 base, .string ⟨#[]⟩] := kB1.set 2 (Value.int .i64 1)
  have hB2 := hB1.setCell (p := ⟨w.heap.size, 2, none⟩) (by show _ ≤ w.heap.size; omega) (Value.int .i64 1)
  have z3_1 := kB2.frozen 1
  obtain ⟨a0, a1, a2, a3, a4, a5⟩ := Blk.cells6 kB2
  have kB3 : Blk ((w3.setCell ⟨w.heap.size, 2, none⟩ (Value.int .i64 1)).setCell ⟨w.heap.size, 1, none⟩ (Value.int .i64 r)) (w.heap.size) 25 #[.int .i64 code, .int .i64 r, .int .i64 1, .int .i64 shift, .int .i64 base, .string ⟨#[]⟩] := kB2.set 1 (Value.int .i64 r)
  have hB3 := hB2.setCell (p := ⟨w.heap.size, 1, none⟩) (by show _ ≤ w.heap.size; omega) (Value.int .i64 r)
  go_upto_region 6 with (fail)
  generalize hW3 : ((w3.setCell ⟨w.heap.size, 2, none⟩ (Value.int .i64 1)).setCell ⟨w.heap.size, 1, none⟩ (Value.int .i64 r)) = W3 at *
  clear hW3
  have hv3 := H.invB hv hB3
  obtain ⟨a0, a1, a2, a3, a4, a5⟩ := Blk.cells6 kB3
  go_wp2_with fail
  refine (H1.out _ hv3).mono ?_
  rintro e w4 ⟨A1, d1, rfl, hr1, b4⟩
  have kB4 := kB3.below b4 kB3.lt
  have hB4 := hB3.trans (b4.mono hB3.size)
  have hr14 := hr1.off_key kB4 rfl
  clear hr1
  clear a0 a1 a2 a3 a4 a5 kB3 hv3
  obtain ⟨a0, a1, a2, a3, a4, a5⟩ := Blk.cells6 kB4
  go_upto_region 8 with (fail)
  clear a0 a1 a2 a3 a4 a5
  have z5_1 := kB4.frozen 1
  obtain ⟨a0, a1, a2, a3, a4, a5⟩ := Blk.cells6 kB4
  have kB5 : Blk (w4.setCell ⟨w.heap.size, 1, none⟩ (Value.int .i64 (r + 4))) (w.heap.size) 25 #[.int .i64 code, .int .i64 (r + 4), .int .i64 1, .int .i64 shift, .int .i64 base, .string ⟨#[]⟩] := kB4.set 1 (Value.int .i64 (r + 4))
  have hr15 := hr14.fr (Fr.setCell _ (w.heap.size) 1 (Value.int .i64 (r + 4)) _ rfl) (Wid.refl _ _)
  have hB5 := hB4.setCell (p := ⟨w.heap.size, 1, none⟩) (by show _ ≤ w.heap.size; omega) (Value.int .i64 (r + 4))
  go_upto_region 9 with (fail)
  generalize hW5 : (w4.setCell ⟨w.heap.size, 1, none⟩ (Value.int .i64 (r + 4))) = W5 at *
  clear hW5
  have hv5 := H.invB hv hB5
  obtain ⟨a0, a1, a2, a3, a4, a5⟩ := Blk.cells6 kB5
  go_wp2_with fail
  refine (H2.out _ hv5).mono ?_
  rintro e w5 ⟨A2, d2, rfl, hr2, b6⟩
  have kB6 := kB5.below b6 kB5.lt
  have hB6 := hB5.trans (b6.mono hB5.size)
  have hr16 := hr15.below' b6
  have hr26 := hr2.off_key kB6 rfl
  clear hr2
  clear a0 a1 a2 a3 a4 a5 kB5 hv5
  have hv6 := H.invB hv hB6
  obtain ⟨a0, a1, a2, a3, a4, a5⟩ := Blk.cells6 kB6
  go_wp2_with fail
  refine (HS.out _).mono ?_
  rintro e w6 ⟨rfl, b7⟩
  have kB7 := kB6.below b7 kB6.lt
  have hB7 := hB6.trans (b7.mono hB6.size)
  have hr17 := hr16.below' b7
  have hr27 := hr26.below' b7
  clear a0 a1 a2 a3 a4 a5 kB6 hv6
  have hv7 := H.invB hv hB7
  obtain ⟨a0, a1, a2, a3, a4, a5⟩ := Blk.cells6 kB7
  go_wp2_with fail
  refine (HF.out _).mono ?_
  rintro e w7 ⟨rfl, b8⟩
  have kB8 := kB7.below b8 kB7.lt
  have hB8 := hB7.trans (b8.mono hB7.size)
  have hr18 := hr17.below' b8
  have hr28 := hr27.below' b8
  clear a0 a1 a2 a3 a4 a5 kB7 hv7
  have z9_5 := kB8.frozen 5
  obtain ⟨a0, a1, a2, a3, a4, a5⟩ := Blk.cells6 kB8
  have kB9 : Blk (w7.setCell ⟨w.heap.size, 5, none⟩ (Value.string ⟨#[]⟩)) (w.heap.size) 25 #[.int .i64 code, .int .i64 (r + 4), .int .i64 1, .int .i64 shift, .int .i64 base, .string ⟨#[]⟩] := kB8.set 5 (Value.string ⟨#[]⟩)
  have hr19 := hr18.fr (Fr.setCell _ (w.heap.size) 5 (Value.string ⟨#[]⟩) _ rfl) (Wid.refl _ _)
  have hr29 := hr28.fr (Fr.setCell _ (w.heap.size) 5 (Value.string ⟨#[]⟩) _ rfl) (Wid.refl _ _)
  have hB9 := hB8.setCell (p := ⟨w.heap.size, 5, none⟩) (by show _ ≤ w.heap.size; omega) (Value.string ⟨#[]⟩)
  have z10_1 := kB9.frozen 1
  obtain ⟨a0, a1, a2, a3, a4, a5⟩ := Blk.cells6 kB9
  have kB10 : Blk ((w7.setCell ⟨w.heap.size, 5, none⟩ (Value.string ⟨#[]⟩)).setCell ⟨w.heap.size, 1, none⟩ (Value.int .i64 r)) (w.heap.size) 25 #[.int .i64 code, .int .i64 r, .int .i64 1, .int .i64 shift, .int .i64 base, .string ⟨#[]⟩] := kB9.set 1 (Value.int .i64 r)
  have hr110 := hr19.fr (Fr.setCell _ (w.heap.size) 1 (Value.int .i64 r) _ rfl) (Wid.refl _ _)
  have hr210 := hr29.fr (Fr.setCell _ (w.heap.size) 1 (Value.int .i64 r) _ rfl) (Wid.refl _ _)
  have hB10 := hB9.setCell (p := ⟨w.heap.size, 1, none⟩) (by show _ ≤ w.heap.size; omega) (Value.int .i64 r)
  go_upto_region 13 with (fail)
  generalize hW10 : ((w7.setCell ⟨w.heap.size, 5, none⟩ (Value.string ⟨#[]⟩)).setCell ⟨w.heap.size, 1, none⟩ (Value.int .i64 r)) = W10 at *
  clear hW10
  have hr2E := (hr210).rd
  have hvE := H.invB hv hB10
  have HV : Hid (∀ W, Below W10.heap.size W10 W → Inv W) := Lib.hid fun W hW => H.invB hvE hW
  have lk : ∀ W, Below W10.heap.size W10 W → Blk W w.heap.size 25 #[.int .i64 code, .int .i64 r, .int .i64 1, .int .i64 shift, .int .i64 base, .string ⟨#[]⟩] := fun W hW => kB10.below hW kB10.lt
  have hst : ∀ f ∈ ([⟨27, 84, FB L⟩] : List Fact), f.ok := List.forall_mem_cons.2 ⟨fb_ok _ _ _, fun _ h => by cases h⟩
  refine wp_region_told (w1 := W10) (K := [⟨27, 84, FB L⟩]) (ix := 1000) (R0 := fun _ _ _ => True) (R1 := fun _ _ _ => True) [84] (⟨#[.agg #[.int .i64 code, .int .i64 mods, .int .i64 typ, .int .i64 shift, .int .i64 base, .string ⟨#[]⟩], .pointer (some ⟨w.heap.size, 0, none⟩), .bool true, .bool true, .slice A1 n1 d1, .bool true, .slice A2 n2 d2, .int .i64 F, .bool false, .bool true, .agg #[.int .i64 code, .int .i64 mods, .int .i64 typ, .int .i64 shift, .int .i64 base, .string ⟨#[]⟩], .bool true, .bool false, .bool false, .pointer (some ⟨w.heap.size, 0, none⟩), .int .i64 code, .agg #[.int .i64 1, .int .u8 F0, .int .i64 N, .int .i64 C0, .bool B], .int .i64 1, .bool false, .bool false, undef, .pointer (some ⟨w.heap.size, 2, none⟩), .pointer (some ⟨w.heap.size, 1, none⟩), .int .i64 mods, .int .i64 r, .pointer (some ⟨w.heap.size, 1, none⟩), .agg #[.bool false, .bool false, .bool false, .bool false, .bool false, .bool false, .bool false, .int .i64 0, .int .i64 0, .int .i64 0], .agg #[.int .i64 code, .int .i64 r, .int .i64 1, .int .i64 shift, .int .i64 base, .string ⟨#[]⟩], .slice A1 n1 d1, .pointer (some ⟨w.heap.size, 5, none⟩), .string ⟨#[]⟩, .bool true, .bool true, undef, undef, undef, undef, undef, .bool true, .pointer (some ⟨w.heap.size, 1, none⟩), .int .i64 r, .int .i64 (r + 4), .pointer (some ⟨w.heap.size, 1, none⟩), .agg #[.bool false, .bool false, .bool false, .bool false, .bool false, .bool false, .bool false, .int .i64 0, .int .i64 0, .int .i64 0], .agg #[.int .i64 code, .int .i64 (r + 4), .int .i64 1, .int .i64 shift, .int .i64 base, .string ⟨#[]⟩], .slice A2 n2 d2, .tuple #[.int .i64 F, .bool false], .agg #[.int .i64 code, .int .i64 (r + 4), .int .i64 1, .int .i64 shift, .int .i64 base, .string ⟨#[]⟩], .int .i64 C, .tuple #[.int .i64 F, .bool false], .int .i64 F, .bool false, .pointer (some ⟨w.heap.size, 5, none⟩), .pointer (some ⟨w.heap.size, 1, none⟩), .int .i64 (r + 4), .int .i64 r, .pointer (some ⟨w.heap.size, 1, none⟩), .bool true, .bool true, .bool true, .bool true, .bool true, .bool false, .bool false, undef, undef, undef, .bool false, .bool false, undef, undef, undef, undef, undef, undef, .bool false, .bool false, .bool false, .bool true, .bool true, .slice A2 n2 d2, .string ⟨L.toArray⟩, .agg #[.bool false, .bool false, .bool false, .bool false, .bool false, .bool false, .bool false, .int .i64 0, .int .i64 0, .int .i64 0], .agg #[.int .i64 code, .int .i64 r, .int .i64 1, .int .i64 shift, .int .i64 base, .string ⟨#[]⟩], undef, .string ⟨L.toArray⟩, .bool true, .bool true, .bool true, .bool true], []⟩) (fun g => ⟨#[.agg #[.int .i64 code, .int .i64 mods, .int .i64 typ, .int .i64 shift, .int .i64 base, .string ⟨#[]⟩], .pointer (some ⟨w.heap.size, 0, none⟩), .bool true, .bool true, .slice A1 n1 d1, .bool true, .slice A2 n2 d2, .int .i64 F, .bool false, .bool true, .agg #[.int .i64 code, .int .i64 mods, .int .i64 typ, .int .i64 shift, .int .i64 base, .string ⟨#[]⟩], .bool true, .bool false, .bool false, .pointer (some ⟨w.heap.size, 0, none⟩), .int .i64 code, .agg #[.int .i64 1, .int .u8 F0, .int .i64 N, .int .i64 C0, .bool B], .int .i64 1, .bool false, .bool false, undef, .pointer (some ⟨w.heap.size, 2, none⟩), .pointer (some ⟨w.heap.size, 1, none⟩), .int .i64 mods, .int .i64 r, .pointer (some ⟨w.heap.size, 1, none⟩), .agg #[.bool false, .bool false, .bool false, .bool false, .bool false, .bool false, .bool false, .int .i64 0, .int .i64 0, .int .i64 0], .agg #[.int .i64 code, .int .i64 r, .int .i64 1, .int .i64 shift, .int .i64 base, .string ⟨#[]⟩], .slice A1 n1 d1, .pointer (some ⟨w.heap.size, 5, none⟩), .string ⟨#[]⟩, .bool true, .bool true, undef, undef, undef, undef, undef, .bool true, .pointer (some ⟨w.heap.size, 1, none⟩), .int .i64 r, .int .i64 (r + 4), .pointer (some ⟨w.heap.size, 1, none⟩), .agg #[.bool false, .bool false, .bool false, .bool false, .bool false, .bool false, .bool false, .int .i64 0, .int .i64 0, .int .i64 0], .agg #[.int .i64 code, .int .i64 (r + 4), .int .i64 1, .int .i64 shift, .int .i64 base, .string ⟨#[]⟩], .slice A2 n2 d2, .tuple #[.int .i64 F, .bool false], .agg #[.int .i64 code, .int .i64 (r + 4), .int .i64 1, .int .i64 shift, .int .i64 base, .string ⟨#[]⟩], .int .i64 C, .tuple #[.int .i64 F, .bool false], .int .i64 F, .bool false, .pointer (some ⟨w.heap.size, 5, none⟩), .pointer (some ⟨w.heap.size, 1, none⟩), .int .i64 (r + 4), .int .i64 r, .pointer (some ⟨w.heap.size, 1, none⟩), .bool true, .bool true, .bool true, .bool true, .bool true, .bool false, .bool false, undef, undef, undef, .bool false, .bool false, undef, undef, undef, undef, undef, undef, .bool false, .bool false, .bool false, .bool true, .bool true, .slice A2 n2 d2, .string ⟨L.toArray⟩, .agg #[.bool false, .bool false, .bool false, .bool false, .bool false, .bool false, .bool false, .int .i64 0, .int .i64 0, .int .i64 0], .agg #[.int .i64 code, .int .i64 r, .int .i64 1, .int .i64 shift, .int .i64 base, .string ⟨#[]⟩], (g 84), .string ⟨L.toArray⟩, .bool true, .bool true, .bool true, .bool true], []⟩) [.bool true, .bool true, .bool true, .bool true, .bool true, .bool false, .bool false, undef, undef, undef, .bool false, .bool false, undef, undef, undef, undef, undef, undef, .bool false, .bool false, .bool false, .bool true, .bool true, .slice A2 n2 d2, .string ⟨L.toArray⟩, .agg #[.bool false, .bool false, .bool false, .bool false, .bool false, .bool false, .bool false, .int .i64 0, .int .i64 0, .int .i64 0], .agg #[.int .i64 code, .int .i64 r, .int .i64 1, .int .i64 shift, .int .i64 base, .string ⟨#[]⟩], undef, .string ⟨L.toArray⟩, .bool true, .bool true, .bool true, .bool true, .bool true] (by kernel_rfl) (by kernel_rfl) (by kernel_rfl) (fun g => by kernel_rfl) (by kernel_rfl) (Below.refl _ _).drew (by decide) (by kernel_rfl)
    (goes_cons (goesK_pure (fun _ => .bool true) rfl (by decide) (by decide) (by kernel_rfl) (fun g => by kernel_rfl) rfl (fun g => by kernel_rfl) (fun g w => by kernel_rfl)) 
    (goes_cons (goesK_pure (fun _ => .bool true) rfl (by decide) (by decide) (by kernel_rfl) (fun g => by kernel_rfl) rfl (fun g => by kernel_rfl) (fun g w => by kernel_rfl)) 
    (goes_cons (goesK_pure (fun _ => .bool true) rfl (by decide) (by decide) (by kernel_rfl) (fun g => by kernel_rfl) rfl (fun g => by kernel_rfl) (fun g w => by kernel_rfl)) 
    (goes_cons (goesK_pure (fun _ => .bool true) rfl (by decide) (by decide) (by kernel_rfl) (fun g => by kernel_rfl) rfl (fun g => by kernel_rfl) (fun g w => by kernel_rfl)) 
    (goes_cons (goesK_pure (fun _ => .bool true) rfl (by decide) (by decide) (by kernel_rfl) (fun g => by kernel_rfl) rfl (fun g => by kernel_rfl) (fun g w => by kernel_rfl)) 
    (goes_cons (goesK_pure (fun _ => .bool false) rfl (by decide) (by decide) (by kernel_rfl) (fun g => by kernel_rfl) rfl (fun g => by kernel_rfl) (fun g w => by kernel_rfl)) 
    (goes_cons (goesK_pure (fun _ => .bool false) rfl (by decide) (by decide) (by kernel_rfl) (fun g => by kernel_rfl) rfl (fun g => by kernel_rfl) (fun g w => by kernel_rfl)) 
    (goes_cons (goesK_off rfl (by decide) (by decide) (by kernel_rfl) (fun g => by kernel_rfl) rfl (fun g => by kernel_rfl)) 
    (goes_cons (goesK_off rfl (by decide) (by decide) (by kernel_rfl) (fun g => by kernel_rfl) rfl (fun g => by kernel_rfl)) 
    (goes_cons (goesK_off rfl (by decide) (by decide) (by kernel_rfl) (fun g => by kernel_rfl) rfl (fun g => by kernel_rfl)) 
    (goes_cons (goesK_pure (fun _ => .bool false) rfl (by decide) (by decide) (by kernel_rfl) (fun g => by kernel_rfl) rfl (fun g => by kernel_rfl) (fun g w => by kernel_rfl)) 
    (goes_cons (goesK_pure (fun _ => .bool false) rfl (by decide) (by decide) (by kernel_rfl) (fun g => by kernel_rfl) rfl (fun g => by kernel_rfl) (fun g w => by kernel_rfl)) 
    (goes_cons (goesK_off rfl (by decide) (by decide) (by kernel_rfl) (fun g => by kernel_rfl) rfl (fun g => by kernel_rfl)) 
    (goes_cons (goesK_off rfl (by decide) (by decide) (by kernel_rfl) (fun g => by kernel_rfl) rfl (fun g => by kernel_rfl)) 
    (goes_cons (goesK_off rfl (by decide) (by decide) (by kernel_rfl) (fun g => by kernel_rfl) rfl (fun g => by kernel_rfl)) 
    (goes_cons (goesK_off rfl (by decide) (by decide) (by kernel_rfl) (fun g => by kernel_rfl) rfl (fun g => by kernel_rfl)) 
    (goes_cons (goesK_off rfl (by decide) (by decide) (by kernel_rfl) (fun g => by kernel_rfl) rfl (fun g => by kernel_rfl)) 
    (goes_cons (goesK_off rfl (by decide) (by decide) (by kernel_rfl) (fun g => by kernel_rfl) rfl (fun g => by kernel_rfl)) 
    (goes_cons (goesK_pure (fun _ => .bool false) rfl (by decide) (by decide) (by kernel_rfl) (fun g => by kernel_rfl) rfl (fun g => by kernel_rfl) (fun g w => by kernel_rfl)) 
    (goes_cons (goesK_pure (fun _ => .bool false) rfl (by decide) (by decide) (by kernel_rfl) (fun g => by kernel_rfl) rfl (fun g => by kernel_rfl) (fun g w => by kernel_rfl)) 
    (goes_cons (goesK_pure (fun _ => .bool false) rfl (by decide) (by decide) (by kernel_rfl) (fun g => by kernel_rfl) rfl (fun g => by kernel_rfl) (fun g w => by kernel_rfl)) 
    (goes_cons (goesK_pure (fun _ => .bool true) rfl (by decide) (by decide) (by kernel_rfl) (fun g => by kernel_rfl) rfl (fun g => by kernel_rfl) (fun g w => by kernel_rfl)) 
    (goes_cons (goesK_pure (fun _ => .bool true) rfl (by decide) (by decide) (by kernel_rfl) (fun g => by kernel_rfl) rfl (fun g => by kernel_rfl) (fun g w => by kernel_rfl)) 
    (goes_cons (goesK_pure (fun _ => .slice A2 n2 d2) rfl (by decide) (by decide) (by kernel_rfl) (fun g => by kernel_rfl) rfl (fun g => by kernel_rfl) (fun g w => by kernel_rfl)) 
    (goes_cons (goesK_conv (c := d2) HN2.out (fun W hW => hr2E.below hW) Tryd.underlying28 Tryd.underlying5 Tryd.underlying9 hst (ahead_none (by decide)) rfl (by decide) (by decide) (by kernel_rfl) (fun g => by kernel_rfl) rfl (fun g => by kernel_rfl) rfl (fun g => by kernel_rfl)) 
    (goes_cons (goesK_pure (fun _ => .agg #[.bool false, .bool false, .bool false, .bool false, .bool false, .bool false, .bool false, .int .i64 0, .int .i64 0, .int .i64 0]) rfl (by decide) (by decide) (by kernel_rfl) (fun g => by kernel_rfl) rfl (fun g => by kernel_rfl) (fun g w => by kernel_rfl)) 
    (goes_cons (goesK_load hst (ahead_none (by decide)) rfl (by decide) (by decide) (by kernel_rfl) (fun g => by kernel_rfl) rfl (fun g => by kernel_rfl) rfl (fun g => by kernel_rfl) lk Tryd.underlying25 rfl (by kernel_rfl)) 
    (goes_cons (goesK_ghost (args := fun g => #[.agg #[.bool false, .bool false, .bool false, .bool false, .bool false, .bool false, .bool false, .int .i64 0, .int .i64 0, .int .i64 0], .agg #[.int .i64 code, .int .i64 r, .int .i64 1, .int .i64 shift, .int .i64 base, .string ⟨#[]⟩]]) hst (ahead_none (by decide)) rfl (by decide) (by decide) 0 rfl (by kernel_rfl) (fun g => by kernel_rfl) rfl (fun g => by kernel_rfl) (fun g w => by kernel_rfl) (fun g W hW hin => fb_out (H3.out W (HV.out W hW)))) 
    (goes_cons (goesK_str 0 rfl (by kernel_rfl) Tryd.underlying28 Tryd.underlying5 Tryd.underlying9 hst (ahead_none (by decide)) rfl (by decide) (by decide) (by kernel_rfl) (fun g => by kernel_rfl) rfl (fun g => by kernel_rfl) rfl (fun g => by kernel_rfl)) 
    (goes_cons (goesK_bin (v := .bool true) (xv := .string ⟨L.toArray⟩) (yv := .string ⟨L.toArray⟩) rfl (by decide) (by decide) (by kernel_rfl) (fun g => by kernel_rfl) rfl (fun g => by kernel_rfl) rfl (fun g => by kernel_rfl) (fun g => by kernel_rfl) (fun w => by go_simp)) 
    (goes_cons (goesK_pure (fun _ => .bool true) rfl (by decide) (by decide) (by kernel_rfl) (fun g => by kernel_rfl) rfl (fun g => by kernel_rfl) (fun g w => by kernel_rfl)) 
    (goes_cons (goesK_pure (fun _ => .bool true) rfl (by decide) (by decide) (by kernel_rfl) (fun g => by kernel_rfl) rfl (fun g => by kernel_rfl) (fun g w => by kernel_rfl)) 
    (goes_cons (goesK_pure (fun _ => .bool true) rfl (by decide) (by decide) (by kernel_rfl) (fun g => by kernel_rfl) rfl (fun g => by kernel_rfl) (fun g w => by kernel_rfl)) 
    (goes_cons (goesK_pure (fun _ => .bool true) rfl (by decide) (by decide) (by kernel_rfl) (fun g => by kernel_rfl) rfl (fun g => by kernel_rfl) (fun g w => by kernel_rfl)) goes_nil)))))))))))))))))))))))))))))))))) ?_
  intro g W hW _
  go_wp2_with fail
  go_ret
  exact ⟨rfl, hB10.trans (hW.mono hB10.size)⟩
set_option maxRecDepth 100000 in
set_option maxHeartbeats 16000000 in
theorem legacyText_ty (H : LegC Inv) (k : Ky) (hk : okK k) (hs : k.text.size ≤ 4294967296) (hm : mayK k = true) (hK : (lookE k.code).kind = 1) (ht : k.text.data.toList ≠ []) (F : Int) (hF : foldN (shownC k.code k.shift (hasN (k.mods % 2) 1)) = (F, true)) (w : World) (hv : Inv w) : Calls Tryd.prog 6 #[kyV k] w fun e w' => e = .returned (.bool true) ∧ Below w.heap.size w w' := by
  have HM : Hid (∀ W, Calls Tryd.prog 8 #[kyV k] W fun e w' => e = .returned (.bool true) ∧ Below W.heap.size W w') := Lib.hid fun W => by rw [← hm]; exact rmay10_any k hs W
  obtain ⟨⟨K, F0, N, C0, B⟩, hE⟩ : ∃ E, lookE k.code = E := ⟨_, rfl⟩
  have HL : Hid (∀ W, Inv W → Calls Tryd.prog 10 #[.int .i64 k.code] W fun e w' => e = .returned (.agg #[.int .i64 K, .int .u8 F0, .int .i64 N, .int .i64 C0, .bool B]) ∧ Below W.heap.size W w') := Lib.hid fun W hW => H.look_at W hW hk.code hE
  obtain ⟨⟨_, y0, y1, _, _⟩, _⟩ := (may_parts k).1 hm
  obtain ⟨b2, b4, c2, c4, cs⟩ := text_bits k.mods
  obtain ⟨r, hr⟩ : ∃ r, k.mods % 2 = r := ⟨_, rfl⟩
  have q2 : Int.tmod k.mods 2 = r := by rw [← hr]; exact Int.tmod_eq_emod_of_nonneg y0
  have r0 : 0 ≤ r ∧ r ≤ 1 := by omega
  rw [hr] at b2 b4 c2 c4 cs hF
  obtain ⟨C, hC⟩ : ∃ C, shownC k.code k.shift (hasN r 1) = C := ⟨_, rfl⟩
  rw [hC] at hF
  have i1 : in10 1 := in_lit11 (by decide)
  have ir : in10 r := ⟨by omega, by omega⟩
  have ir4 : in10 (r + 4) := ⟨by omega, by omega⟩
  have m1_ : mayK { k with typ := 1, mods := r } = true := may_mods (may_typ hm (t := 1) (by decide) (by decide)) (n := r) (by omega) (by omega)
  have m2_ : mayK { k with typ := 1, mods := r + 4 } = true := may_mods (may_typ hm (t := 1) (by decide) (by decide)) (n := r + 4) (by omega) (by omega)
  have m3_ : mayK { k with typ := 1, mods := r, text := ByteArray.empty } = true := may_mute m1_
  have L1 : legL mo0 { k with typ := 1, mods := r } = shownG k.code k.shift (hasN r 1) false k.text.data.toList := by
    have := leg_text mo0 (k := { k with typ := 1, mods := r }) m1_ (by simp) hK b2
    rw [b4] at this
    exact this
  have L2 : legL mo0 { k with typ := 1, mods := r + 4 } = (if true = true then [byt F] else putL C) := by
    have := leg_text mo0 (k := { k with typ := 1, mods := r + 4 }) m2_ (by simp) hK c2
    rw [c4, cs] at this
    exact this.trans (shownG_ctrl hC hF)
  have L3 : legL mo0 { k with typ := 1, mods := r, text := ByteArray.empty } = putL C := by
    have := leg_text mo0 (k := { k with typ := 1, mods := r, text := ByteArray.empty }) m3_ (by simp) hK b2
    rw [b4] at this
    exact this.trans (shownG_bare hC)
  obtain ⟨Z, hZ⟩ : ∃ Z, k.text.data.toList = Z := ⟨_, rfl⟩
  obtain ⟨n1, hn1⟩ : ∃ n, Z.length = n := ⟨_, rfl⟩
  have HZ := Lib.hid (show (⟨Z.toArray⟩ : ByteArray) = k.text by subst hZ; exact str_list11 _)
  have H1 : Hid (∀ W, Inv W → Calls Tryd.prog 9 #[moV mo0, kyV { k with typ := 1, mods := r }] W (KeyE Z n1 W)) := Lib.hid fun W hW => H.key_at mo0 { k with typ := 1, mods := r } (L1.trans ((show shownG k.code k.shift (hasN r 1) false k.text.data.toList = k.text.data.toList from if_pos ⟨rfl, ht⟩).trans hZ)) n1 hn1 ⟨hk.code, ir, i1, hk.shift, hk.base⟩ hs W hW
  have tf : k.text.toList.isEmpty = false := text_full ht
  clear hZ
  have HN1 := Lib.hid hn1
  have f0 := (fold_rng C).1
  rw [hF] at f0
  obtain ⟨f1, f2⟩ := f0 rfl
  have f3 : F < 256 := by omega
  have H2 : Hid (∀ W, Inv W → Calls Tryd.prog 9 #[moV mo0, kyV { k with typ := 1, mods := r + 4 }] W (KeyE [byt F] 1 W)) := Lib.hid fun W hW => H.key_at mo0 { k with typ := 1, mods := r + 4 } (L2.trans (if_pos rfl)) 1 rfl ⟨hk.code, ir4, i1, hk.shift, hk.base⟩ hs W hW
  have HS : Hid (∀ W, Calls Tryd.prog 14 #[kyV { k with typ := 1, mods := r + 4 }] W fun e w' => e = .returned (.int .i64 C) ∧ Below W.heap.size W w') := Lib.hid fun W => by
    have := rshown_any { k with typ := 1, mods := r + 4 } ⟨hk.code, ir4, i1, hk.shift, hk.base⟩ W
    rw [shownK_eq] at this
    have e : shownC k.code k.shift (hasN (r + 4) 1) = C := by rw [cs]; exact hC
    rwa [show shownC (({ k with typ := 1, mods := r + 4 } : Ky)).code (({ k with typ := 1, mods := r + 4 } : Ky)).shift (hasN (({ k with typ := 1, mods := r + 4 } : Ky)).mods 1) = C from e] at this
  have HF : Hid (∀ W, Calls Tryd.prog 13 #[.int .i64 C] W fun e w' => e = .returned (.tuple #[.int .i64 F, .bool true]) ∧ Below W.heap.size W w') := Lib.hid fun W => by
    have := rfold_any C W
    rwa [hF] at this
  rw [hE] at hK
  clear hm hk hs hE hn1 hF hC L1 L2 L3 m1_ m2_ m3_ b2 b4 c2 c4 cs ir ir4 i1 ht
  simp only [moV, kyV, mo0] at HM H1 H2 HS ⊢
  obtain ⟨code, mods, typ, shift, base, text⟩ := k
  have hB : Below w.heap.size w (w.alloc (.cells #[.int .i64 code, .int .i64 mods, .int .i64 typ, .int .i64 shift, .int .i64 base, .string text] 25)) := (Below.refl _ w).alloc (Nat.le_refl _) _
  have b0 := Blk.new w 25 #[.int .i64 code, .int .i64 mods, .int .i64 typ, .int .i64 shift, .int .i64 base, .string text]
  have hv0 := H.invB hv hB
  simp only at HM HL H1 H2 HS hK q2 hr y0 y1
  simp only at HZ tf
  subst hK
  go_enter Tryd.func6, Tryd.ntmps6
  go_wp2_with fail
  refine (legAwake H _ hv0).mono ?_
  rintro e w1 ⟨rfl, hb1⟩
  have b1 := b0.below hb1 b0.lt
  have hB1 := hB.trans (hb1.mono hB.size)
  have hv1 := H.invB hv hB1
  clear hv0 b0 hB hb1
  obtain ⟨a0_, a1_, a2_, a3_, a4_, a5_⟩ := Blk.cells6 b1
  go_wp2_with fail
  refine (HM.out _).mono ?_
  rintro e w2 ⟨rfl, hb2⟩
  have kB0 := b1.below hb2 b1.lt
  have hB0 := hB1.trans (hb2.mono hB1.size)
  clear hv1 b1 hB1 hb2 a0_ a1_ a2_ a3_ a4_ a5_
  obtain ⟨a0, a1, a2, a3, a4, a5⟩ := Blk.cells6 kB0
  have hv2 := H.invB hv hB0
  have gk := fieldK_kind 1 F0 N C0 B
  go_wp2_with fail
  refine (HL.out _ hv2).mono ?_
  rintro e w3 ⟨rfl, hb3⟩
  have kB1 := kB0.below hb3 kB0.lt
  have hB1 := hB0.trans (hb3.mono hB0.size)
  clear a0 a1 a2 a3 a4 a5 kB0 hB0 hb3 hv2
  have z2_2 := kB1.frozen 2
  obtain ⟨a0, a1, a2, a3, a4, a5⟩ := Blk.cells6 kB1
  have kB2 : Blk (w3.setCell ⟨w.heap.size, 2, none⟩ (Value.int .i64 1)) (w.heap.size) 25 #[.int .i64 code, .int .i64 mods, .int .i64 1, .int .i64 shift, .int .i64 base, .string text] := kB1.set 2 (Value.int .i64 1)
  have hB2 := hB1.setCell (p := ⟨w.heap.size, 2, none⟩) (by show _ ≤ w.heap.size; omega) (Value.int .i64 1)
  have z3_1 := kB2.frozen 1
  obtain ⟨a0, a1, a2, a3, a4, a5⟩ := Blk.cells6 kB2
  have kB3 : Blk ((w3.setCell ⟨w.heap.size, 2, none⟩ (Value.int .i64 1)).setCell ⟨w.heap.size, 1, none⟩ (Value.int .i64 r)) (w.heap.size) 25 #[.int .i64 code, .int .i64 r, .int .i64 1, .int .i64 shift, .int .i64 base, .string text] := kB2.set 1 (Value.int .i64 r)
  have hB3 := hB2.setCell (p := ⟨w.heap.size, 1, none⟩) (by show _ ≤ w.heap.size; omega) (Value.int .i64 r)
  go_upto_region 6 with (fail)
  generalize hW3 : ((w3.setCell ⟨w.heap.size, 2, none⟩ (Value.int .i64 1)).setCell ⟨w.heap.size, 1, none⟩ (Value.int .i64 r)) = W3 at *
  clear hW3
  have hv3 := H.invB hv hB3
  obtain ⟨a0, a1, a2, a3, a4, a5⟩ := Blk.cells6 kB3
  go_wp2_with fail
  refine (H1.out _ hv3).mono ?_
  rintro e w4 ⟨A1, d1, rfl, hr1, b4⟩
  have kB4 := kB3.below b4 kB3.lt
  have hB4 := hB3.trans (b4.mono hB3.size)
  have hr14 := hr1.off_key kB4 rfl
  clear hr1
  clear a0 a1 a2 a3 a4 a5 kB3 hv3
  have s1 : (convert 28 9 (.slice A1 n1 d1)).run Tryd.prog w4 = .ok (.string text) w4 := by
    have := str_lit (c := d1) HN1.out hr14.rd
    rwa [HZ.out] at this
  obtain ⟨a0, a1, a2, a3, a4, a5⟩ := Blk.cells6 kB4
  go_upto_region 8 with (fail)
  clear a0 a1 a2 a3 a4 a5 s1
  have z5_1 := kB4.frozen 1
  obtain ⟨a0, a1, a2, a3, a4, a5⟩ := Blk.cells6 kB4
  have kB5 : Blk (w4.setCell ⟨w.heap.size, 1, none⟩ (Value.int .i64 (r + 4))) (w.heap.size) 25 #[.int .i64 code, .int .i64 (r + 4), .int .i64 1, .int .i64 shift, .int .i64 base, .string text] := kB4.set 1 (Value.int .i64 (r + 4))
  have hr15 := hr14.fr (Fr.setCell _ (w.heap.size) 1 (Value.int .i64 (r + 4)) _ rfl) (Wid.refl _ _)
  have hB5 := hB4.setCell (p := ⟨w.heap.size, 1, none⟩) (by show _ ≤ w.heap.size; omega) (Value.int .i64 (r + 4))
  go_upto_region 9 with (fail)
  generalize hW5 : (w4.setCell ⟨w.heap.size, 1, none⟩ (Value.int .i64 (r + 4))) = W5 at *
  clear hW5
  have hv5 := H.invB hv hB5
  obtain ⟨a0, a1, a2, a3, a4, a5⟩ := Blk.cells6 kB5
  go_wp2_with fail
  refine (H2.out _ hv5).mono ?_
  rintro e w5 ⟨A2, d2, rfl, hr2, b6⟩
  have kB6 := kB5.below b6 kB5.lt
  have hB6 := hB5.trans (b6.mono hB5.size)
  have hr16 := hr15.below' b6
  have hr26 := hr2.off_key kB6 rfl
  clear hr2
  clear a0 a1 a2 a3 a4 a5 kB5 hv5
  have hv6 := H.invB hv hB6
  obtain ⟨a0, a1, a2, a3, a4, a5⟩ := Blk.cells6 kB6
  go_wp2_with fail
  refine (HS.out _).mono ?_
  rintro e w6 ⟨rfl, b7⟩
  have kB7 := kB6.below b7 kB6.lt
  have hB7 := hB6.trans (b7.mono hB6.size)
  have hr17 := hr16.below' b7
  have hr27 := hr26.below' b7
  clear a0 a1 a2 a3 a4 a5 kB6 hv6
  have hv7 := H.invB hv hB7
  obtain ⟨a0, a1, a2, a3, a4, a5⟩ := Blk.cells6 kB7
  go_wp2_with fail
  refine (HF.out _).mono ?_
  rintro e w7 ⟨rfl, b8⟩
  have kB8 := kB7.below b8 kB7.lt
  have hB8 := hB7.trans (b8.mono hB7.size)
  have hr18 := hr17.below' b8
  have hr28 := hr27.below' b8
  clear a0 a1 a2 a3 a4 a5 kB7 hv7
  have z9_5 := kB8.frozen 5
  obtain ⟨a0, a1, a2, a3, a4, a5⟩ := Blk.cells6 kB8
  have kB9 : Blk (w7.setCell ⟨w.heap.size, 5, none⟩ (Value.string ⟨#[]⟩)) (w.heap.size) 25 #[.int .i64 code, .int .i64 (r + 4), .int .i64 1, .int .i64 shift, .int .i64 base, .string ⟨#[]⟩] := kB8.set 5 (Value.string ⟨#[]⟩)
  have hr19 := hr18.fr (Fr.setCell _ (w.heap.size) 5 (Value.string ⟨#[]⟩) _ rfl) (Wid.refl _ _)
  have hr29 := hr28.fr (Fr.setCell _ (w.heap.size) 5 (Value.string ⟨#[]⟩) _ rfl) (Wid.refl _ _)
  have hB9 := hB8.setCell (p := ⟨w.heap.size, 5, none⟩) (by show _ ≤ w.heap.size; omega) (Value.string ⟨#[]⟩)
  have z10_1 := kB9.frozen 1
  obtain ⟨a0, a1, a2, a3, a4, a5⟩ := Blk.cells6 kB9
  have kB10 : Blk ((w7.setCell ⟨w.heap.size, 5, none⟩ (Value.string ⟨#[]⟩)).setCell ⟨w.heap.size, 1, none⟩ (Value.int .i64 r)) (w.heap.size) 25 #[.int .i64 code, .int .i64 r, .int .i64 1, .int .i64 shift, .int .i64 base, .string ⟨#[]⟩] := kB9.set 1 (Value.int .i64 r)
  have hr110 := hr19.fr (Fr.setCell _ (w.heap.size) 1 (Value.int .i64 r) _ rfl) (Wid.refl _ _)
  have hr210 := hr29.fr (Fr.setCell _ (w.heap.size) 1 (Value.int .i64 r) _ rfl) (Wid.refl _ _)
  have hB10 := hB9.setCell (p := ⟨w.heap.size, 1, none⟩) (by show _ ≤ w.heap.size; omega) (Value.int .i64 r)
  go_upto_region 13 with (fail)
  generalize hW10 : ((w7.setCell ⟨w.heap.size, 5, none⟩ (Value.string ⟨#[]⟩)).setCell ⟨w.heap.size, 1, none⟩ (Value.int .i64 r)) = W10 at *
  clear hW10
  obtain ⟨b, o, rfl, hbb, hcc⟩ := (hr210).rd (by show 0 < 1; decide)
  have hc0 : W10.cell? ⟨b, o + 0, none⟩ = some (.int .u8 F) := hcc 0 _ (by rw [bs1 F f1 f3]; rfl)
  have lz : ∀ W, Below W10.heap.size W10 W → W.cell? ⟨b, o + 0, none⟩ = some (.int .u8 F) := fun W hW => (hW.cell (p := ⟨b, o + 0, none⟩) hbb).trans hc0
  have hst : ∀ f ∈ ([] : List Fact), f.ok := fun _ h => by cases h
  refine wp_region_told (w1 := W10) (K := []) (ix := 1000) (R0 := fun _ _ _ => True) (R1 := fun _ _ _ => True) [] (⟨#[.agg #[.int .i64 code, .int .i64 mods, .int .i64 typ, .int .i64 shift, .int .i64 base, .string text], .pointer (some ⟨w.heap.size, 0, none⟩), .bool true, .bool true, .slice A1 n1 d1, .bool true, .slice (some ⟨b, o, none⟩) 1 d2, .int .i64 F, .bool true, .bool true, .agg #[.int .i64 code, .int .i64 mods, .int .i64 typ, .int .i64 shift, .int .i64 base, .string text], .bool true, .bool false, .bool false, .pointer (some ⟨w.heap.size, 0, none⟩), .int .i64 code, .agg #[.int .i64 1, .int .u8 F0, .int .i64 N, .int .i64 C0, .bool B], .int .i64 1, .bool false, .bool false, undef, .pointer (some ⟨w.heap.size, 2, none⟩), .pointer (some ⟨w.heap.size, 1, none⟩), .int .i64 mods, .int .i64 r, .pointer (some ⟨w.heap.size, 1, none⟩), .agg #[.bool false, .bool false, .bool false, .bool false, .bool false, .bool false, .bool false, .int .i64 0, .int .i64 0, .int .i64 0], .agg #[.int .i64 code, .int .i64 r, .int .i64 1, .int .i64 shift, .int .i64 base, .string text], .slice A1 n1 d1, .pointer (some ⟨w.heap.size, 5, none⟩), .string text, .bool false, .bool false, .slice A1 n1 d1, .string text, .pointer (some ⟨w.heap.size, 5, none⟩), .string text, .bool true, .bool true, .pointer (some ⟨w.heap.size, 1, none⟩), .int .i64 r, .int .i64 (r + 4), .pointer (some ⟨w.heap.size, 1, none⟩), .agg #[.bool false, .bool false, .bool false, .bool false, .bool false, .bool false, .bool false, .int .i64 0, .int .i64 0, .int .i64 0], .agg #[.int .i64 code, .int .i64 (r + 4), .int .i64 1, .int .i64 shift, .int .i64 base, .string text], .slice (some ⟨b, o, none⟩) 1 d2, .tuple #[.int .i64 F, .bool true], .agg #[.int .i64 code, .int .i64 (r + 4), .int .i64 1, .int .i64 shift, .int .i64 base, .string text], .int .i64 C, .tuple #[.int .i64 F, .bool true], .int .i64 F, .bool true, .pointer (some ⟨w.heap.size, 5, none⟩), .pointer (some ⟨w.heap.size, 1, none⟩), .int .i64 (r + 4), .int .i64 r, .pointer (some ⟨w.heap.size, 1, none⟩), .bool true, .bool true, .bool true, .bool true, .bool true, .bool true, .bool true, .slice (some ⟨b, o, none⟩) 1 d2, .int .i64 1, .bool true, .bool true, .bool true, .slice (some ⟨b, o, none⟩) 1 d2, .pointer (some ⟨b, o + 0, none⟩), .int .u8 F, .int .i64 F, .int .i64 F, .bool true, .bool true, .bool true, undef, undef, undef, undef, undef, undef, undef, undef, undef, undef, undef, .bool true, .bool true], []⟩) (fun g => ⟨#[.agg #[.int .i64 code, .int .i64 mods, .int .i64 typ, .int .i64 shift, .int .i64 base, .string text], .pointer (some ⟨w.heap.size, 0, none⟩), .bool true, .bool true, .slice A1 n1 d1, .bool true, .slice (some ⟨b, o, none⟩) 1 d2, .int .i64 F, .bool true, .bool true, .agg #[.int .i64 code, .int .i64 mods, .int .i64 typ, .int .i64 shift, .int .i64 base, .string text], .bool true, .bool false, .bool false, .pointer (some ⟨w.heap.size, 0, none⟩), .int .i64 code, .agg #[.int .i64 1, .int .u8 F0, .int .i64 N, .int .i64 C0, .bool B], .int .i64 1, .bool false, .bool false, undef, .pointer (some ⟨w.heap.size, 2, none⟩), .pointer (some ⟨w.heap.size, 1, none⟩), .int .i64 mods, .int .i64 r, .pointer (some ⟨w.heap.size, 1, none⟩), .agg #[.bool false, .bool false, .bool false, .bool false, .bool false, .bool false, .bool false, .int .i64 0, .int .i64 0, .int .i64 0], .agg #[.int .i64 code, .int .i64 r, .int .i64 1, .int .i64 shift, .int .i64 base, .string text], .slice A1 n1 d1, .pointer (some ⟨w.heap.size, 5, none⟩), .string text, .bool false, .bool false, .slice A1 n1 d1, .string text, .pointer (some ⟨w.heap.size, 5, none⟩), .string text, .bool true, .bool true, .pointer (some ⟨w.heap.size, 1, none⟩), .int .i64 r, .int .i64 (r + 4), .pointer (some ⟨w.heap.size, 1, none⟩), .agg #[.bool false, .bool false, .bool false, .bool false, .bool false, .bool false, .bool false, .int .i64 0, .int .i64 0, .int .i64 0], .agg #[.int .i64 code, .int .i64 (r + 4), .int .i64 1, .int .i64 shift, .int .i64 base, .string text], .slice (some ⟨b, o, none⟩) 1 d2, .tuple #[.int .i64 F, .bool true], .agg #[.int .i64 code, .int .i64 (r + 4), .int .i64 1, .int .i64 shift, .int .i64 base, .string text], .int .i64 C, .tuple #[.int .i64 F, .bool true], .int .i64 F, .bool true, .pointer (some ⟨w.heap.size, 5, none⟩), .pointer (some ⟨w.heap.size, 1, none⟩), .int .i64 (r + 4), .int .i64 r, .pointer (some ⟨w.heap.size, 1, none⟩), .bool true, .bool true, .bool true, .bool true, .bool true, .bool true, .bool true, .slice (some ⟨b, o, none⟩) 1 d2, .int .i64 1, .bool true, .bool true, .bool true, .slice (some ⟨b, o, none⟩) 1 d2, .pointer (some ⟨b, o + 0, none⟩), .int .u8 F, .int .i64 F, .int .i64 F, .bool true, .bool true, .bool true, undef, undef, undef, undef, undef, undef, undef, undef, undef, undef, undef, .bool true, .bool true], []⟩) [.bool true, .bool true, .bool true, .bool true, .bool true, .bool true, .bool true, .slice (some ⟨b, o, none⟩) 1 d2, .int .i64 1, .bool true, .bool true, .bool true, .slice (some ⟨b, o, none⟩) 1 d2, .pointer (some ⟨b, o + 0, none⟩), .int .u8 F, .int .i64 F, .int .i64 F, .bool true, .bool true, .bool true, undef, undef, undef, undef, undef, undef, undef, undef, undef, undef, undef, .bool true, .bool true, .bool true] (by kernel_rfl) (by kernel_rfl) (by kernel_rfl) (fun g => by kernel_rfl) (by kernel_rfl) (Below.refl _ _).drew (by decide) (by kernel_rfl)
    (goes_cons (goesK_pure (fun _ => .bool true) rfl (by decide) (by decide) (by kernel_rfl) (fun g => by kernel_rfl) rfl (fun g => by kernel_rfl) (fun g w => by kernel_rfl)) 
    (goes_cons (goesK_pure (fun _ => .bool true) rfl (by decide) (by decide) (by kernel_rfl) (fun g => by kernel_rfl) rfl (fun g => by kernel_rfl) (fun g w => by kernel_rfl)) 
    (goes_cons (goesK_pure (fun _ => .bool true) rfl (by decide) (by decide) (by kernel_rfl) (fun g => by kernel_rfl) rfl (fun g => by kernel_rfl) (fun g w => by kernel_rfl)) 
    (goes_cons (goesK_pure (fun _ => .bool true) rfl (by decide) (by decide) (by kernel_rfl) (fun g => by kernel_rfl) rfl (fun g => by kernel_rfl) (fun g w => by kernel_rfl)) 
    (goes_cons (goesK_pure (fun _ => .bool true) rfl (by decide) (by decide) (by kernel_rfl) (fun g => by kernel_rfl) rfl (fun g => by kernel_rfl) (fun g w => by kernel_rfl)) 
    (goes_cons (goesK_pure (fun _ => .bool true) rfl (by decide) (by decide) (by kernel_rfl) (fun g => by kernel_rfl) rfl (fun g => by kernel_rfl) (fun g w => by kernel_rfl)) 
    (goes_cons (goesK_pure (fun _ => .bool true) rfl (by decide) (by decide) (by kernel_rfl) (fun g => by kernel_rfl) rfl (fun g => by kernel_rfl) (fun g w => by kernel_rfl)) 
    (goes_cons (goesK_pure (fun _ => .slice (some ⟨b, o, none⟩) 1 d2) rfl (by decide) (by decide) (by kernel_rfl) (fun g => by kernel_rfl) rfl (fun g => by kernel_rfl) (fun g w => by kernel_rfl)) 
    (goes_cons (goesK_pure (fun _ => .int .i64 1) rfl (by decide) (by decide) (by kernel_rfl) (fun g => by kernel_rfl) rfl (fun g => by kernel_rfl) (fun g w => by kernel_rfl)) 
    (goes_cons (goesK_bin (v := .bool true) (xv := .int .i64 1) (yv := .int .i64 1) rfl (by decide) (by decide) (by kernel_rfl) (fun g => by kernel_rfl) rfl (fun g => by kernel_rfl) rfl (fun g => by kernel_rfl) (fun g => by kernel_rfl) (fun w => by go_simp)) 
    (goes_cons (goesK_pure (fun _ => .bool true) rfl (by decide) (by decide) (by kernel_rfl) (fun g => by kernel_rfl) rfl (fun g => by kernel_rfl) (fun g w => by kernel_rfl)) 
    (goes_cons (goesK_pure (fun _ => .bool true) rfl (by decide) (by decide) (by kernel_rfl) (fun g => by kernel_rfl) rfl (fun g => by kernel_rfl) (fun g w => by kernel_rfl)) 
    (goes_cons (goesK_pure (fun _ => .slice (some ⟨b, o, none⟩) 1 d2) rfl (by decide) (by decide) (by kernel_rfl) (fun g => by kernel_rfl) rfl (fun g => by kernel_rfl) (fun g w => by kernel_rfl)) 
    (goes_cons (goesK_index (b := b) (q := o) (m := 1) (c := d2) (k := 0) rfl (by decide) (by decide) (by kernel_rfl) (fun g => by kernel_rfl) rfl (fun g => by kernel_rfl) rfl (fun g => by kernel_rfl) (fun g => by kernel_rfl) (by decide) Tryd.underlying28 (fun w => by kernel_rfl)) 
    (goes_cons (goesK_cell hst (ahead_none (by decide)) rfl (by decide) (by decide) (by kernel_rfl) (fun g => by kernel_rfl) rfl (fun g => by kernel_rfl) rfl (fun g => by kernel_rfl) lz (fun w => by kernel_rfl)) 
    (goes_cons (goesK_pure (fun _ => .int .i64 F) rfl (by decide) (by decide) (by kernel_rfl) (fun g => by kernel_rfl) rfl (fun g => by kernel_rfl) (fun g w => by unfold execOp; go_simp; exact IntWalk.i64_in F ⟨by omega, by omega⟩)) 
    (goes_cons (goesK_pure (fun _ => .int .i64 F) rfl (by decide) (by decide) (by kernel_rfl) (fun g => by kernel_rfl) rfl (fun g => by kernel_rfl) (fun g w => by kernel_rfl)) 
    (goes_cons (goesK_bin (v := .bool true) (xv := .int .i64 F) (yv := .int .i64 F) rfl (by decide) (by decide) (by kernel_rfl) (fun g => by kernel_rfl) rfl (fun g => by kernel_rfl) rfl (fun g => by kernel_rfl) (fun g => by kernel_rfl) (fun w => by go_simp)) 
    (goes_cons (goesK_pure (fun _ => .bool true) rfl (by decide) (by decide) (by kernel_rfl) (fun g => by kernel_rfl) rfl (fun g => by kernel_rfl) (fun g w => by kernel_rfl)) 
    (goes_cons (goesK_pure (fun _ => .bool true) rfl (by decide) (by decide) (by kernel_rfl) (fun g => by kernel_rfl) rfl (fun g => by kernel_rfl) (fun g w => by kernel_rfl)) 
    (goes_cons (goesK_off rfl (by decide) (by decide) (by kernel_rfl) (fun g => by kernel_rfl) rfl (fun g => by kernel_rfl)) 
    (goes_cons (goesK_off rfl (by decide) (by decide) (by kernel_rfl) (fun g => by kernel_rfl) rfl (fun g => by kernel_rfl)) 
    (goes_cons (goesK_off rfl (by decide) (by decide) (by kernel_rfl) (fun g => by kernel_rfl) rfl (fun g => by kernel_rfl)) 
    (goes_cons (goesK_off rfl (by decide) (by decide) (by kernel_rfl) (fun g => by kernel_rfl) rfl (fun g => by kernel_rfl)) 
    (goes_cons (goesK_off rfl (by decide) (by decide) (by kernel_rfl) (fun g => by kernel_rfl) rfl (fun g => by kernel_rfl)) 
    (goes_cons (goesK_off rfl (by decide) (by decide) (by kernel_rfl) (fun g => by kernel_rfl) rfl (fun g => by kernel_rfl)) 
    (goes_cons (goesK_off rfl (by decide) (by decide) (by kernel_rfl) (fun g => by kernel_rfl) rfl (fun g => by kernel_rfl)) 
    (goes_cons (goesK_off rfl (by decide) (by decide) (by kernel_rfl) (fun g => by kernel_rfl) rfl (fun g => by kernel_rfl)) 
    (goes_cons (goesK_off rfl (by decide) (by decide) (by kernel_rfl) (fun g => by kernel_rfl) rfl (fun g => by kernel_rfl)) 
    (goes_cons (goesK_off rfl (by decide) (by decide) (by kernel_rfl) (fun g => by kernel_rfl) rfl (fun g => by kernel_rfl)) 
    (goes_cons (goesK_off rfl (by decide) (by decide) (by kernel_rfl) (fun g => by kernel_rfl) rfl (fun g => by kernel_rfl)) 
    (goes_cons (goesK_pure (fun _ => .bool true) rfl (by decide) (by decide) (by kernel_rfl) (fun g => by kernel_rfl) rfl (fun g => by kernel_rfl) (fun g w => by kernel_rfl)) 
    (goes_cons (goesK_pure (fun _ => .bool true) rfl (by decide) (by decide) (by kernel_rfl) (fun g => by kernel_rfl) rfl (fun g => by kernel_rfl) (fun g w => by kernel_rfl)) 
    (goes_cons (goesK_pure (fun _ => .bool true) rfl (by decide) (by decide) (by kernel_rfl) (fun g => by kernel_rfl) rfl (fun g => by kernel_rfl) (fun g w => by kernel_rfl)) goes_nil)))))))))))))))))))))))))))))))))) ?_
  intro g W hW _
  go_wp2_with fail
  go_ret
  exact ⟨rfl, hB10.trans (hW.mono hB10.size)⟩
set_option maxRecDepth 100000 in
set_option maxHeartbeats 16000000 in
theorem legacyText_tn (H : LegC Inv) (k : Ky) (hk : okK k) (hs : k.text.size ≤ 4294967296) (hm : mayK k = true) (hK : (lookE k.code).kind = 1) (ht : k.text.data.toList ≠ []) (F : Int) (hF : foldN (shownC k.code k.shift (hasN (k.mods % 2) 1)) = (F, false)) (w : World) (hv : Inv w) : Calls Tryd.prog 6 #[kyV k] w fun e w' => e = .returned (.bool true) ∧ Below w.heap.size w w' := by
  have HM : Hid (∀ W, Calls Tryd.prog 8 #[kyV k] W fun e w' => e = .returned (.bool true) ∧ Below W.heap.size W w') := Lib.hid fun W => by rw [← hm]; exact rmay10_any k hs W
  obtain ⟨⟨K, F0, N, C0, B⟩, hE⟩ : ∃ E, lookE k.code = E := ⟨_, rfl⟩
  have HL : Hid (∀ W, Inv W → Calls Tryd.prog 10 #[.int .i64 k.code] W fun e w' => e = .returned (.agg #[.int .i64 K, .int .u8 F0, .int .i64 N, .int .i64 C0, .bool B]) ∧ Below W.heap.size W w') := Lib.hid fun W hW => H.look_at W hW hk.code hE
  obtain ⟨⟨_, y0, y1, _, _⟩, _⟩ := (may_parts k).1 hm
  obtain ⟨b2, b4, c2, c4, cs⟩ := text_bits k.mods
  obtain ⟨r, hr⟩ : ∃ r, k.mods % 2 = r := ⟨_, rfl⟩
  have q2 : Int.tmod k.mods 2 = r := by rw [← hr]; exact Int.tmod_eq_emod_of_nonneg y0
  have r0 : 0 ≤ r ∧ r ≤ 1 := by omega
  rw [hr] at b2 b4 c2 c4 cs hF
  obtain ⟨C, hC⟩ : ∃ C, shownC k.code k.shift (hasN r 1) = C := ⟨_, rfl⟩
  rw [hC] at hF
  have i1 : in10 1 := in_lit11 (by decide)
  have ir : in10 r := ⟨by omega, by omega⟩
  have ir4 : in10 (r + 4) := ⟨by omega, by omega⟩
  have m1_ : mayK { k with typ := 1, mods := r } = true := may_mods (may_typ hm (t := 1) (by decide) (by decide)) (n := r) (by omega) (by omega)
  have m2_ : mayK { k with typ := 1, mods := r + 4 } = true := may_mods (may_typ hm (t := 1) (by decide) (by decide)) (n := r + 4) (by omega) (by omega)
  have m3_ : mayK { k with typ := 1, mods := r, text := ByteArray.empty } = true := may_mute m1_
  have L1 : legL mo0 { k with typ := 1, mods := r } = shownG k.code k.shift (hasN r 1) false k.text.data.toList := by
    have := leg_text mo0 (k := { k with typ := 1, mods := r }) m1_ (by simp) hK b2
    rw [b4] at this
    exact this
  have L2 : legL mo0 { k with typ := 1, mods := r + 4 } = (if false = true then [byt F] else putL C) := by
    have := leg_text mo0 (k := { k with typ := 1, mods := r + 4 }) m2_ (by simp) hK c2
    rw [c4, cs] at this
    exact this.trans (shownG_ctrl hC hF)
  have L3 : legL mo0 { k with typ := 1, mods := r, text := ByteArray.empty } = putL C := by
    have := leg_text mo0 (k := { k with typ := 1, mods := r, text := ByteArray.empty }) m3_ (by simp) hK b2
    rw [b4] at this
    exact this.trans (shownG_bare hC)
  obtain ⟨Z, hZ⟩ : ∃ Z, k.text.data.toList = Z := ⟨_, rfl⟩
  obtain ⟨n1, hn1⟩ : ∃ n, Z.length = n := ⟨_, rfl⟩
  have HZ := Lib.hid (show (⟨Z.toArray⟩ : ByteArray) = k.text by subst hZ; exact str_list11 _)
  have H1 : Hid (∀ W, Inv W → Calls Tryd.prog 9 #[moV mo0, kyV { k with typ := 1, mods := r }] W (KeyE Z n1 W)) := Lib.hid fun W hW => H.key_at mo0 { k with typ := 1, mods := r } (L1.trans ((show shownG k.code k.shift (hasN r 1) false k.text.data.toList = k.text.data.toList from if_pos ⟨rfl, ht⟩).trans hZ)) n1 hn1 ⟨hk.code, ir, i1, hk.shift, hk.base⟩ hs W hW
  have tf : k.text.toList.isEmpty = false := text_full ht
  clear hZ
  have HN1 := Lib.hid hn1
  obtain ⟨L, hL⟩ : ∃ L, putL C = L := ⟨_, rfl⟩
  obtain ⟨n2, hn2⟩ : ∃ n, L.length = n := ⟨_, rfl⟩
  have H2 : Hid (∀ W, Inv W → Calls Tryd.prog 9 #[moV mo0, kyV { k with typ := 1, mods := r + 4 }] W (KeyE L n2 W)) := Lib.hid fun W hW => H.key_at mo0 { k with typ := 1, mods := r + 4 } (L2.trans ((if_neg (by decide)).trans hL)) n2 hn2 ⟨hk.code, ir4, i1, hk.shift, hk.base⟩ hs W hW
  have H3 : Hid (∀ W, Inv W → Calls Tryd.prog 9 #[moV mo0, kyV { k with typ := 1, mods := r, text := ByteArray.empty }] W (Out L W)) := Lib.hid fun W hW => by
    have := H.key mo0 { k with typ := 1, mods := r, text := ByteArray.empty } W hW ⟨hk.code, ir, i1, hk.shift, hk.base⟩ (by show (0 : Nat) ≤ _; decide)
    rwa [L3, hL] at this
  have HN2 := Lib.hid hn2
  clear hL hn2
  have HS : Hid (∀ W, Calls Tryd.prog 14 #[kyV { k with typ := 1, mods := r + 4 }] W fun e w' => e = .returned (.int .i64 C) ∧ Below W.heap.size W w') := Lib.hid fun W => by
    have := rshown_any { k with typ := 1, mods := r + 4 } ⟨hk.code, ir4, i1, hk.shift, hk.base⟩ W
    rw [shownK_eq] at this
    have e : shownC k.code k.shift (hasN (r + 4) 1) = C := by rw [cs]; exact hC
    rwa [show shownC (({ k with typ := 1, mods := r + 4 } : Ky)).code (({ k with typ := 1, mods := r + 4 } : Ky)).shift (hasN (({ k with typ := 1, mods := r + 4 } : Ky)).mods 1) = C from e] at this
  have HF : Hid (∀ W, Calls Tryd.prog 13 #[.int .i64 C] W fun e w' => e = .returned (.tuple #[.int .i64 F, .bool false]) ∧ Below W.heap.size W w') := Lib.hid fun W => by
    have := rfold_any C W
    rwa [hF] at this
  rw [hE] at hK
  clear hm hk hs hE hn1 hF hC L1 L2 L3 m1_ m2_ m3_ b2 b4 c2 c4 cs ir ir4 i1 ht
  simp only [moV, kyV, mo0] at HM H1 H2 HS H3 ⊢
  obtain ⟨code, mods, typ, shift, base, text⟩ := k
  have hB : Below w.heap.size w (w.alloc (.cells #[.int .i64 code, .int .i64 mods, .int .i64 typ, .int .i64 shift, .int .i64 base, .string text] 25)) := (Below.refl _ w).alloc (Nat.le_refl _) _
  have b0 := Blk.new w 25 #[.int .i64 code, .int .i64 mods, .int .i64 typ, .int .i64 shift, .int .i64 base, .string text]
  have hv0 := H.invB hv hB
  simp only at HM HL H1 H2 HS hK q2 hr y0 y1 H3
  simp only at HZ tf
  subst hK
  go_enter Tryd.func6, Tryd.ntmps6
  go_wp2_with fail
  refine (legAwake H _ hv0).mono ?_
  rintro e w1 ⟨rfl, hb1⟩
  have b1 := b0.below hb1 b0.lt
  have hB1 := hB.trans (hb1.mono hB.size)
  have hv1 := H.invB hv hB1
  clear hv0 b0 hB hb1
  obtain ⟨a0_, a1_, a2_, a3_, a4_, a5_⟩ := Blk.cells6 b1
  go_wp2_with fail
  refine (HM.out _).mono ?_
  rintro e w2 ⟨rfl, hb2⟩
  have kB0 := b1.below hb2 b1.lt
  have hB0 := hB1.trans (hb2.mono hB1.size)
  clear hv1 b1 hB1 hb2 a0_ a1_ a2_ a3_ a4_ a5_
  obtain ⟨a0, a1, a2, a3, a4, a5⟩ := Blk.cells6 kB0
  have hv2 := H.invB hv hB0
  have gk := fieldK_kind 1 F0 N C0 B
  go_wp2_with fail
  refine (HL.out _ hv2).mono ?_
  rintro e w3 ⟨rfl, hb3⟩
  have kB1 := kB0.below hb3 kB0.lt
  have hB1 := hB0.trans (hb3.mono hB0.size)
  clear a0 a1 a2 a3 a4 a5 kB0 hB0 hb3 hv2
  have z2_2 := kB1.frozen 2
  obtain ⟨a0, a1, a2, a3, a4, a5⟩ := Blk.cells6 kB1
  have kB2 : Blk (w3.setCell ⟨w.heap.size, 2, none⟩ (Value.int .i64 1)) (w.heap.size) 25 #[.int .i64 code, .int .i64 mods, .int .i64 1, .int .i64 shift, .int .i64 base, .string text] := kB1.set 2 (Value.int .i64 1)
  have hB2 := hB1.setCell (p := ⟨w.heap.size, 2, none⟩) (by show _ ≤ w.heap.size; omega) (Value.int .i64 1)
  have z3_1 := kB2.frozen 1
  obtain ⟨a0, a1, a2, a3, a4, a5⟩ := Blk.cells6 kB2
  have kB3 : Blk ((w3.setCell ⟨w.heap.size, 2, none⟩ (Value.int .i64 1)).setCell ⟨w.heap.size, 1, none⟩ (Value.int .i64 r)) (w.heap.size) 25 #[.int .i64 code, .int .i64 r, .int .i64 1, .int .i64 shift, .int .i64 base, .string text] := kB2.set 1 (Value.int .i64 r)
  have hB3 := hB2.setCell (p := ⟨w.heap.size, 1, none⟩) (by show _ ≤ w.heap.size; omega) (Value.int .i64 r)
  go_upto_region 6 with (fail)
  generalize hW3 : ((w3.setCell ⟨w.heap.size, 2, none⟩ (Value.int .i64 1)).setCell ⟨w.heap.size, 1, none⟩ (Value.int .i64 r)) = W3 at *
  clear hW3
  have hv3 := H.invB hv hB3
  obtain ⟨a0, a1, a2, a3, a4, a5⟩ := Blk.cells6 kB3
  go_wp2_with fail
  refine (H1.out _ hv3).mono ?_
  rintro e w4 ⟨A1, d1, rfl, hr1, b4⟩
  have kB4 := kB3.below b4 kB3.lt
  have hB4 := hB3.trans (b4.mono hB3.size)
  have hr14 := hr1.off_key kB4 rfl
  clear hr1
  clear a0 a1 a2 a3 a4 a5 kB3 hv3
  have s1 : (convert 28 9 (.slice A1 n1 d1)).run Tryd.prog w4 = .ok (.string text) w4 := by
    have := str_lit (c := d1) HN1.out hr14.rd
    rwa [HZ.out] at this
  obtain ⟨a0, a1, a2, a3, a4, a5⟩ := Blk.cells6 kB4
  go_upto_region 8 with (fail)
  clear a0 a1 a2 a3 a4 a5 s1
  have z5_1 := kB4.frozen 1
  obtain ⟨a0, a1, a2, a3, a4, a5⟩ := Blk.cells6 kB4
  have kB5 : Blk (w4.setCell ⟨w.heap.size, 1, none⟩ (Value.int .i64 (r + 4))) (w.heap.size) 25 #[.int .i64 code, .int .i64 (r + 4), .int .i64 1, .int .i64 shift, .int .i64 base, .string text] := kB4.set 1 (Value.int .i64 (r + 4))
  have hr15 := hr14.fr (Fr.setCell _ (w.heap.size) 1 (Value.int .i64 (r + 4)) _ rfl) (Wid.refl _ _)
  have hB5 := hB4.setCell (p := ⟨w.heap.size, 1, none⟩) (by show _ ≤ w.heap.size; omega) (Value.int .i64 (r + 4))
  go_upto_region 9 with (fail)
  generalize hW5 : (w4.setCell ⟨w.heap.size, 1, none⟩ (Value.int .i64 (r + 4))) = W5 at *
  clear hW5
  have hv5 := H.invB hv hB5
  obtain ⟨a0, a1, a2, a3, a4, a5⟩ := Blk.cells6 kB5
  go_wp2_with fail
  refine (H2.out _ hv5).mono ?_
  rintro e w5 ⟨A2, d2, rfl, hr2, b6⟩
  have kB6 := kB5.below b6 kB5.lt
  have hB6 := hB5.trans (b6.mono hB5.size)
  have hr16 := hr15.below' b6
  have hr26 := hr2.off_key kB6 rfl
  clear hr2
  clear a0 a1 a2 a3 a4 a5 kB5 hv5
  have hv6 := H.invB hv hB6
  obtain ⟨a0, a1, a2, a3, a4, a5⟩ := Blk.cells6 kB6
  go_wp2_with fail
  refine (HS.out _).mono ?_
  rintro e w6 ⟨rfl, b7⟩
  have kB7 := kB6.below b7 kB6.lt
  have hB7 := hB6.trans (b7.mono hB6.size)
  have hr17 := hr16.below' b7
  have hr27 := hr26.below' b7
  clear a0 a1 a2 a3 a4 a5 kB6 hv6
  have hv7 := H.invB hv hB7
  obtain ⟨a0, a1, a2, a3, a4, a5⟩ := Blk.cells6 kB7
  go_wp2_with fail
  refine (HF.out _).mono ?_
  rintro e w7 ⟨rfl, b8⟩
  have kB8 := kB7.below b8 kB7.lt
  have hB8 := hB7.trans (b8.mono hB7.size)
  have hr18 := hr17.below' b8
  have hr28 := hr27.below' b8
  clear a0 a1 a2 a3 a4 a5 kB7 hv7
  have z9_5 := kB8.frozen 5
  obtain ⟨a0, a1, a2, a3, a4, a5⟩ := Blk.cells6 kB8
  have kB9 : Blk (w7.setCell ⟨w.heap.size, 5, none⟩ (Value.string ⟨#[]⟩)) (w.heap.size) 25 #[.int .i64 code, .int .i64 (r + 4), .int .i64 1, .int .i64 shift, .int .i64 base, .string ⟨#[]⟩] := kB8.set 5 (Value.string ⟨#[]⟩)
  have hr19 := hr18.fr (Fr.setCell _ (w.heap.size) 5 (Value.string ⟨#[]⟩) _ rfl) (Wid.refl _ _)
  have hr29 := hr28.fr (Fr.setCell _ (w.heap.size) 5 (Value.string ⟨#[]⟩) _ rfl) (Wid.refl _ _)
  have hB9 := hB8.setCell (p := ⟨w.heap.size, 5, none⟩) (by show _ ≤ w.heap.size; omega) (Value.string ⟨#[]⟩)
  have z10_1 := kB9.frozen 1
  obtain ⟨a0, a1, a2, a3, a4, a5⟩ := Blk.cells6 kB9
  have kB10 : Blk ((w7.setCell ⟨w.heap.size, 5, none⟩ (Value.string ⟨#[]⟩)).setCell ⟨w.heap.size, 1, none⟩ (Value.int .i64 r)) (w.heap.size) 25 #[.int .i64 code, .int .i64 r, .int .i64 1, .int .i64 shift, .int .i64 base, .string ⟨#[]⟩] := kB9.set 1 (Value.int .i64 r)
  have hr110 := hr19.fr (Fr.setCell _ (w.heap.size) 1 (Value.int .i64 r) _ rfl) (Wid.refl _ _)
  have hr210 := hr29.fr (Fr.setCell _ (w.heap.size) 1 (Value.int .i64 r) _ rfl) (Wid.refl _ _)
  have hB10 := hB9.setCell (p := ⟨w.heap.size, 1, none⟩) (by show _ ≤ w.heap.size; omega) (Value.int .i64 r)
  go_upto_region 13 with (fail)
  generalize hW10 : ((w7.setCell ⟨w.heap.size, 5, none⟩ (Value.string ⟨#[]⟩)).setCell ⟨w.heap.size, 1, none⟩ (Value.int .i64 r)) = W10 at *
  clear hW10
  have hr2E := (hr210).rd
  have hvE := H.invB hv hB10
  have HV : Hid (∀ W, Below W10.heap.size W10 W → Inv W) := Lib.hid fun W hW => H.invB hvE hW
  have lk : ∀ W, Below W10.heap.size W10 W → Blk W w.heap.size 25 #[.int .i64 code, .int .i64 r, .int .i64 1, .int .i64 shift, .int .i64 base, .string ⟨#[]⟩] := fun W hW => kB10.below hW kB10.lt
  have hst : ∀ f ∈ ([⟨27, 84, FB L⟩] : List Fact), f.ok := List.forall_mem_cons.2 ⟨fb_ok _ _ _, fun _ h => by cases h⟩
  refine wp_region_told (w1 := W10) (K := [⟨27, 84, FB L⟩]) (ix := 1000) (R0 := fun _ _ _ => True) (R1 := fun _ _ _ => True) [84] (⟨#[.agg #[.int .i64 code, .int .i64 mods, .int .i64 typ, .int .i64 shift, .int .i64 base, .string text], .pointer (some ⟨w.heap.size, 0, none⟩), .bool true, .bool true, .slice A1 n1 d1, .bool true, .slice A2 n2 d2, .int .i64 F, .bool false, .bool true, .agg #[.int .i64 code, .int .i64 mods, .int .i64 typ, .int .i64 shift, .int .i64 base, .string text], .bool true, .bool false, .bool false, .pointer (some ⟨w.heap.size, 0, none⟩), .int .i64 code, .agg #[.int .i64 1, .int .u8 F0, .int .i64 N, .int .i64 C0, .bool B], .int .i64 1, .bool false, .bool false, undef, .pointer (some ⟨w.heap.size, 2, none⟩), .pointer (some ⟨w.heap.size, 1, none⟩), .int .i64 mods, .int .i64 r, .pointer (some ⟨w.heap.size, 1, none⟩), .agg #[.bool false, .bool false, .bool false, .bool false, .bool false, .bool false, .bool false, .int .i64 0, .int .i64 0, .int .i64 0], .agg #[.int .i64 code, .int .i64 r, .int .i64 1, .int .i64 shift, .int .i64 base, .string text], .slice A1 n1 d1, .pointer (some ⟨w.heap.size, 5, none⟩), .string text, .bool false, .bool false, .slice A1 n1 d1, .string text, .pointer (some ⟨w.heap.size, 5, none⟩), .string text, .bool true, .bool true, .pointer (some ⟨w.heap.size, 1, none⟩), .int .i64 r, .int .i64 (r + 4), .pointer (some ⟨w.heap.size, 1, none⟩), .agg #[.bool false, .bool false, .bool false, .bool false, .bool false, .bool false, .bool false, .int .i64 0, .int .i64 0, .int .i64 0], .agg #[.int .i64 code, .int .i64 (r + 4), .int .i64 1, .int .i64 shift, .int .i64 base, .string text], .slice A2 n2 d2, .tuple #[.int .i64 F, .bool false], .agg #[.int .i64 code, .int .i64 (r + 4), .int .i64 1, .int .i64 shift, .int .i64 base, .string text], .int .i64 C, .tuple #[.int .i64 F, .bool false], .int .i64 F, .bool false, .pointer (some ⟨w.heap.size, 5, none⟩), .pointer (some ⟨w.heap.size, 1, none⟩), .int .i64 (r + 4), .int .i64 r, .pointer (some ⟨w.heap.size, 1, none⟩), .bool true, .bool true, .bool true, .bool true, .bool true, .bool false, .bool false, undef, undef, undef, .bool false, .bool false, undef, undef, undef, undef, undef, undef, .bool false, .bool false, .bool false, .bool true, .bool true, .slice A2 n2 d2, .string ⟨L.toArray⟩, .agg #[.bool false, .bool false, .bool false, .bool false, .bool false, .bool false, .bool false, .int .i64 0, .int .i64 0, .int .i64 0], .agg #[.int .i64 code, .int .i64 r, .int .i64 1, .int .i64 shift, .int .i64 base, .string ⟨#[]⟩], undef, .string ⟨L.toArray⟩, .bool true, .bool true, .bool true, .bool true], []⟩) (fun g => ⟨#[.agg #[.int .i64 code, .int .i64 mods, .int .i64 typ, .int .i64 shift, .int .i64 base, .string text], .pointer (some ⟨w.heap.size, 0, none⟩), .bool true, .bool true, .slice A1 n1 d1, .bool true, .slice A2 n2 d2, .int .i64 F, .bool false, .bool true, .agg #[.int .i64 code, .int .i64 mods, .int .i64 typ, .int .i64 shift, .int .i64 base, .string text], .bool true, .bool false, .bool false, .pointer (some ⟨w.heap.size, 0, none⟩), .int .i64 code, .agg #[.int .i64 1, .int .u8 F0, .int .i64 N, .int .i64 C0, .bool B], .int .i64 1, .bool false, .bool false, undef, .pointer (some ⟨w.heap.size, 2, none⟩), .pointer (some ⟨w.heap.size, 1, none⟩), .int .i64 mods, .int .i64 r, .pointer (some ⟨w.heap.size, 1, none⟩), .agg #[.bool false, .bool false, .bool false, .bool false, .bool false, .bool false, .bool false, .int .i64 0, .int .i64 0, .int .i64 0], .agg #[.int .i64 code, .int .i64 r, .int .i64 1, .int .i64 shift, .int .i64 base, .string text], .slice A1 n1 d1, .pointer (some ⟨w.heap.size, 5, none⟩), .string text, .bool false, .bool false, .slice A1 n1 d1, .string text, .pointer (some ⟨w.heap.size, 5, none⟩), .string text, .bool true, .bool true, .pointer (some ⟨w.heap.size, 1, none⟩), .int .i64 r, .int .i64 (r + 4), .pointer (some ⟨w.heap.size, 1, none⟩), .agg #[.bool false, .bool false, .bool false, .bool false, .bool false, .bool false, .bool false, .int .i64 0, .int .i64 0, .int .i64 0], .agg #[.int .i64 code, .int .i64 (r + 4), .int .i64 1, .int .i64 shift, .int .i64 base, .string text], .slice A2 n2 d2, .tuple #[.int .i64 F, .bool false], .agg #[.int .i64 code, .int .i64 (r + 4), .int .i64 1, .int .i64 shift, .int .i64 base, .string text], .int .i64 C, .tuple #[.int .i64 F, .bool false], .int .i64 F, .bool false, .pointer (some ⟨w.heap.size, 5, none⟩), .pointer (some ⟨w.heap.size, 1, none⟩), .int .i64 (r + 4), .int .i64 r, .pointer (some ⟨w.heap.size, 1, none⟩), .bool true, .bool true, .bool true, .bool true, .bool true, .bool false, .bool false, undef, undef, undef, .bool false, .bool false, undef, undef, undef, undef, undef, undef, .bool false, .bool false, .bool false, .bool true, .bool true, .slice A2 n2 d2, .string ⟨L.toArray⟩, .agg #[.bool false, .bool false, .bool false, .bool false, .bool false, .bool false, .bool false, .int .i64 0, .int .i64 0, .int .i64 0], .agg #[.int .i64 code, .int .i64 r, .int .i64 1, .int .i64 shift, .int .i64 base, .string ⟨#[]⟩], (g 84), .string ⟨L.toArray⟩, .bool true, .bool true, .bool true, .bool true], []⟩) [.bool true, .bool true, .bool true, .bool true, .bool true, .bool false, .bool false, undef, undef, undef, .bool false, .bool false, undef, undef, undef, undef, undef, undef, .bool false, .bool false, .bool false, .bool true, .bool true, .slice A2 n2 d2, .string ⟨L.toArray⟩, .agg #[.bool false, .bool false, .bool false, .bool false, .bool false, .bool false, .bool false, .int .i64 0, .int .i64 0, .int .i64 0], .agg #[.int .i64 code, .int .i64 r, .int .i64 1, .int .i64 shift, .int .i64 base, .string ⟨#[]⟩], undef, .string ⟨L.toArray⟩, .bool true, .bool true, .bool true, .bool true, .bool true] (by kernel_rfl) (by kernel_rfl) (by kernel_rfl) (fun g => by kernel_rfl) (by kernel_rfl) (Below.refl _ _).drew (by decide) (by kernel_rfl)
    (goes_cons (goesK_pure (fun _ => .bool true) rfl (by decide) (by decide) (by kernel_rfl) (fun g => by kernel_rfl) rfl (fun g => by kernel_rfl) (fun g w => by kernel_rfl)) 
    (goes_cons (goesK_pure (fun _ => .bool true) rfl (by decide) (by decide) (by kernel_rfl) (fun g => by kernel_rfl) rfl (fun g => by kernel_rfl) (fun g w => by kernel_rfl)) 
    (goes_cons (goesK_pure (fun _ => .bool true) rfl (by decide) (by decide) (by kernel_rfl) (fun g => by kernel_rfl) rfl (fun g => by kernel_rfl) (fun g w => by kernel_rfl)) 
    (goes_cons (goesK_pure (fun _ => .bool true) rfl (by decide) (by decide) (by kernel_rfl) (fun g => by kernel_rfl) rfl (fun g => by kernel_rfl) (fun g w => by kernel_rfl)) 
    (goes_cons (goesK_pure (fun _ => .bool true) rfl (by decide) (by decide) (by kernel_rfl) (fun g => by kernel_rfl) rfl (fun g => by kernel_rfl) (fun g w => by kernel_rfl)) 
    (goes_cons (goesK_pure (fun _ => .bool false) rfl (by decide) (by decide) (by kernel_rfl) (fun g => by kernel_rfl) rfl (fun g => by kernel_rfl) (fun g w => by kernel_rfl)) 
    (goes_cons (goesK_pure (fun _ => .bool false) rfl (by decide) (by decide) (by kernel_rfl) (fun g => by kernel_rfl) rfl (fun g => by kernel_rfl) (fun g w => by kernel_rfl)) 
    (goes_cons (goesK_off rfl (by decide) (by decide) (by kernel_rfl) (fun g => by kernel_rfl) rfl (fun g => by kernel_rfl)) 
    (goes_cons (goesK_off rfl (by decide) (by decide) (by kernel_rfl) (fun g => by kernel_rfl) rfl (fun g => by kernel_rfl)) 
    (goes_cons (goesK_off rfl (by decide) (by decide) (by kernel_rfl) (fun g => by kernel_rfl) rfl (fun g => by kernel_rfl)) 
    (goes_cons (goesK_pure (fun _ => .bool false) rfl (by decide) (by decide) (by kernel_rfl) (fun g => by kernel_rfl) rfl (fun g => by kernel_rfl) (fun g w => by kernel_rfl)) 
    (goes_cons (goesK_pure (fun _ => .bool false) rfl (by decide) (by decide) (by kernel_rfl) (fun g => by kernel_rfl) rfl (fun g => by kernel_rfl) (fun g w => by kernel_rfl)) 
    (goes_cons (goesK_off rfl (by decide) (by decide) (by kernel_rfl) (fun g => by kernel_rfl) rfl (fun g => by kernel_rfl)) 
    (goes_cons (goesK_off rfl (by decide) (by decide) (by kernel_rfl) (fun g => by kernel_rfl) rfl (fun g => by kernel_rfl)) 
    (goes_cons (goesK_off rfl (by decide) (by decide) (by kernel_rfl) (fun g => by kernel_rfl) rfl (fun g => by kernel_rfl)) 
    (goes_cons (goesK_off rfl (by decide) (by decide) (by kernel_rfl) (fun g => by kernel_rfl) rfl (fun g => by kernel_rfl)) 
    (goes_cons (goesK_off rfl (by decide) (by decide) (by kernel_rfl) (fun g => by kernel_rfl) rfl (fun g => by kernel_rfl)) 
    (goes_cons (goesK_off rfl (by decide) (by decide) (by kernel_rfl) (fun g => by kernel_rfl) rfl (fun g => by kernel_rfl)) 
    (goes_cons (goesK_pure (fun _ => .bool false) rfl (by decide) (by decide) (by kernel_rfl) (fun g => by kernel_rfl) rfl (fun g => by kernel_rfl) (fun g w => by kernel_rfl)) 
    (goes_cons (goesK_pure (fun _ => .bool false) rfl (by decide) (by decide) (by kernel_rfl) (fun g => by kernel_rfl) rfl (fun g => by kernel_rfl) (fun g w => by kernel_rfl)) 
    (goes_cons (goesK_pure (fun _ => .bool false) rfl (by decide) (by decide) (by kernel_rfl) (fun g => by kernel_rfl) rfl (fun g => by kernel_rfl) (fun g w => by kernel_rfl)) 
    (goes_cons (goesK_pure (fun _ => .bool true) rfl (by decide) (by decide) (by kernel_rfl) (fun g => by kernel_rfl) rfl (fun g => by kernel_rfl) (fun g w => by kernel_rfl)) 
    (goes_cons (goesK_pure (fun _ => .bool true) rfl (by decide) (by decide) (by kernel_rfl) (fun g => by kernel_rfl) rfl (fun g => by kernel_rfl) (fun g w => by kernel_rfl)) 
    (goes_cons (goesK_pure (fun _ => .slice A2 n2 d2) rfl (by decide) (by decide) (by kernel_rfl) (fun g => by kernel_rfl) rfl (fun g => by kernel_rfl) (fun g w => by kernel_rfl)) 
    (goes_cons (goesK_conv (c := d2) HN2.out (fun W hW => hr2E.below hW) Tryd.underlying28 Tryd.underlying5 Tryd.underlying9 hst (ahead_none (by decide)) rfl (by decide) (by decide) (by kernel_rfl) (fun g => by kernel_rfl) rfl (fun g => by kernel_rfl) rfl (fun g => by kernel_rfl)) 
    (goes_cons (goesK_pure (fun _ => .agg #[.bool false, .bool false, .bool false, .bool false, .bool false, .bool false, .bool false, .int .i64 0, .int .i64 0, .int .i64 0]) rfl (by decide) (by decide) (by kernel_rfl) (fun g => by kernel_rfl) rfl (fun g => by kernel_rfl) (fun g w => by kernel_rfl)) 
    (goes_cons (goesK_load hst (ahead_none (by decide)) rfl (by decide) (by decide) (by kernel_rfl) (fun g => by kernel_rfl) rfl (fun g => by kernel_rfl) rfl (fun g => by kernel_rfl) lk Tryd.underlying25 rfl (by kernel_rfl)) 
    (goes_cons (goesK_ghost (args := fun g => #[.agg #[.bool false, .bool false, .bool false, .bool false, .bool false, .bool false, .bool false, .int .i64 0, .int .i64 0, .int .i64 0], .agg #[.int .i64 code, .int .i64 r, .int .i64 1, .int .i64 shift, .int .i64 base, .string ⟨#[]⟩]]) hst (ahead_none (by decide)) rfl (by decide) (by decide) 0 rfl (by kernel_rfl) (fun g => by kernel_rfl) rfl (fun g => by kernel_rfl) (fun g w => by kernel_rfl) (fun g W hW hin => fb_out (H3.out W (HV.out W hW)))) 
    (goes_cons (goesK_str 0 rfl (by kernel_rfl) Tryd.underlying28 Tryd.underlying5 Tryd.underlying9 hst (ahead_none (by decide)) rfl (by decide) (by decide) (by kernel_rfl) (fun g => by kernel_rfl) rfl (fun g => by kernel_rfl) rfl (fun g => by kernel_rfl)) 
    (goes_cons (goesK_bin (v := .bool true) (xv := .string ⟨L.toArray⟩) (yv := .string ⟨L.toArray⟩) rfl (by decide) (by decide) (by kernel_rfl) (fun g => by kernel_rfl) rfl (fun g => by kernel_rfl) rfl (fun g => by kernel_rfl) (fun g => by kernel_rfl) (fun w => by go_simp)) 
    (goes_cons (goesK_pure (fun _ => .bool true) rfl (by decide) (by decide) (by kernel_rfl) (fun g => by kernel_rfl) rfl (fun g => by kernel_rfl) (fun g w => by kernel_rfl)) 
    (goes_cons (goesK_pure (fun _ => .bool true) rfl (by decide) (by decide) (by kernel_rfl) (fun g => by kernel_rfl) rfl (fun g => by kernel_rfl) (fun g w => by kernel_rfl)) 
    (goes_cons (goesK_pure (fun _ => .bool true) rfl (by decide) (by decide) (by kernel_rfl) (fun g => by kernel_rfl) rfl (fun g => by kernel_rfl) (fun g w => by kernel_rfl)) 
    (goes_cons (goesK_pure (fun _ => .bool true) rfl (by decide) (by decide) (by kernel_rfl) (fun g => by kernel_rfl) rfl (fun g => by kernel_rfl) (fun g w => by kernel_rfl)) goes_nil)))))))))))))))))))))))))))))))))) ?_
  intro g W hW _
  go_wp2_with fail
  go_ret
  exact ⟨rfl, hB10.trans (hW.mono hB10.size)⟩
theorem legacyText_walk (H : LegC Inv) (k : Ky) (hk : okK k) (hs : k.text.size ≤ 4294967296) (w : World) (hv : Inv w) : Calls Tryd.prog 6 #[kyV k] w fun e w' => e = .returned (.bool true) ∧ Below w.heap.size w w' := by
  cases hm : mayK k with
  | false => exact legacyText_no H k hk hs hm w hv
  | true =>
    by_cases hK : (lookE k.code).kind = 1
    · obtain ⟨F, is, hF⟩ : ∃ F is, foldN (shownC k.code k.shift (hasN (k.mods % 2) 1)) = (F, is) := ⟨_, _, rfl⟩
      by_cases ht : k.text.data.toList = []
      · cases is with
        | true => exact legacyText_ey H k hk hs hm hK ht F hF w hv
        | false => exact legacyText_en H k hk hs hm hK ht F hF w hv
      · cases is with
        | true => exact legacyText_ty H k hk hs hm hK ht F hF w hv
        | false => exact legacyText_tn H k hk hs hm hK ht F hF w hv
    · exact legacyText_kind H k hk hs hm hK w hv
end Go.Proofs.YtbjmfhcgkpjcfaaDoor
