/-
  Layer 13, walked: the document's Key. Layer 13, the laws' walks over the bundle: KittyAll.
-/
import Derived.Test.YtdfojkbgdoiglaaGreatDoorG06
import Derived.Test.YtdfojkbgdoiglaaGreatDoorG24
import Derived.Test.YtdfojkbgdoiglaaGreatDoorG25
import Derived.Test.YtdfojkbgdoiglaaGreatDoorG34
import Derived.Deep.Cut
namespace Go.Proofs.YtdfojkbgdoiglaaGreatDoor
open Go.RowKit
theorem out_is13 {L L' : List UInt8} {w w' : World} {e : Ending} (h : L = L') (ho : Out L' w e w') : Out L w e w' := h ▸ ho
theorem sent_may {f : Int} {k : Ky} (h : sentK f k = true) : mayK k = true := by
 unfold sentK at h
 cases hm : mayK k with
 | true => rfl
 | false => rw [hm] at h; cases h
theorem keyed_rng {c : Int} (h : keyedK c = true) : 0 ≤ c ∧ c < 256 := by
 unfold keyedK at h
 simp only [Bool.or_eq_true, beq_iff_eq] at h
 omega
theorem rputk_any (f : Int) {k : Ky} (h : mayK k = true) (A : Option Addr) (c : Nat) (w : World) (hr : RdP w A (paramsK f k)) :
 Calls Tryz.prog 27 #[.agg #[.int .i64 1, .int .u8 0, .slice A (paramsK f k).length c, .string ⟨#[]⟩, .int .u8 (frmK k.code).2, .string ⟨#[]⟩]] w (PutE 0 (putK f k) w) := by
 obtain ⟨⟨k1, _, _, _, _⟩, _⟩ := (may_parts k).1 h
 have hrg := frm_rng k1
 have hm := may_kit f h
 obtain ⟨_, _, hpo, _⟩ := ok_parts hm
 have hp := (parOk_lens hpo).1
 have e : sqV (sqK f k) A c = .agg #[.int .i64 1, .int .u8 0, .slice A (paramsK f k).length c, .string ⟨#[]⟩, .int .u8 (frmK k.code).2, .string ⟨#[]⟩] := by
  unfold sqV
  show Value.agg #[.int .i64 1, .int .u8 0, .slice A (paramsK f k).length c, .string ⟨#[]⟩, .int .u8 ((byt (frmK k.code).2).toNat : Int), .string ⟨#[]⟩] = _
  rw [byt_nat _ (by omega) (by omega)]
 rw [← e]
 exact rputE_any (sqK f k) A c 0 (putK f k) w hm rfl (Nat.le_trans hp (by decide)) (by simp [sqK]) hr
set_option maxRecDepth 100000 in
set_option maxHeartbeats 16000000 in
theorem rkey13_any (f : Int) (k : Ky) (hk : okK k) (hs : k.text.size ≤ 4294967296) (w : World) : Calls Tryz.prog 10 #[.int .i64 f, kyV k] w (Out (kitL f k) w) := by
 obtain ⟨v, hv⟩ : ∃ v, sentK f k = v := ⟨_, rfl⟩
 obtain ⟨f8, hf8⟩ : ∃ v, flagK f 8 = v := ⟨_, rfl⟩
 obtain ⟨tx, has⟩ : ∃ v, astextK k = v := ⟨_, rfl⟩
 obtain ⟨q, hq⟩ : ∃ v, keyedK k.code = v := ⟨_, rfl⟩
 obtain ⟨sh, hsh⟩ : ∃ v, shownK k = v := ⟨_, rfl⟩
 obtain ⟨ps, hps⟩ : ∃ v, paramsK f k = v := ⟨_, rfl⟩
 obtain ⟨ff, hff⟩ : ∃ v, (frmK k.code).2 = v := ⟨_, rfl⟩
 obtain ⟨np, hnp⟩ : ∃ v, ps.length = v := ⟨_, rfl⟩
 obtain ⟨PB, hPB⟩ : ∃ v, putK f k = v := ⟨_, rfl⟩
 obtain ⟨te, hte⟩ : ∃ b, decide (k.text.data.toList = []) = b := ⟨_, rfl⟩
 have HSN : Hid (∀ W, Calls Tryz.prog 21 #[.int .i64 f, kyV k] W fun e w' => e = .returned (.bool v) ∧ Below W.heap.size W w') := Lib.hid fun W => by rw [← hv]; exact rsent_any f k hs W
 have HF8 : Hid (∀ W, Calls Tryz.prog 22 #[.int .i64 f, .int .i64 8] W fun e w' => e = .returned (.bool f8) ∧ Below W.heap.size W w') := Lib.hid fun W => by rw [← hf8]; exact rflag_any f 8 (by decide) (by decide) W
 have HAS : Hid (v = true → ∀ W, Calls Tryz.prog 23 #[kyV k] W fun e w' => e = .returned (.bool tx) ∧ Below W.heap.size W w') := Lib.hid fun h W => by
  rw [h] at hv
  obtain ⟨⟨_, m0, m1, _, _⟩, _⟩ := (may_parts k).1 (sent_may hv)
  rw [← has]
  exact rastext_any k m0 m1 W
 have HKD : Hid (∀ W, Calls Tryz.prog 24 #[.int .i64 k.code] W fun e w' => e = .returned (.bool q) ∧ Below W.heap.size W w') := Lib.hid fun W => by rw [← hq]; exact rkeyed_any k.code W
 have HSH : Hid (∀ W, Calls Tryz.prog 26 #[kyV k] W fun e w' => e = .returned (.int .i64 sh) ∧ Below W.heap.size W w') := Lib.hid fun W => by rw [← hsh]; exact rshown_any k hk W
 have HSQ : Hid (v = true → ∀ W, Calls Tryz.prog 28 #[.int .i64 f, kyV k] W (SeqO ps np ff W)) := Lib.hid fun h W => by
  rw [h] at hv
  have := rseq13_any f k (sent_may hv) hs W
  rw [hps, hff, hnp] at this
  exact this
 have HPT : Hid (v = true → ∀ (A : Option Addr) (c : Nat) (W : World), RdP W A ps → Calls Tryz.prog 27 #[.agg #[.int .i64 1, .int .u8 0, .slice A np c, .string ⟨#[]⟩, .int .u8 ff, .string ⟨#[]⟩]] W (PutE 0 PB W)) := Lib.hid fun h A c W hr => by
  rw [h] at hv
  have := rputk_any f (sent_may hv) A c W (by rw [hps]; exact hr)
  rw [hps, hnp, hff, hPB] at this
  exact this
 have tl : k.text.toList.isEmpty = te := by
  rw [ByteArray.toList_eq, ← hte]
  cases k.text.data.toList <;> simp
 have HQR : Hid (q = true → 0 ≤ k.code ∧ k.code < 256) := Lib.hid fun h => by rw [h] at hq; exact keyed_rng hq
 have HC := Lib.hid (show kitL f k = if v = false then [] else if f8 = false ∧ k.typ ≠ 3 ∧ tx = true then (if q = true then [byt k.code] else if te = false then k.text.data.toList else putL sh) else PB by
  unfold kitL plainK
  rw [hv, hf8, has, hq, hsh, hPB, ← hte]
  simp only [decide_eq_false_iff_not, ne_eq])
 obtain ⟨R, hR⟩ : ∃ R, kitL f k = R := ⟨_, rfl⟩
 rw [hR] at HC ⊢
 have HTS := Lib.hid hs
 clear hv hf8 has hq hsh hps hff hnp hPB hte hR hk hs
 obtain ⟨code, mods, typ, shift, base, text⟩ := k
 simp only [kyV] at HSN HAS HKD HSH HSQ HC HQR HTS tl ⊢
 have k0 := Blk.new w 23 #[.int .i64 code, .int .i64 mods, .int .i64 typ, .int .i64 shift, .int .i64 base, .string text]
 have hB : Below w.heap.size w (w.alloc (.cells #[.int .i64 code, .int .i64 mods, .int .i64 typ, .int .i64 shift, .int .i64 base, .string text] 23)) := (Below.refl _ w).alloc (Nat.le_refl _) _
 obtain ⟨a0, a1, a2, a3, a4, a5⟩ := Blk.cells6 k0
 go_enter Tryz.func10, Tryz.ntmps10
 go_wp2_with fail
 refine (HSN.out _).mono ?_
 rintro e w1 ⟨rfl, hb1⟩
 have k1 := k0.below hb1 k0.lt
 have hB1 := hB.trans (hb1.mono hB.size)
 clear k0 hB hb1 a0 a1 a2 a3 a4 a5 HSN
 cases v with
 | false =>
   have HR := Lib.hid (show R = [] from HC.out)
   clear HC
   go_wp2_with fail
   go_ret
   exact out_is13 HR.out ⟨none, 0, rfl, Rd.nil _ _, hB1⟩
 | true =>
 have GAS := Lib.hid (HAS.out rfl)
 have GSQ := Lib.hid (HSQ.out rfl)
 have GPT := Lib.hid (HPT.out rfl)
 have HC2 := Lib.hid (show R = if f8 = false ∧ typ ≠ 3 ∧ tx = true then (if q = true then [byt code] else if te = false then text.data.toList else putL sh) else PB by rw [HC.out]; simp)
 clear HAS HSQ HPT HC
 go_wp2_with fail
 refine (HF8.out _).mono ?_
 rintro e w2 ⟨rfl, hb2⟩
 have k2 := k1.below hb2 k1.lt
 have hB2 := hB1.trans (hb2.mono hB1.size)
 clear k1 hB1 hb2 HF8
 obtain ⟨a0, a1, a2, a3, a4, a5⟩ := Blk.cells6 k2
 cases f8 with
 | true =>
   have HR := Lib.hid (show R = PB by rw [HC2.out]; simp)
   clear HC2
   go_wp2_with fail
   refine (GSQ.out _).mono ?_
   rintro e w8 ⟨A8, c8, rfl, hr8, hb8⟩
   have hB8 := hB2.trans (hb8.mono hB2.size)
   go_wp2_with fail
   refine (GPT.out A8 c8 _ hr8).mono ?_
   rintro e w9 ⟨⟨A9, c9, rfl, _, hr9⟩, hb9⟩
   have hB9 := hB8.trans (hb9.mono hB8.size)
   clear hr8 hb8 hB8 hb9
   go_wp2_with fail
   go_ret
   exact out_is13 HR.out ⟨A9, c9, rfl, hr9, hB9⟩
 | false =>
 by_cases ht3 : typ = 3
 ·have HR := Lib.hid (show R = PB by rw [HC2.out, if_neg (fun e => e.2.1 ht3)])
  subst ht3
  clear HC2
  go_wp2_with fail
  refine (GSQ.out _).mono ?_
  rintro e w8 ⟨A8, c8, rfl, hr8, hb8⟩
  have hB8 := hB2.trans (hb8.mono hB2.size)
  go_wp2_with fail
  refine (GPT.out A8 c8 _ hr8).mono ?_
  rintro e w9 ⟨⟨A9, c9, rfl, _, hr9⟩, hb9⟩
  have hB9 := hB8.trans (hb9.mono hB8.size)
  clear hr8 hb8 hB8 hb9
  go_wp2_with fail
  go_ret
  exact out_is13 HR.out ⟨A9, c9, rfl, hr9, hB9⟩
 have y0 : (typ == 3) = false := beq_false_of_ne ht3
 have y1 : (typ != 3) = true := by simp [bne, y0]
 have HC3 := Lib.hid (show R = if tx = true then (if q = true then [byt code] else if te = false then text.data.toList else putL sh) else PB by
  rw [HC2.out]
  cases tx with
  | true => rw [if_pos ⟨rfl, ht3, rfl⟩, if_pos rfl]
  | false => rw [if_neg (fun e => by cases e.2.2), if_neg (by decide)])
 clear HC2 ht3
 go_wp2_with fail
 refine (GAS.out _).mono ?_
 rintro e w3 ⟨rfl, hb3⟩
 have k3 := k2.below hb3 k2.lt
 have hB3 := hB2.trans (hb3.mono hB2.size)
 clear k2 hB2 hb3 a0 a1 a2 a3 a4 a5 GAS
 obtain ⟨a0, a1, a2, a3, a4, a5⟩ := Blk.cells6 k3
 cases tx with
 | false =>
   have HR := Lib.hid (show R = PB from HC3.out)
   clear HC3
   go_wp2_with fail
   refine (GSQ.out _).mono ?_
   rintro e w8 ⟨A8, c8, rfl, hr8, hb8⟩
   have hB8 := hB3.trans (hb8.mono hB3.size)
   go_wp2_with fail
   refine (GPT.out A8 c8 _ hr8).mono ?_
   rintro e w9 ⟨⟨A9, c9, rfl, _, hr9⟩, hb9⟩
   have hB9 := hB8.trans (hb9.mono hB8.size)
   clear hr8 hb8 hB8 hb9
   go_wp2_with fail
   go_ret
   exact out_is13 HR.out ⟨A9, c9, rfl, hr9, hB9⟩
 | true =>
 have HC4 := Lib.hid (show R = if q = true then [byt code] else if te = false then text.data.toList else putL sh from HC3.out)
 clear HC3 GSQ GPT
 go_wp2_with fail
 refine (HKD.out _).mono ?_
 rintro e w4 ⟨rfl, hb4⟩
 have k4 := k3.below hb4 k3.lt
 have hB4 := hB3.trans (hb4.mono hB3.size)
 clear k3 hB3 hb4 a0 a1 a2 a3 a4 a5 HKD
 obtain ⟨a0, a1, a2, a3, a4, a5⟩ := Blk.cells6 k4
 cases q with
 | true =>
   have HR := Lib.hid (show R = [byt code] from HC4.out)
   obtain ⟨c0, c1⟩ := HQR.out rfl
   have hw : IntKind.u8.wrap code = code := by rw [IntKind.wrap_u8]; omega
   clear HC4 HQR
   go_wp2_with fail
   go_ret
   exact out_is13 HR.out ⟨_, _, rfl, Rd.block (heap_alloc_new w4 _) (by rw [bs1 code c0 c1]; rfl), hB4.alloc hB4.size _⟩
 | false =>
 cases te with
 | false =>
   have HR := Lib.hid (show R = text.data.toList from HC4.out)
   clear HC4
   have hms : text.size ≤ maxLen := by have := HTS.out; simp only [maxLen]; omega
   have hs4 := hB4.size
   go_wp2_with (first | ((with_reducible refine list_conv _ rfl (.tmp 34) 9 27 rfl w.heap.size 5 text ?_ Tryz.underlying9 Tryz.underlying27 Tryz.underlying5 hms hs4 ?_); rfl; intro v5 w5 own5 hg5))
   go_ret
   exact out_is13 HR.out (out_own own5 (hB4.trans ((below_none hg5).mono hB4.size)))
 | true =>
   have HR := Lib.hid (show R = putL sh from HC4.out)
   clear HC4
   go_wp2_with fail
   refine (HSH.out _).mono ?_
   rintro e w5 ⟨rfl, hb5⟩
   have hB5 := hB4.trans (hb5.mono hB4.size)
   clear a0 a1 a2 a3 a4 a5 k4
   go_wp2_with fail
   refine (rPut_any sh _).mono ?_
   rintro e w6 ⟨A6, c6, rfl, hr6, hb6⟩
   go_wp2_with fail
   go_ret
   exact out_is13 HR.out ⟨A6, c6, rfl, hr6, hB5.trans (hb6.mono hB5.size)⟩
end Go.Proofs.YtdfojkbgdoiglaaGreatDoor
namespace Go.Proofs.YtdfojkbgdoiglaaGreatDoor
open Go.RowKit
variable {Inv : World → Prop}
theorem code_in13 (n : Int) : in10 (57344 + n % 120) := ⟨by omega, by omega⟩
set_option maxRecDepth 100000 in
set_option maxHeartbeats 16000000 in
theorem kittyAll_walk (H : KitC Inv) (flags : Int) (l0 : 0 ≤ flags) (l1 : flags ≤ 255) (mods : Int) (m0 : 0 ≤ mods) (m1 : mods ≤ 255) (x0 x1 : Int) (p0 : 0 ≤ x0) (p1 : x0 ≤ 255) (q0 : 0 ≤ x1) (_q1 : x1 ≤ 255) (w : World) (hv : Inv w) : Calls Tryz.prog 4 #[.int .u8 flags, .int .u8 mods, .agg #[.int .u8 x0, .int .u8 x1]] w fun e w' => e = .returned (.bool true) ∧ Below w.heap.size w w' := by
 obtain ⟨ty, hty⟩ : ∃ ty, 1 + x1 % 3 = ty := ⟨_, rfl⟩
 have HKA0 : Hid (∀ code W, in10 code → Inv W → Calls Tryz.prog 9 #[.int .i64 flags, kyV ⟨code, mods, ty, 0, 0, ⟨#[]⟩⟩] W (Out (kitL flags ⟨code, mods, ty, 0, 0, ⟨#[]⟩⟩) W)) := Lib.hid fun code W hc hW => H.key flags _ W hW ⟨by omega, by omega⟩ (ok_lit13 hc ⟨by omega, by omega⟩ ⟨by omega, by omega⟩ _) (by show (0 : Nat) ≤ 4294967296; decide)
 have HKB0 : Hid (∀ code W, in10 code → Calls Tryz.prog 10 #[.int .i64 flags, kyV ⟨code, mods, ty, 0, 0, ⟨#[]⟩⟩] W (Out (kitL flags ⟨code, mods, ty, 0, 0, ⟨#[]⟩⟩) W)) := Lib.hid fun code W hc => rkey13_any flags _ (ok_lit13 hc ⟨by omega, by omega⟩ ⟨by omega, by omega⟩ _) (by show (0 : Nat) ≤ 4294967296; decide) W
 simp only [kyV] at HKA0 HKB0
 have hB := (Below.refl w.heap.size w).alloc (Nat.le_refl _) (.cells #[.int .u8 x0, .int .u8 x1] 30)
 have a0 := Blk.new w 30 #[.int .u8 x0, .int .u8 x1]
 have hv0 := H.invB hv hB
 go_enter Tryz.func4, Tryz.ntmps4
 go_wp2_with fail
 refine (kitAwake H _ hv0).mono ?_
 rintro e w1 ⟨rfl, hb1⟩
 have a1 := a0.below hb1 a0.lt
 have hB1 := hB.trans (hb1.mono hB.size)
 have hv1 := H.invB hv hB1
 clear hv0 a0 hB hb1
 go_wp2_with fail
 go_loopw [8] (fun i wr => ∃ k : Nat, k ≤ 30 ∧ i = .int .i64 k ∧ Below w1.heap.size w1 wr) (fun i _ => 30 - (intOf i).toNat)
 case atStart => exact ⟨0, by omega, rfl, Below.refl _ _⟩
 case round =>
  obtain ⟨k, hk, rfl, hbw⟩ := hrel
  have a2 := a1.below hbw a1.lt
  have hB2 := hB1.trans (hbw.mono hB1.size)
  have hv2 := H.invB hv hB2
  by_cases hlt : k < 30
  ·have k1 : (k : Int) < 30 := by omega
   have k0 : (0 : Int) ≤ (k : Int) := by omega
   obtain ⟨code, hcode⟩ : ∃ code, 57344 + (x0 + (k : Int)) % 120 = code := ⟨_, rfl⟩
   have hc : in10 code := hcode ▸ code_in13 _
   have tm : Int.tmod (x0 + (k : Int)) 120 = (x0 + (k : Int)) % 120 := Int.tmod_eq_emod_of_nonneg (by omega)
   have tm3 : Int.tmod x1 3 = x1 % 3 := Int.tmod_eq_emod_of_nonneg q0
   have w8 : IntKind.u8.wrap (x1 % 3) = x1 % 3 := by rw [IntKind.wrap_u8]; omega
   have wf_ : IntKind.i64.wrap flags = flags := by rw [IntKind.wrap_i64]; omega
   have c0 := a2.cell 0
   have c1 := a2.cell 1
   have HKA := Lib.hid (fun W => HKA0.out code W hc)
   have HKB := Lib.hid (fun W => HKB0.out code W hc)
   obtain ⟨L, hL⟩ : ∃ L, kitL flags ⟨code, mods, ty, 0, 0, ⟨#[]⟩⟩ = L := ⟨_, rfl⟩
   rw [hL] at HKA HKB
   clear hL HKA0 HKB0 hc
   go_upto_region 6 with (fail)
   have kE := Blk.new wr 23 #[.int .i64 code, .int .i64 mods, .int .i64 ty, .int .i64 0, .int .i64 0, .string ⟨#[]⟩]
   have hBE := hB2.alloc hB2.size (.cells #[.int .i64 code, .int .i64 mods, .int .i64 ty, .int .i64 0, .int .i64 0, .string ⟨#[]⟩] 23)
   have hbE := hbw.alloc hbw.size (.cells #[.int .i64 code, .int .i64 mods, .int .i64 ty, .int .i64 0, .int .i64 0, .string ⟨#[]⟩] 23)
   have hv3 := H.invB hv hBE
   generalize wr.alloc (.cells #[.int .i64 code, .int .i64 mods, .int .i64 ty, .int .i64 0, .int .i64 0, .string ⟨#[]⟩] 23) = wE at *
   have HV : Hid (∀ W, Below wE.heap.size wE W → Inv W) := Lib.hid fun W hW => H.invB hv3 hW
   have lk : ∀ W, Below wE.heap.size wE W → Blk W wr.heap.size 23 #[.int .i64 code, .int .i64 mods, .int .i64 ty, .int .i64 0, .int .i64 0, .string ⟨#[]⟩] := fun W hW => kE.below hW kE.lt
   have hst : ∀ f ∈ ([⟨3, 33, FB L⟩, ⟨8, 38, FB L⟩] : List Fact), f.ok := List.forall_mem_cons.2 ⟨fb_ok _ _ _, List.forall_mem_cons.2 ⟨fb_ok _ _ _, fun _ h => by cases h⟩⟩
   clear hcode tm hv2 c0 c1
   refine wp_region_told (w1 := wE) (K := [⟨3, 33, FB L⟩, ⟨8, 38, FB L⟩]) (ix := 1000) (R0 := fun _ _ _ => True) (R1 := fun _ _ _ => True) [33, 38] (⟨#[.int .u8 flags, .int .u8 mods, .agg #[.int .u8 x0, .int .u8 x1], undef, undef, .pointer (some ⟨w.heap.size, 0, none⟩), u6, .bool true, .int .i64 (k : Int), .pointer (some ⟨wr.heap.size, 0, none⟩), .bool true, .int .i64 (k : Int), .bool true, u13, u14, .pointer (some ⟨w.heap.size, 0, none⟩), .int .u8 x0, .int .i64 x0, .int .i64 (k : Int), .int .i64 (x0 + (k : Int)), .int .i64 ((x0 + (k : Int)) % 120), .int .i64 code, .int .u8 mods, .int .i64 mods, .pointer (some ⟨w.heap.size, 1, none⟩), .int .u8 x1, .int .u8 (x1 % 3), .int .i64 (x1 % 3), .int .i64 ty, .agg #[.int .i64 code, .int .i64 mods, .int .i64 ty, .int .i64 0, .int .i64 0, .string ⟨#[]⟩], .int .u8 flags, .int .i64 flags, .agg #[.int .i64 code, .int .i64 mods, .int .i64 ty, .int .i64 0, .int .i64 0, .string ⟨#[]⟩], undef, .string ⟨L.toArray⟩, .int .u8 flags, .int .i64 flags, .agg #[.int .i64 code, .int .i64 mods, .int .i64 ty, .int .i64 0, .int .i64 0, .string ⟨#[]⟩], undef, .string ⟨L.toArray⟩, .bool false, undef], []⟩) (fun g => ⟨#[.int .u8 flags, .int .u8 mods, .agg #[.int .u8 x0, .int .u8 x1], undef, undef, .pointer (some ⟨w.heap.size, 0, none⟩), u6, .bool true, .int .i64 (k : Int), .pointer (some ⟨wr.heap.size, 0, none⟩), .bool true, .int .i64 (k : Int), .bool true, u13, u14, .pointer (some ⟨w.heap.size, 0, none⟩), .int .u8 x0, .int .i64 x0, .int .i64 (k : Int), .int .i64 (x0 + (k : Int)), .int .i64 ((x0 + (k : Int)) % 120), .int .i64 code, .int .u8 mods, .int .i64 mods, .pointer (some ⟨w.heap.size, 1, none⟩), .int .u8 x1, .int .u8 (x1 % 3), .int .i64 (x1 % 3), .int .i64 ty, .agg #[.int .i64 code, .int .i64 mods, .int .i64 ty, .int .i64 0, .int .i64 0, .string ⟨#[]⟩], .int .u8 flags, .int .i64 flags, .agg #[.int .i64 code, .int .i64 mods, .int .i64 ty, .int .i64 0, .int .i64 0, .string ⟨#[]⟩], (g 33), .string ⟨L.toArray⟩, .int .u8 flags, .int .i64 flags, .agg #[.int .i64 code, .int .i64 mods, .int .i64 ty, .int .i64 0, .int .i64 0, .string ⟨#[]⟩], (g 38), .string ⟨L.toArray⟩, .bool false, undef], []⟩) [.int .u8 flags, .int .i64 flags, .agg #[.int .i64 code, .int .i64 mods, .int .i64 ty, .int .i64 0, .int .i64 0, .string ⟨#[]⟩], undef, .string ⟨L.toArray⟩, .int .u8 flags, .int .i64 flags, .agg #[.int .i64 code, .int .i64 mods, .int .i64 ty, .int .i64 0, .int .i64 0, .string ⟨#[]⟩], undef, .string ⟨L.toArray⟩, .bool false] (by kernel_rfl) (by kernel_rfl) (by kernel_rfl) (fun g => by kernel_rfl) (by kernel_rfl) (Below.refl _ _).drew (by decide) (by kernel_rfl)
    (goes_cons (goesK_pure (fun _ => .int .u8 flags) rfl (by decide) (by decide) (by kernel_rfl) (fun g => by kernel_rfl) rfl (fun g => by kernel_rfl) (fun g w => by kernel_rfl))
    (goes_cons (goesK_pure (fun _ => .int .i64 flags) rfl (by decide) (by decide) (by kernel_rfl) (fun g => by kernel_rfl) rfl (fun g => by kernel_rfl) (fun g w => by go_simp))
    (goes_cons (goesK_load hst (ahead_none (by decide)) rfl (by decide) (by decide) (by kernel_rfl) (fun g => by kernel_rfl) rfl (fun g => by kernel_rfl) rfl (fun g => by kernel_rfl) lk Tryz.underlying23 rfl (by kernel_rfl))
    (goes_cons (goesK_ghost (args := fun g => #[.int .i64 flags, .agg #[.int .i64 code, .int .i64 mods, .int .i64 ty, .int .i64 0, .int .i64 0, .string ⟨#[]⟩]]) hst (ahead_none (by decide)) rfl (by decide) (by decide) 0 rfl (by kernel_rfl) (fun g => by kernel_rfl) rfl (fun g => by kernel_rfl) (fun g w => by kernel_rfl) (fun g W hW hin => fb_out (HKA.out W (HV.out W hW))))
    (goes_cons (goesK_str 0 rfl (by kernel_rfl) Tryz.underlying27 Tryz.underlying5 Tryz.underlying9 hst (ahead_none (by decide)) rfl (by decide) (by decide) (by kernel_rfl) (fun g => by kernel_rfl) rfl (fun g => by kernel_rfl) rfl (fun g => by kernel_rfl))
    (goes_cons (goesK_pure (fun _ => .int .u8 flags) rfl (by decide) (by decide) (by kernel_rfl) (fun g => by kernel_rfl) rfl (fun g => by kernel_rfl) (fun g w => by kernel_rfl))
    (goes_cons (goesK_pure (fun _ => .int .i64 flags) rfl (by decide) (by decide) (by kernel_rfl) (fun g => by kernel_rfl) rfl (fun g => by kernel_rfl) (fun g w => by go_simp))
    (goes_cons (goesK_load hst (ahead_none (by decide)) rfl (by decide) (by decide) (by kernel_rfl) (fun g => by kernel_rfl) rfl (fun g => by kernel_rfl) rfl (fun g => by kernel_rfl) lk Tryz.underlying23 rfl (by kernel_rfl))
    (goes_cons (goesK_ghost (args := fun g => #[.int .i64 flags, .agg #[.int .i64 code, .int .i64 mods, .int .i64 ty, .int .i64 0, .int .i64 0, .string ⟨#[]⟩]]) hst (ahead_none (by decide)) rfl (by decide) (by decide) 1 rfl (by kernel_rfl) (fun g => by kernel_rfl) rfl (fun g => by kernel_rfl) (fun g w => by kernel_rfl) (fun g W hW hin => fb_out (HKB.out W)))
    (goes_cons (goesK_str 1 rfl (by kernel_rfl) Tryz.underlying27 Tryz.underlying5 Tryz.underlying9 hst (ahead_none (by decide)) rfl (by decide) (by decide) (by kernel_rfl) (fun g => by kernel_rfl) rfl (fun g => by kernel_rfl) rfl (fun g => by kernel_rfl))
    (goes_cons (goesK_bin (v := .bool false) (xv := .string ⟨L.toArray⟩) (yv := .string ⟨L.toArray⟩) rfl (by decide) (by decide) (by kernel_rfl) (fun g => by kernel_rfl) rfl (fun g => by kernel_rfl) rfl (fun g => by kernel_rfl) (fun g => by kernel_rfl) (fun w => by go_simp)) goes_nil))))))))))) ?_
   intro g W hW _
   go_wp2_with fail
   go_roundw
   case rel => exact ⟨k + 1, by omega, by go_num, hbE.trans (hW.mono hbE.size)⟩
   case measure => simp [intOf]; omega
  ·obtain rfl : k = 30 := by omega
   go_wp2_with fail
   go_ret
   exact ⟨rfl, hB2⟩
end Go.Proofs.YtdfojkbgdoiglaaGreatDoor
