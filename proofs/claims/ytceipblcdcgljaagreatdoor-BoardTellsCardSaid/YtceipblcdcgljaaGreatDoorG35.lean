/-
  Layer 13, walked: the document's Key. Layer 12, walked: the document's functions but Back. Layer 11, walked: the document's functional keys, and Key.
-/
import Derived.Test.YtceipblcdcgljaaGreatDoorG13
import Derived.Test.YtceipblcdcgljaaGreatDoorG18
import Derived.Test.YtceipblcdcgljaaGreatDoorG29
import Derived.Test.YtceipblcdcgljaaGreatDoorG30
import Derived.Test.YtceipblcdcgljaaGreatDoorG32
import Derived.Test.YtceipblcdcgljaaGreatDoorG33
import Derived.Test.YtceipblcdcgljaaGreatDoorG34
namespace Go.Proofs.YtceipblcdcgljaaGreatDoor
open Go.RowKit
theorem out_is13 {L L' : List UInt8} {w w' : World} {e : Ending} (h : L = L') (ho : Out L' w e w') : Out L w e w' := h ▸ ho
theorem sent_may {f : Int} {k : Ky} (h : sentK f k = true) : mayK k = true := by
 unfold sentK at h
 cases hm : mayK k with
 | true => rfl
 | false => rw [hm] at h; cases h
theorem keyed_rng {c : Int} (h : keyedK c = true) : 0 ≤ c ∧ c < 256 := by
 unfold keyedK at h
 simp only [Bool.or_eq_true, beq_iff_eq] at h
 omega
theorem rputk_any (f : Int) {k : Ky} (h : mayK k = true) (A : Option Addr) (c : Nat) (w : World) (hr : RdP w A (paramsK f k)) :
 Calls Tryz.prog 42 #[.agg #[.int .i64 1, .int .u8 0, .slice A (paramsK f k).length c, .string ⟨#[]⟩, .int .u8 (frmK k.code).2, .string ⟨#[]⟩]] w (PutE 0 (putK f k) w) := by
 obtain ⟨⟨k1, _, _, _, _⟩, _⟩ := (may_parts k).1 h
 have hrg := frm_rng k1
 have hm := may_kit f h
 obtain ⟨_, _, hpo, _⟩ := ok_parts hm
 have hp := (parOk_lens hpo).1
 have e : sqV (sqK f k) A c = .agg #[.int .i64 1, .int .u8 0, .slice A (paramsK f k).length c, .string ⟨#[]⟩, .int .u8 (frmK k.code).2, .string ⟨#[]⟩] := by
  unfold sqV
  show Value.agg #[.int .i64 1, .int .u8 0, .slice A (paramsK f k).length c, .string ⟨#[]⟩, .int .u8 ((byt (frmK k.code).2).toNat : Int), .string ⟨#[]⟩] = _
  rw [byt_nat _ (by omega) (by omega)]
 rw [← e]
 exact rputE_any (sqK f k) A c 0 (putK f k) w hm rfl (Nat.le_trans hp (by decide)) (by simp [sqK]) hr
set_option maxRecDepth 100000 in
set_option maxHeartbeats 16000000 in
theorem rkey13_any (f : Int) (k : Ky) (hk : okK k) (hs : k.text.size ≤ 4294967296) (w : World) : Calls Tryz.prog 19 #[.int .i64 f, kyV k] w (Out (kitL f k) w) := by
 obtain ⟨v, hv⟩ : ∃ v, sentK f k = v := ⟨_, rfl⟩
 obtain ⟨f8, hf8⟩ : ∃ v, flagK f 8 = v := ⟨_, rfl⟩
 obtain ⟨tx, has⟩ : ∃ v, astextK k = v := ⟨_, rfl⟩
 obtain ⟨q, hq⟩ : ∃ v, keyedK k.code = v := ⟨_, rfl⟩
 obtain ⟨sh, hsh⟩ : ∃ v, shownK k = v := ⟨_, rfl⟩
 obtain ⟨ps, hps⟩ : ∃ v, paramsK f k = v := ⟨_, rfl⟩
 obtain ⟨ff, hff⟩ : ∃ v, (frmK k.code).2 = v := ⟨_, rfl⟩
 obtain ⟨np, hnp⟩ : ∃ v, ps.length = v := ⟨_, rfl⟩
 obtain ⟨PB, hPB⟩ : ∃ v, putK f k = v := ⟨_, rfl⟩
 obtain ⟨te, hte⟩ : ∃ b, decide (k.text.data.toList = []) = b := ⟨_, rfl⟩
 have HSN : Hid (∀ W, Calls Tryz.prog 36 #[.int .i64 f, kyV k] W fun e w' => e = .returned (.bool v) ∧ Below W.heap.size W w') := Lib.hid fun W => by rw [← hv]; exact rsent_any f k hs W
 have HF8 : Hid (∀ W, Calls Tryz.prog 37 #[.int .i64 f, .int .i64 8] W fun e w' => e = .returned (.bool f8) ∧ Below W.heap.size W w') := Lib.hid fun W => by rw [← hf8]; exact rflag_any f 8 (by decide) (by decide) W
 have HAS : Hid (v = true → ∀ W, Calls Tryz.prog 38 #[kyV k] W fun e w' => e = .returned (.bool tx) ∧ Below W.heap.size W w') := Lib.hid fun h W => by
  rw [h] at hv
  obtain ⟨⟨_, m0, m1, _, _⟩, _⟩ := (may_parts k).1 (sent_may hv)
  rw [← has]
  exact rastext_any k m0 m1 W
 have HKD : Hid (∀ W, Calls Tryz.prog 39 #[.int .i64 k.code] W fun e w' => e = .returned (.bool q) ∧ Below W.heap.size W w') := Lib.hid fun W => by rw [← hq]; exact rkeyed_any k.code W
 have HSH : Hid (∀ W, Calls Tryz.prog 41 #[kyV k] W fun e w' => e = .returned (.int .i64 sh) ∧ Below W.heap.size W w') := Lib.hid fun W => by rw [← hsh]; exact rshown_any k hk W
 have HSQ : Hid (v = true → ∀ W, Calls Tryz.prog 43 #[.int .i64 f, kyV k] W (SeqO ps np ff W)) := Lib.hid fun h W => by
  rw [h] at hv
  have := rseq13_any f k (sent_may hv) hs W
  rw [hps, hff, hnp] at this
  exact this
 have HPT : Hid (v = true → ∀ (A : Option Addr) (c : Nat) (W : World), RdP W A ps → Calls Tryz.prog 42 #[.agg #[.int .i64 1, .int .u8 0, .slice A np c, .string ⟨#[]⟩, .int .u8 ff, .string ⟨#[]⟩]] W (PutE 0 PB W)) := Lib.hid fun h A c W hr => by
  rw [h] at hv
  have := rputk_any f (sent_may hv) A c W (by rw [hps]; exact hr)
  rw [hps, hnp, hff, hPB] at this
  exact this
 have tl : k.text.toList.isEmpty = te := by
  rw [ByteArray.toList_eq, ← hte]
  cases k.text.data.toList <;> simp
 have HQR : Hid (q = true → 0 ≤ k.code ∧ k.code < 256) := Lib.hid fun h => by rw [h] at hq; exact keyed_rng hq
 have HC := Lib.hid (show kitL f k = if v = false then [] else if f8 = false ∧ k.typ ≠ 3 ∧ tx = true then (if q = true then [byt k.code] else if te = false then k.text.data.toList else putL sh) else PB by
  unfold kitL plainK
  rw [hv, hf8, has, hq, hsh, hPB, ← hte]
  simp only [decide_eq_false_iff_not, ne_eq])
 obtain ⟨R, hR⟩ : ∃ R, kitL f k = R := ⟨_, rfl⟩
 rw [hR] at HC ⊢
 have HTS := Lib.hid hs
 clear hv hf8 has hq hsh hps hff hnp hPB hte hR hk hs
 obtain ⟨code, mods, typ, shift, base, text⟩ := k
 simp only [kyV] at HSN HAS HKD HSH HSQ HC HQR HTS tl ⊢
 have k0 := Blk.new w 25 #[.int .i64 code, .int .i64 mods, .int .i64 typ, .int .i64 shift, .int .i64 base, .string text]
 have hB : Below w.heap.size w (w.alloc (.cells #[.int .i64 code, .int .i64 mods, .int .i64 typ, .int .i64 shift, .int .i64 base, .string text] 25)) := (Below.refl _ w).alloc (Nat.le_refl _) _
 obtain ⟨a0, a1, a2, a3, a4, a5⟩ := Blk.cells6 k0
 go_enter Tryz.func19, Tryz.ntmps19
 go_wp2_with fail
 refine (HSN.out _).mono ?_
 rintro e w1 ⟨rfl, hb1⟩
 have k1 := k0.below hb1 k0.lt
 have hB1 := hB.trans (hb1.mono hB.size)
 clear k0 hB hb1 a0 a1 a2 a3 a4 a5 HSN
 cases v with
 | false =>
   have HR := Lib.hid (show R = [] from HC.out)
   clear HC
   go_wp2_with fail
   go_ret
   exact out_is13 HR.out ⟨none, 0, rfl, Rd.nil _ _, hB1⟩
 | true =>
 have GAS := Lib.hid (HAS.out rfl)
 have GSQ := Lib.hid (HSQ.out rfl)
 have GPT := Lib.hid (HPT.out rfl)
 have HC2 := Lib.hid (show R = if f8 = false ∧ typ ≠ 3 ∧ tx = true then (if q = true then [byt code] else if te = false then text.data.toList else putL sh) else PB by rw [HC.out]; simp)
 clear HAS HSQ HPT HC
 go_wp2_with fail
 refine (HF8.out _).mono ?_
 rintro e w2 ⟨rfl, hb2⟩
 have k2 := k1.below hb2 k1.lt
 have hB2 := hB1.trans (hb2.mono hB1.size)
 clear k1 hB1 hb2 HF8
 obtain ⟨a0, a1, a2, a3, a4, a5⟩ := Blk.cells6 k2
 cases f8 with
 | true =>
   have HR := Lib.hid (show R = PB by rw [HC2.out]; simp)
   clear HC2
   go_wp2_with fail
   refine (GSQ.out _).mono ?_
   rintro e w8 ⟨A8, c8, rfl, hr8, hb8⟩
   have hB8 := hB2.trans (hb8.mono hB2.size)
   go_wp2_with fail
   refine (GPT.out A8 c8 _ hr8).mono ?_
   rintro e w9 ⟨⟨A9, c9, rfl, _, hr9⟩, hb9⟩
   have hB9 := hB8.trans (hb9.mono hB8.size)
   clear hr8 hb8 hB8 hb9
   go_wp2_with fail
   go_ret
   exact out_is13 HR.out ⟨A9, c9, rfl, hr9, hB9⟩
 | false =>
 by_cases ht3 : typ = 3
 ·have HR := Lib.hid (show R = PB by rw [HC2.out, if_neg (fun e => e.2.1 ht3)])
  subst ht3
  clear HC2
  go_wp2_with fail
  refine (GSQ.out _).mono ?_
  rintro e w8 ⟨A8, c8, rfl, hr8, hb8⟩
  have hB8 := hB2.trans (hb8.mono hB2.size)
  go_wp2_with fail
  refine (GPT.out A8 c8 _ hr8).mono ?_
  rintro e w9 ⟨⟨A9, c9, rfl, _, hr9⟩, hb9⟩
  have hB9 := hB8.trans (hb9.mono hB8.size)
  clear hr8 hb8 hB8 hb9
  go_wp2_with fail
  go_ret
  exact out_is13 HR.out ⟨A9, c9, rfl, hr9, hB9⟩
 have y0 : (typ == 3) = false := beq_false_of_ne ht3
 have y1 : (typ != 3) = true := by simp [bne, y0]
 have HC3 := Lib.hid (show R = if tx = true then (if q = true then [byt code] else if te = false then text.data.toList else putL sh) else PB by
  rw [HC2.out]
  cases tx with
  | true => rw [if_pos ⟨rfl, ht3, rfl⟩, if_pos rfl]
  | false => rw [if_neg (fun e => by cases e.2.2), if_neg (by decide)])
 clear HC2 ht3
 go_wp2_with fail
 refine (GAS.out _).mono ?_
 rintro e w3 ⟨rfl, hb3⟩
 have k3 := k2.below hb3 k2.lt
 have hB3 := hB2.trans (hb3.mono hB2.size)
 clear k2 hB2 hb3 a0 a1 a2 a3 a4 a5 GAS
 obtain ⟨a0, a1, a2, a3, a4, a5⟩ := Blk.cells6 k3
 cases tx with
 | false =>
   have HR := Lib.hid (show R = PB from HC3.out)
   clear HC3
   go_wp2_with fail
   refine (GSQ.out _).mono ?_
   rintro e w8 ⟨A8, c8, rfl, hr8, hb8⟩
   have hB8 := hB3.trans (hb8.mono hB3.size)
   go_wp2_with fail
   refine (GPT.out A8 c8 _ hr8).mono ?_
   rintro e w9 ⟨⟨A9, c9, rfl, _, hr9⟩, hb9⟩
   have hB9 := hB8.trans (hb9.mono hB8.size)
   clear hr8 hb8 hB8 hb9
   go_wp2_with fail
   go_ret
   exact out_is13 HR.out ⟨A9, c9, rfl, hr9, hB9⟩
 | true =>
 have HC4 := Lib.hid (show R = if q = true then [byt code] else if te = false then text.data.toList else putL sh from HC3.out)
 clear HC3 GSQ GPT
 go_wp2_with fail
 refine (HKD.out _).mono ?_
 rintro e w4 ⟨rfl, hb4⟩
 have k4 := k3.below hb4 k3.lt
 have hB4 := hB3.trans (hb4.mono hB3.size)
 clear k3 hB3 hb4 a0 a1 a2 a3 a4 a5 HKD
 obtain ⟨a0, a1, a2, a3, a4, a5⟩ := Blk.cells6 k4
 cases q with
 | true =>
   have HR := Lib.hid (show R = [byt code] from HC4.out)
   obtain ⟨c0, c1⟩ := HQR.out rfl
   have hw : IntKind.u8.wrap code = code := by rw [IntKind.wrap_u8]; omega
   clear HC4 HQR
   go_wp2_with fail
   go_ret
   exact out_is13 HR.out ⟨_, _, rfl, Rd.block (heap_alloc_new w4 _) (by rw [bs1 code c0 c1]; rfl), hB4.alloc hB4.size _⟩
 | false =>
 cases te with
 | false =>
   have HR := Lib.hid (show R = text.data.toList from HC4.out)
   clear HC4
   have hms : text.size ≤ maxLen := by have := HTS.out; simp only [maxLen]; omega
   have hs4 := hB4.size
   go_wp2_with (first | ((with_reducible refine list_conv _ rfl (.tmp 34) 9 27 rfl w.heap.size 5 text ?_ Tryz.underlying9 Tryz.underlying27 Tryz.underlying5 hms hs4 ?_); rfl; intro v5 w5 own5 hg5))
   go_ret
   exact out_is13 HR.out (out_own own5 (hB4.trans ((below_none hg5).mono hB4.size)))
 | true =>
   have HR := Lib.hid (show R = putL sh from HC4.out)
   clear HC4
   go_wp2_with fail
   refine (HSH.out _).mono ?_
   rintro e w5 ⟨rfl, hb5⟩
   have hB5 := hB4.trans (hb5.mono hB4.size)
   clear a0 a1 a2 a3 a4 a5 k4
   go_wp2_with fail
   refine (rPut_any sh _).mono ?_
   rintro e w6 ⟨A6, c6, rfl, hr6, hb6⟩
   go_wp2_with fail
   go_ret
   exact out_is13 HR.out ⟨A6, c6, rfl, hr6, hB5.trans (hb6.mono hB5.size)⟩
set_option maxRecDepth 100000 in
set_option maxHeartbeats 4000000 in
theorem rchar_any (k : Ky) (hk : okK k) (w : World) : Calls Tryz.prog 46 #[kyV k] w fun e w' => e = .returned (.int .i64 (charK k)) ∧ Below w.heap.size w w' := by
 obtain ⟨ki, hki⟩ : ∃ q, (lookE k.code).kind = q := ⟨_, rfl⟩
 have hf : ∀ W : World, (Instr.field 53 (enV (lookE k.code)) 0).run Tryz.prog W = .ok (.int .i64 ki) W := fun W => by
  rw [← hki]
  exact (by kernel_rfl : (Instr.field 53 (enV (lookE k.code)) 0).run Tryz.prog W = .ok (.int .i64 (lookE k.code).kind) W)
 have HLK : Hid (∀ W, Calls Tryz.prog 22 #[.int .i64 k.code] W fun e w' => e = .returned (enV (lookE k.code)) ∧ Below W.heap.size W w') := Lib.hid fun W => rlook_any k.code W
 have HSH : Hid (∀ W, Calls Tryz.prog 41 #[kyV k] W fun e w' => e = .returned (.int .i64 (shownK k)) ∧ Below W.heap.size W w') := Lib.hid fun W => rshown_any k hk W
 obtain ⟨t, ht⟩ : ∃ t, (ki == 1) = t := ⟨_, rfl⟩
 have HC := Lib.hid (show charK k = if t = true then shownK k else k.code by unfold charK; rw [hki, ← ht]; simp)
 obtain ⟨R, hR⟩ : ∃ R, charK k = R := ⟨_, rfl⟩
 obtain ⟨sh, hsh⟩ : ∃ x, shownK k = x := ⟨_, rfl⟩
 obtain ⟨E, hE⟩ : ∃ E, enV (lookE k.code) = E := ⟨_, rfl⟩
 rw [hE] at HLK hf
 rw [hR] at HC ⊢
 rw [hsh] at HSH HC
 clear hki hE hR hsh hk
 obtain ⟨code, mods, typ, shift, base, text⟩ := k
 simp only [kyV] at HSH HLK HC ⊢
 have k0 := Blk.new w 25 #[.int .i64 code, .int .i64 mods, .int .i64 typ, .int .i64 shift, .int .i64 base, .string text]
 have hB : Below w.heap.size w (w.alloc (.cells #[.int .i64 code, .int .i64 mods, .int .i64 typ, .int .i64 shift, .int .i64 base, .string text] 25)) := (Below.refl _ w).alloc (Nat.le_refl _) _
 have a0 := k0.cell 0
 go_enter Tryz.func46, Tryz.ntmps46
 go_wp2_with fail
 refine (HLK.out _).mono ?_
 rintro e w1 ⟨rfl, hb1⟩
 have k1 := k0.below hb1 k0.lt
 have hB1 := hB.trans (hb1.mono hB.size)
 clear HLK k0 hB hb1 a0
 obtain ⟨a0, a1, a2, a3, a4, a5⟩ := Blk.cells6 k1
 cases t with
 | true =>
   have HR := Lib.hid (show R = sh from HC.out)
   clear HC
   go_wp2_with fail
   refine (HSH.out _).mono ?_
   rintro e w2 ⟨rfl, hb2⟩
   go_wp2_with fail
   go_ret
   exact ⟨ret_i HR.out.symm, hB1.trans (hb2.mono hB1.size)⟩
 | false =>
   have HR := Lib.hid (show R = code from HC.out)
   clear HC
   go_wp2_with fail
   go_ret
   exact ⟨ret_i HR.out.symm, hB1⟩
set_option maxRecDepth 100000 in
set_option maxHeartbeats 4000000 in
theorem rless_any (k : Ky) (hk : okK k) (w : World) : Calls Tryz.prog 45 #[kyV k] w fun e w' => e = .returned (.bool (lessK k)) ∧ Below w.heap.size w w' := by
 obtain ⟨ki, hki⟩ : ∃ q, (lookE k.code).kind = q := ⟨_, rfl⟩
 have hf : ∀ W : World, (Instr.field 53 (enV (lookE k.code)) 0).run Tryz.prog W = .ok (.int .i64 ki) W := fun W => by
  rw [← hki]
  exact (by kernel_rfl : (Instr.field 53 (enV (lookE k.code)) 0).run Tryz.prog W = .ok (.int .i64 (lookE k.code).kind) W)
 have HLK : Hid (∀ W, Calls Tryz.prog 22 #[.int .i64 k.code] W fun e w' => e = .returned (enV (lookE k.code)) ∧ Below W.heap.size W w') := Lib.hid fun W => rlook_any k.code W
 have HSH : Hid (∀ W, Calls Tryz.prog 41 #[kyV k] W fun e w' => e = .returned (.int .i64 (shownK k)) ∧ Below W.heap.size W w') := Lib.hid fun W => rshown_any k hk W
 have H4 : Hid (∀ W, Calls Tryz.prog 82 #[.int .i64 k.mods, .int .i64 4] W fun e w' => e = .returned (.bool (hasN k.mods 4)) ∧ Below W.heap.size W w') := Lib.hid fun W => rhas10_any k.mods 4 (by decide) (by decide) hk.mods.2 W
 have H1 : Hid (∀ W, Calls Tryz.prog 82 #[.int .i64 k.mods, .int .i64 1] W fun e w' => e = .returned (.bool (hasN k.mods 1)) ∧ Below W.heap.size W w') := Lib.hid fun W => rhas10_any k.mods 1 (by decide) (by decide) hk.mods.2 W
 obtain ⟨t, ht⟩ : ∃ t, (ki == 2) = t := ⟨_, rfl⟩
 obtain ⟨c4, h4⟩ : ∃ x, hasN k.mods 4 = x := ⟨_, rfl⟩
 obtain ⟨c1, h1⟩ : ∃ x, hasN k.mods 1 = x := ⟨_, rfl⟩
 obtain ⟨sh, hsh⟩ : ∃ x, shownK k = x := ⟨_, rfl⟩
 obtain ⟨fv, hfv⟩ : ∃ x, (foldN sh).1 = x := ⟨_, rfl⟩
 obtain ⟨fb, hfb⟩ : ∃ x, (foldN sh).2 = x := ⟨_, rfl⟩
 have HF : Hid (∀ W, Calls Tryz.prog 88 #[.int .i64 sh] W fun e w' => e = .returned (.tuple #[.int .i64 fv, .bool fb]) ∧ Below W.heap.size W w') := Lib.hid fun W => by
  have := rfold_any sh W
  rwa [hfv, hfb] at this
 obtain ⟨t9, h9⟩ : ∃ x, (k.code == 9) = x := ⟨_, rfl⟩
 obtain ⟨t13, h13⟩ : ∃ x, (k.code == 13) = x := ⟨_, rfl⟩
 have HC := Lib.hid (show lessK k = (c4 && if t = true then t9 || t13 else c1 || !fb) by
  unfold lessK
  rw [hki, h4, h1, hsh, hfb, h9, h13, ← ht]
  simp)
 obtain ⟨R, hR⟩ : ∃ R, lessK k = R := ⟨_, rfl⟩
 obtain ⟨E, hE⟩ : ∃ E, enV (lookE k.code) = E := ⟨_, rfl⟩
 rw [hE] at HLK hf
 rw [hR] at HC ⊢
 rw [hsh] at HSH
 rw [h4] at H4
 rw [h1] at H1
 clear hki hE hR hsh hk h4 h1 hfv hfb
 obtain ⟨code, mods, typ, shift, base, text⟩ := k
 simp only [kyV] at HSH HLK HC H4 H1 h9 h13 ⊢
 have k0 := Blk.new w 25 #[.int .i64 code, .int .i64 mods, .int .i64 typ, .int .i64 shift, .int .i64 base, .string text]
 have hB : Below w.heap.size w (w.alloc (.cells #[.int .i64 code, .int .i64 mods, .int .i64 typ, .int .i64 shift, .int .i64 base, .string text] 25)) := (Below.refl _ w).alloc (Nat.le_refl _) _
 have a1 := k0.cell 1
 go_enter Tryz.func45, Tryz.ntmps45
 go_wp2_with fail
 refine (H4.out _).mono ?_
 rintro e w1 ⟨rfl, hb1⟩
 have k1 := k0.below hb1 k0.lt
 have hB1 := hB.trans (hb1.mono hB.size)
 clear k0 hB hb1 a1 H4
 have a0 := k1.cell 0
 cases c4 with
 | false =>
   have HR := Lib.hid (show R = false from HC.out)
   clear HC
   go_wp2_with fail
   go_ret
   exact ⟨ret_b HR.out.symm, hB1⟩
 | true =>
   go_wp2_with fail
   refine (HLK.out _).mono ?_
   rintro e w2 ⟨rfl, hb2⟩
   have k2 := k1.below hb2 k1.lt
   have hB2 := hB1.trans (hb2.mono hB1.size)
   clear k1 hB1 hb2 a0 HLK
   obtain ⟨a0, a1, a2, a3, a4, a5⟩ := Blk.cells6 k2
   cases t with
   | true =>
     have HR := Lib.hid (show R = (t9 || t13) from HC.out)
     clear HC
     cases t9 with
     | true =>
       go_wp2_with fail
       go_ret
       exact ⟨ret_b HR.out.symm, hB2⟩
     | false =>
       go_wp2_with fail
       go_ret
       exact ⟨ret_b HR.out.symm, hB2⟩
   | false =>
     have HR := Lib.hid (show R = (c1 || !fb) from HC.out)
     clear HC
     go_wp2_with fail
     refine (HSH.out _).mono ?_
     rintro e w3 ⟨rfl, hb3⟩
     have k3 := k2.below hb3 k2.lt
     have hB3 := hB2.trans (hb3.mono hB2.size)
     clear k2 hB2 hb3 a0 a1 a2 a3 a4 a5 HSH
     go_wp2_with fail
     refine (HF.out _).mono ?_
     rintro e w4 ⟨rfl, hb4⟩
     have k4 := k3.below hb4 k3.lt
     have hB4 := hB3.trans (hb4.mono hB3.size)
     clear k3 hB3 hb4 HF
     have a1 := k4.cell 1
     go_wp2_with fail
     refine (H1.out _).mono ?_
     rintro e w5 ⟨rfl, hb5⟩
     have hB5 := hB4.trans (hb5.mono hB4.size)
     cases c1 with
     | true =>
       go_wp2_with fail
       go_ret
       exact ⟨ret_b HR.out.symm, hB5⟩
     | false =>
       go_wp2_with fail
       go_ret
       exact ⟨ret_b HR.out.symm, hB5⟩
theorem seq_lit {w W : World} (kind f : Int) (f0 : 0 ≤ f) (f1 : f < 256) (L : List Int) (cs : Array Value) (hcs : cs = (is_ L).toArray) (n : Nat) (hn : L.length = n) (hl : n ≤ 30) (g : Nat) (hg : W.heap.size = g) (hb : Below w.heap.size w W) :
 Calls Tryz.prog 47 #[.int .i64 kind, .int .u8 f, .slice (some ⟨g, 0, none⟩) n n] (W.alloc (.cells cs 3)) (Out (seqB kind f L) w) := by
 subst hg hcs
 refine (rseq11_any kind f f0 f1 _ L n n hn hl _ (Rd.block (heap_alloc_new W _) (by simp))).mono ?_
 intro e w' h
 exact out_step (hb.alloc hb.size _) h
theorem seq_none {w W : World} (kind f : Int) (f0 : 0 ≤ f) (f1 : f < 256) (hb : Below w.heap.size w W) :
 Calls Tryz.prog 47 #[.int .i64 kind, .int .u8 f, .slice none 0 0] W (Out (seqB kind f []) w) :=
 (rseq11_any kind f f0 f1 none [] 0 0 rfl (by decide) W (Rd.nil _ _)).mono fun _ _ h => out_step hb h
set_option maxRecDepth 100000 in
set_option maxHeartbeats 4000000 in
theorem rfunc_any (m : Mo) (e : En) (o : Int) (f0 : 0 ≤ e.fin) (f1 : e.fin < 256) (o0 : 0 ≤ o) (o1 : o < 8) (w : World) :
 Calls Tryz.prog 51 #[moV m, enV e, .int .i64 o] w (Out (funcG m e o) w) := by
 have hB0 : Below w.heap.size w ((w.alloc (.cells #[.bool m.cursor, .bool m.keypad, .bool m.back, .bool m.focus, .bool m.paste, .bool m.lock, .bool m.line, .int .i64 m.mouse, .int .i64 m.coding, .int .i64 m.other] 23)).alloc (.cells #[.int .i64 e.kind, .int .u8 e.fin, .int .i64 e.num, .int .i64 e.char, .bool e.keys] 53)) := ((Below.refl _ w).alloc (Nat.le_refl _) _).alloc (by simp) _
 have k2 := (Blk.new w 23 #[.bool m.cursor, .bool m.keypad, .bool m.back, .bool m.focus, .bool m.paste, .bool m.lock, .bool m.line, .int .i64 m.mouse, .int .i64 m.coding, .int .i64 m.other]).alloc (.cells #[.int .i64 e.kind, .int .u8 e.fin, .int .i64 e.num, .int .i64 e.char, .bool e.keys] 53)
 have k3 := Blk.new (w.alloc (.cells #[.bool m.cursor, .bool m.keypad, .bool m.back, .bool m.focus, .bool m.paste, .bool m.lock, .bool m.line, .int .i64 m.mouse, .int .i64 m.coding, .int .i64 m.other] 23)) 53 #[.int .i64 e.kind, .int .u8 e.fin, .int .i64 e.num, .int .i64 e.char, .bool e.keys]
 rw [World.size_alloc] at k3
 obtain ⟨R, hR⟩ : ∃ R, funcG m e o = R := ⟨_, rfl⟩
 have HG := Lib.hid (show R = if e.kind = 4 then (if o = 0 then seqB 1 126 [e.num] else seqB 1 126 [e.num, 1 + o]) else if 0 < o then seqB 1 e.fin [1, 1 + o] else if (m.cursor || decide (80 ≤ e.fin)) = true then seqB 2 e.fin [] else seqB 1 e.fin [] by rw [← hR]; rfl)
 rw [hR, moV, enV]
 clear hR
 obtain ⟨K, F, N, C, B⟩ := e
 obtain ⟨m0, m1, m2, m3, m4, m5, m6, m7, m8, m9⟩ := m
 simp only at hB0 k2 k3 HG f0 f1 ⊢
 obtain ⟨a0, a1, a2, a3, a4⟩ := Blk.cells5 k3
 have c0 := k2.cell 0
 by_cases h4 : K = 4
 ·subst h4
  have HA := Lib.hid (HG.out.trans (if_pos rfl))
  clear HG
  by_cases ho : o = 0
  ·subst ho
   have E := Lib.hid (HA.out.trans (if_pos rfl))
   clear HA o0 o1
   go_enter Tryz.func51, Tryz.ntmps51
   go_wp2_with fail
   refine (seq_lit 1 126 (by decide) (by decide) [N] _ rfl 1 rfl (by decide) _ (by simp) hB0).mono ?_
   rintro e w2 ⟨A, c, rfl, hr2, hb2⟩
   go_wp2_with fail
   go_ret
   exact out_is E.out ⟨A, c, rfl, hr2, hb2⟩
  ·have to_ : (o == 0) = false := beq_false_of_ne ho
   have E := Lib.hid (HA.out.trans (if_neg ho))
   clear HA ho
   go_enter Tryz.func51, Tryz.ntmps51
   go_wp2_with fail
   refine (seq_lit 1 126 (by decide) (by decide) [N, 1 + o] _ rfl 2 rfl (by decide) _ (by simp) hB0).mono ?_
   rintro e w2 ⟨A, c, rfl, hr2, hb2⟩
   go_wp2_with fail
   go_ret
   exact out_is E.out ⟨A, c, rfl, hr2, hb2⟩
 ·have t4 : (K == 4) = false := beq_false_of_ne h4
  have HA := Lib.hid (HG.out.trans (if_neg h4))
  clear HG h4
  by_cases ho : 0 < o
  ·have E := Lib.hid (HA.out.trans (if_pos ho))
   clear HA
   go_enter Tryz.func51, Tryz.ntmps51
   go_wp2_with fail
   refine (seq_lit 1 F f0 f1 [1, 1 + o] _ rfl 2 rfl (by decide) _ (by simp) hB0).mono ?_
   rintro e w2 ⟨A, c, rfl, hr2, hb2⟩
   go_wp2_with fail
   go_ret
   exact out_is E.out ⟨A, c, rfl, hr2, hb2⟩
  ·obtain rfl : o = 0 := by omega
   have HB := Lib.hid (HA.out.trans (if_neg ho))
   clear HA ho o0 o1
   cases m0 with
   | true =>
     have E := Lib.hid (HB.out.trans (if_pos rfl))
     clear HB
     go_enter Tryz.func51, Tryz.ntmps51
     go_wp2_with fail
     refine (seq_none 2 F f0 f1 hB0).mono ?_
     rintro e w2 ⟨A, c, rfl, hr2, hb2⟩
     go_wp2_with fail
     go_ret
     exact out_is E.out ⟨A, c, rfl, hr2, hb2⟩
   | false =>
     by_cases hF : 80 ≤ F
     ·have E := Lib.hid (HB.out.trans (if_pos (by simp [hF])))
      clear HB
      go_enter Tryz.func51, Tryz.ntmps51
      go_wp2_with fail
      refine (seq_none 2 F f0 f1 hB0).mono ?_
      rintro e w2 ⟨A, c, rfl, hr2, hb2⟩
      go_wp2_with fail
      go_ret
      exact out_is E.out ⟨A, c, rfl, hr2, hb2⟩
     ·have hF2 : F < 80 := by omega
      have E := Lib.hid (HB.out.trans (if_neg (by simp [hF2])))
      clear HB hF
      go_enter Tryz.func51, Tryz.ntmps51
      go_wp2_with fail
      refine (seq_none 1 F f0 f1 hB0).mono ?_
      rintro e w2 ⟨A, c, rfl, hr2, hb2⟩
      go_wp2_with fail
      go_ret
      exact out_is E.out ⟨A, c, rfl, hr2, hb2⟩
end Go.Proofs.YtceipblcdcgljaaGreatDoor
