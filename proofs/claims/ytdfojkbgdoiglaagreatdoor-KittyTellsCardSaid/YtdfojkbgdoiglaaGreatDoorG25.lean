/-
  Layer 13, walked: the document's Form, flag, keyed, astext, sent.
  Cut out of KitR. Layer 13, walked: the document's Form, flag, keyed, astext, sent. In a drawn region whose calls answer what the run alone tells: a value that is known by these answers; bytes that such an answer is, made a string. Layer 3, walked: the program's reader: skip, run, one, part.
  Cut out of RdA. A drawn region that lays one new block and stores known cells into it, last; and whose calls answer what the run alone tells. Cut out of KitO: what names no function of any dump.
-/
import Derived.Test.YtdfojkbgdoiglaaGreatDoorG02
import Derived.Test.YtdfojkbgdoiglaaGreatDoorG05
import Derived.Test.YtdfojkbgdoiglaaGreatDoorG07
import Derived.Test.YtdfojkbgdoiglaaGreatDoorG08
import Derived.Test.YtdfojkbgdoiglaaGreatDoorG09
import Derived.Test.YtdfojkbgdoiglaaGreatDoorG14
import Derived.Test.YtdfojkbgdoiglaaGreatDoorG19
import Derived.Test.YtdfojkbgdoiglaaGreatDoorG20
import Derived.Test.YtdfojkbgdoiglaaGreatDoorG24
import Derived.Deep.Cut
import Derived.Deep.QuietTactic
import Derived.BigQuiet
import Derived.Deep.RegionHeld
import Derived.Laws.BitsLemmas
namespace Go.Proofs.YtdfojkbgdoiglaaGreatDoor
open Go.RowKit
set_option maxRecDepth 100000 in
set_option maxHeartbeats 8000000 in
theorem rfrm_any (c : Int) (w : World) : Calls Tryz.prog 8 #[.int .i64 c] w fun e w' => e = .returned (frmV (frmK c)) ∧ Below w.heap.size w w' := by
 have hlk := rlook_any c w
 obtain ⟨⟨K, F, N, C, B⟩, hE⟩ : ∃ E, lookE c = E := ⟨_, rfl⟩
 have hv := frm_val hE
 rw [hE] at hlk
 obtain ⟨R, hR⟩ : ∃ R, frmK c = R := ⟨_, rfl⟩
 rw [hR] at hv ⊢
 have HV := Lib.hid hv
 clear hv hR hE
 have hlk2 : Calls Tryz.prog 14 #[.int .i64 c] w fun e w' => e = .returned (.agg #[.int .i64 K, .int .u8 F, .int .i64 N, .int .i64 C, .bool B]) ∧ Below w.heap.size w w' := hlk
 clear hlk
 go_enter Tryz.func8, Tryz.ntmps8
 go_wp2_with fail
 refine hlk2.mono ?_
 clear hlk2
 rintro e w1 ⟨rfl, hb1⟩
 have hB := hb1.alloc hb1.size (.cells #[.int .i64 K, .int .u8 F, .int .i64 N, .int .i64 C, .bool B] 43)
 have k0 := Blk.new w1 43 #[.int .i64 K, .int .u8 F, .int .i64 N, .int .i64 C, .bool B]
 clear hb1
 go_upto_region 2 with (fail)
 generalize hW : w1.alloc (.cells #[.int .i64 K, .int .u8 F, .int .i64 N, .int .i64 C, .bool B] 43) = W at *
 clear hW
 have a0 := k0.cell 0
 have a1 := k0.cell 1
 have a2 := k0.cell 2
 have a4 := k0.cell 4
 by_cases h0 : K = 0
 ·subst h0
  have HR := Lib.hid (show R = (0, 0) by rw [HV.out]; rfl)
  go_wp2_with fail
  go_ret2
  exact ⟨by rw [HR.out]; rfl, hB⟩
 have t0 : (K == 0) = false := beq_false_of_ne h0
 by_cases h1 : c = 57366
 ·have HR := Lib.hid (show R = (13, 126) by rw [HV.out, if_neg h0, if_pos h1])
  subst h1
  clear h0
  go_wp2_with fail
  go_ret2
  exact ⟨by rw [HR.out]; rfl, hB⟩
 have t1 : (c == 57366) = false := beq_false_of_ne h1
 by_cases h3 : K = 3
 ·subst h3
  cases B with
  | false =>
    have HR := Lib.hid (show R = (1, F) by rw [HV.out, if_neg h0, if_neg h1, if_pos ⟨rfl, rfl⟩])
    clear h0 h1
    go_wp2_with fail
    go_quiet (fail)
    go_wp2_with fail
    go_ret2
    exact ⟨by rw [HR.out]; rfl, below_drewN hB _⟩
  | true =>
    have HR := Lib.hid (show R = (c, 117) by rw [HV.out, if_neg h0, if_neg h1, if_neg (by simp), if_neg (by simp)])
    clear h0 h1
    go_wp2_with fail
    go_ret2
    exact ⟨by rw [HR.out]; rfl, hB⟩
 have t3 : (K == 3) = false := beq_false_of_ne h3
 by_cases h4 : K = 4
 ·subst h4
  cases B with
  | false =>
    have HR := Lib.hid (show R = (N, 126) by rw [HV.out, if_neg h0, if_neg h1, if_neg (by simp), if_pos ⟨rfl, rfl⟩])
    clear h0 h1 h3
    go_wp2_with fail
    go_ret2
    exact ⟨by rw [HR.out]; rfl, hB⟩
  | true =>
    have HR := Lib.hid (show R = (c, 117) by rw [HV.out, if_neg h0, if_neg h1, if_neg (by simp), if_neg (by simp)])
    clear h0 h1 h3
    go_wp2_with fail
    go_ret2
    exact ⟨by rw [HR.out]; rfl, hB⟩
 have t4 : (K == 4) = false := beq_false_of_ne h4
 have HR := Lib.hid (show R = (c, 117) by rw [HV.out, if_neg h0, if_neg h1, if_neg (fun e => h3 e.1), if_neg (fun e => h4 e.1)])
 clear h0 h1 h3 h4
 go_wp2_with fail
 go_ret2
 exact ⟨by rw [HR.out]; rfl, hB⟩
end Go.Proofs.YtdfojkbgdoiglaaGreatDoor
namespace Go.Proofs.YtdfojkbgdoiglaaGreatDoor
open Go.RowKit
set_option maxRecDepth 100000 in
set_option maxHeartbeats 4000000 in
theorem rflag_any (f one : Int) (h0 : 0 < one) (h1 : one ≤ 16) (w : World) : Calls Tryz.prog 22 #[.int .i64 f, .int .i64 one] w fun e w' => e = .returned (.bool (flagK f one)) ∧ Below w.heap.size w w' := by
 have hfl := rflags_any f w
 have hr := flg_rng f
 obtain ⟨n, hn⟩ : ∃ n, flg f = n := ⟨_, rfl⟩
 rw [hn] at hfl hr
 have hb0 : one ≠ 0 := by omega
 have hbe : (one == 0) = false := by simp [hb0]
 obtain ⟨q, hq⟩ : ∃ q, n / one = q := ⟨_, rfl⟩
 have hd : Int.tdiv n one = q := by rw [← hq]; exact Int.tdiv_eq_ediv_of_nonneg hr.1
 have hq0 : 0 ≤ q := by rw [← hq]; exact Int.ediv_nonneg hr.1 (by omega)
 have hq1 : q < 32 := by
  rw [← hq]
  exact Int.lt_of_le_of_lt (Int.ediv_le_self one hr.1) hr.2
 obtain ⟨r, hr2⟩ : ∃ r, q % 2 = r := ⟨_, rfl⟩
 have hm : Int.tmod q 2 = r := by rw [← hr2]; exact Int.tmod_eq_emod_of_nonneg hq0
 obtain ⟨v, hv⟩ : ∃ v, (r == 1) = v := ⟨_, rfl⟩
 have HB := Lib.hid (show flagK f one = v by unfold flagK; rw [hn, hq, hr2, hv])
 rw [HB.out]
 have hw := IntWalk.i64_in q ⟨by omega, by omega⟩
 clear hq hr2 hn
 go_enter Tryz.func22, Tryz.ntmps22
 go_wp2_with fail
 refine hfl.mono ?_
 clear hfl
 rintro e w1 ⟨rfl, hb1⟩
 go_wp2_with fail
 go_ret
 exact ⟨by simp, hb1⟩
set_option maxRecDepth 100000 in
theorem rkeyed_any (c : Int) (w : World) : Calls Tryz.prog 24 #[.int .i64 c] w fun e w' => e = .returned (.bool (keyedK c)) ∧ Below w.heap.size w w' := by
 unfold keyedK
 obtain ⟨a, ha⟩ : ∃ a, (c == 9) = a := ⟨_, rfl⟩
 obtain ⟨b, hb⟩ : ∃ a, (c == 13) = a := ⟨_, rfl⟩
 obtain ⟨d, hd⟩ : ∃ a, (c == 127) = a := ⟨_, rfl⟩
 rw [ha, hb, hd]
 go_enter Tryz.func24, Tryz.ntmps24
 cases a <;> cases b <;> cases d <;> (go_wp2_with fail; go_ret; exact ⟨rfl, Below.refl _ _⟩)
set_option maxRecDepth 100000 in
set_option maxHeartbeats 4000000 in
theorem rastext_any (k : Ky) (h0 : 0 ≤ k.mods) (h1 : k.mods ≤ 255) (w : World) : Calls Tryz.prog 23 #[kyV k] w fun e w' => e = .returned (.bool (astextK k)) ∧ Below w.heap.size w w' := by
 obtain ⟨ki, hki⟩ : ∃ q, (lookE k.code).kind = q := ⟨_, rfl⟩
 have hf : ∀ W : World, (Instr.field 43 (enV (lookE k.code)) 0).run Tryz.prog W = .ok (.int .i64 ki) W := fun W => by
  rw [← hki]
  exact (by kernel_rfl : (Instr.field 43 (enV (lookE k.code)) 0).run Tryz.prog W = .ok (.int .i64 (lookE k.code).kind) W)
 have HLK : Hid (∀ W, Calls Tryz.prog 14 #[.int .i64 k.code] W fun e w' => e = .returned (enV (lookE k.code)) ∧ Below W.heap.size W w') := Lib.hid fun W => rlook_any k.code W
 obtain ⟨q, hq⟩ : ∃ q, keyedK k.code = q := ⟨_, rfl⟩
 have HKD : Hid (∀ W, Calls Tryz.prog 24 #[.int .i64 k.code] W fun e w' => e = .returned (.bool q) ∧ Below W.heap.size W w') := Lib.hid fun W => by rw [← hq]; exact rkeyed_any k.code W
 obtain ⟨t, ht⟩ : ∃ t, (ki == 1) = t := ⟨_, rfl⟩
 obtain ⟨d, hd⟩ : ∃ d, k.mods / 64 = d := ⟨_, rfl⟩
 obtain ⟨p, hp⟩ : ∃ p, k.mods - d * 64 = p := ⟨_, rfl⟩
 obtain ⟨p0, hp0⟩ : ∃ b, (p == 0) = b := ⟨_, rfl⟩
 have HC := Lib.hid (show astextK k = if t = true then decide (p ≤ 1) else q && p0 by
  unfold astextK
  rw [hki, hq, hd, hp, hp0, ← ht]
  simp)
 have e1 : Int.tdiv k.mods 64 = d := by rw [← hd]; exact Int.tdiv_eq_ediv_of_nonneg h0
 have e0 : IntKind.i64.wrap d = d := by rw [IntKind.wrap_i64]; omega
 have e2 : IntKind.i64.wrap (d * 64) = d * 64 := by rw [IntKind.wrap_i64]; omega
 have e3 : IntKind.i64.wrap (k.mods - d * 64) = p := by rw [hp, IntKind.wrap_i64]; omega
 obtain ⟨R, hR⟩ : ∃ R, astextK k = R := ⟨_, rfl⟩
 obtain ⟨E, hE⟩ : ∃ E, enV (lookE k.code) = E := ⟨_, rfl⟩
 rw [hE] at HLK hf
 rw [hR] at HC ⊢
 clear hki hE hR hq hd hp h0 h1
 obtain ⟨code, mods, typ, shift, base, text⟩ := k
 simp only [kyV] at HLK HKD HC e1 e3 ⊢
 have k0 := Blk.new w 23 #[.int .i64 code, .int .i64 mods, .int .i64 typ, .int .i64 shift, .int .i64 base, .string text]
 have hB : Below w.heap.size w (w.alloc (.cells #[.int .i64 code, .int .i64 mods, .int .i64 typ, .int .i64 shift, .int .i64 base, .string text] 23)) := (Below.refl _ w).alloc (Nat.le_refl _) _
 have a0 := k0.cell 0
 have a1 := k0.cell 1
 go_enter Tryz.func23, Tryz.ntmps23
 go_wp2_with fail
 refine (HLK.out _).mono ?_
 rintro e w1 ⟨rfl, hb1⟩
 have k1 := k0.below hb1 k0.lt
 have hB1 := hB.trans (hb1.mono hB.size)
 clear HLK k0 hB hb1 a0 a1
 have a0 := k1.cell 0
 cases t with
 | true =>
   have HR := Lib.hid (show R = decide (p ≤ 1) from HC.out)
   clear HC
   go_wp2_with fail
   go_ret
   exact ⟨ret_b HR.out.symm, hB1⟩
 | false =>
   have HR := Lib.hid (show R = (q && p0) from HC.out)
   clear HC
   go_wp2_with fail
   refine (HKD.out _).mono ?_
   rintro e w2 ⟨rfl, hb2⟩
   have hB2 := hB1.trans (hb2.mono hB1.size)
   cases q with
   | true =>
     go_wp2_with fail
     go_ret
     exact ⟨ret_b HR.out.symm, hB2⟩
   | false =>
     go_wp2_with fail
     go_ret
     exact ⟨ret_b HR.out.symm, hB2⟩
theorem sent_eq (v q f2 f8 : Bool) (ki typ : Int) : (if v = false then false else if typ = 3 ∧ (f2 = false ∨ f8 = false ∧ (ki = 1 ∨ q = true)) then false else decide (ki ≠ 7) || f8) = (v && (!((typ == 3) && (!f2 || (!f8 && ((ki == 1) || q)))) && ((ki != 7) || f8))) := by
 have e1 : (ki == 1) = decide (ki = 1) := rfl
 have e3 : (typ == 3) = decide (typ = 3) := rfl
 have e7 : (ki != 7) = decide (ki ≠ 7) := by rw [bne, show (ki == 7) = decide (ki = 7) from rfl, decide_not]
 rw [e1, e3, e7]
 generalize decide (ki ≠ 7) = x
 by_cases a : ki = 1 <;> by_cases b : typ = 3 <;> cases v <;> cases q <;> cases f2 <;> cases f8 <;> cases x <;> simp [a, b]
set_option maxRecDepth 100000 in
set_option maxHeartbeats 8000000 in
theorem rsent_any (f : Int) (k : Ky) (hs : k.text.size ≤ 4294967296) (w : World) : Calls Tryz.prog 21 #[.int .i64 f, kyV k] w fun e w' => e = .returned (.bool (sentK f k)) ∧ Below w.heap.size w w' := by
 obtain ⟨ki, hki⟩ : ∃ q, (lookE k.code).kind = q := ⟨_, rfl⟩
 have hf : ∀ W : World, (Instr.field 43 (enV (lookE k.code)) 0).run Tryz.prog W = .ok (.int .i64 ki) W := fun W => by
  rw [← hki]
  exact (by kernel_rfl : (Instr.field 43 (enV (lookE k.code)) 0).run Tryz.prog W = .ok (.int .i64 (lookE k.code).kind) W)
 obtain ⟨v, hv⟩ : ∃ v, mayK k = v := ⟨_, rfl⟩
 obtain ⟨q, hq⟩ : ∃ q, keyedK k.code = q := ⟨_, rfl⟩
 obtain ⟨f2, hf2⟩ : ∃ b, flagK f 2 = b := ⟨_, rfl⟩
 obtain ⟨f8, hf8⟩ : ∃ b, flagK f 8 = b := ⟨_, rfl⟩
 obtain ⟨t1, ht1⟩ : ∃ b, (ki == 1) = b := ⟨_, rfl⟩
 obtain ⟨t7, ht7⟩ : ∃ b, (ki != 7) = b := ⟨_, rfl⟩
 obtain ⟨t3, ht3⟩ : ∃ b, (k.typ == 3) = b := ⟨_, rfl⟩
 have HMY : Hid (∀ W, Calls Tryz.prog 11 #[kyV k] W fun e w' => e = .returned (.bool v) ∧ Below W.heap.size W w') := Lib.hid fun W => by rw [← hv]; exact rmay10_any k hs W
 have HLK : Hid (∀ W, Calls Tryz.prog 14 #[.int .i64 k.code] W fun e w' => e = .returned (enV (lookE k.code)) ∧ Below W.heap.size W w') := Lib.hid fun W => rlook_any k.code W
 have HKD : Hid (∀ W, Calls Tryz.prog 24 #[.int .i64 k.code] W fun e w' => e = .returned (.bool q) ∧ Below W.heap.size W w') := Lib.hid fun W => by rw [← hq]; exact rkeyed_any k.code W
 have HF2 : Hid (∀ W, Calls Tryz.prog 22 #[.int .i64 f, .int .i64 2] W fun e w' => e = .returned (.bool f2) ∧ Below W.heap.size W w') := Lib.hid fun W => by rw [← hf2]; exact rflag_any f 2 (by decide) (by decide) W
 have HF8 : Hid (∀ W, Calls Tryz.prog 22 #[.int .i64 f, .int .i64 8] W fun e w' => e = .returned (.bool f8) ∧ Below W.heap.size W w') := Lib.hid fun W => by rw [← hf8]; exact rflag_any f 8 (by decide) (by decide) W
 have HC := Lib.hid (show sentK f k = (v && (!(t3 && (!f2 || (!f8 && (t1 || q)))) && (t7 || f8))) by
  unfold sentK
  rw [hki, hv, hq, hf2, hf8, ← ht1, ← ht7, ← ht3]
  exact sent_eq v q f2 f8 ki k.typ)
 obtain ⟨R, hR⟩ : ∃ R, sentK f k = R := ⟨_, rfl⟩
 obtain ⟨E, hE⟩ : ∃ E, enV (lookE k.code) = E := ⟨_, rfl⟩
 rw [hE] at HLK hf
 rw [hR] at HC ⊢
 clear hki hE hR hq hv hf2 hf8 hs
 obtain ⟨code, mods, typ, shift, base, text⟩ := k
 simp only [kyV] at HMY HLK HKD HC ht3 ⊢
 have k0 := Blk.new w 23 #[.int .i64 code, .int .i64 mods, .int .i64 typ, .int .i64 shift, .int .i64 base, .string text]
 have hB : Below w.heap.size w (w.alloc (.cells #[.int .i64 code, .int .i64 mods, .int .i64 typ, .int .i64 shift, .int .i64 base, .string text] 23)) := (Below.refl _ w).alloc (Nat.le_refl _) _
 obtain ⟨a0, a1, a2, a3, a4, a5⟩ := Blk.cells6 k0
 go_enter Tryz.func21, Tryz.ntmps21
 go_wp2_with fail
 refine (HMY.out _).mono ?_
 rintro e w1 ⟨rfl, hb1⟩
 have k1 := k0.below hb1 k0.lt
 have hB1 := hB.trans (hb1.mono hB.size)
 clear HMY k0 hB hb1 a0 a1 a2 a3 a4 a5
 have a0 := k1.cell 0
 cases v with
 | false =>
   have HR := Lib.hid (show R = false from HC.out)
   clear HC
   go_wp2_with fail
   go_ret
   exact ⟨ret_b HR.out.symm, hB1⟩
 | true =>
 go_wp2_with fail
 refine (HLK.out _).mono ?_
 rintro e w2 ⟨rfl, hb2⟩
 have k2 := k1.below hb2 k1.lt
 have hB2 := hB1.trans (hb2.mono hB1.size)
 clear HLK k1 hB1 hb2 a0
 go_wp2_with fail
 refine (HF8.out _).mono ?_
 rintro e w3 ⟨rfl, hb3⟩
 have k3 := k2.below hb3 k2.lt
 have hB3 := hB2.trans (hb3.mono hB2.size)
 clear HF8 k2 hB2 hb3
 have a0 := k3.cell 0
 have a2 := k3.cell 2
 cases t3 with
 | false =>
   have HR := Lib.hid (show R = (t7 || f8) from HC.out)
   clear HC
   cases t7 with
   | true =>
     go_wp2_with fail
     go_ret
     exact ⟨ret_b HR.out.symm, hB3⟩
   | false =>
     go_wp2_with fail
     go_ret
     exact ⟨ret_b HR.out.symm, hB3⟩
 | true =>
 go_wp2_with fail
 refine (HF2.out _).mono ?_
 rintro e w4 ⟨rfl, hb4⟩
 have k4 := k3.below hb4 k3.lt
 have hB4 := hB3.trans (hb4.mono hB3.size)
 clear HF2 k3 hB3 hb4 a0 a2
 have a0 := k4.cell 0
 cases f2 with
 | false =>
   have HR := Lib.hid (show R = false from HC.out)
   clear HC
   go_wp2_with fail
   go_ret
   exact ⟨ret_b HR.out.symm, hB4⟩
 | true =>
 cases f8 with
 | true =>
   have HR := Lib.hid (show R = (t7 || true) from HC.out)
   clear HC
   cases t7 with
   | true =>
     go_wp2_with fail
     go_ret
     exact ⟨ret_b HR.out.symm, hB4⟩
   | false =>
     go_wp2_with fail
     go_ret
     exact ⟨ret_b HR.out.symm, hB4⟩
 | false =>
 cases t1 with
 | true =>
   have HR := Lib.hid (show R = false from HC.out)
   clear HC
   go_wp2_with fail
   go_ret
   exact ⟨ret_b HR.out.symm, hB4⟩
 | false =>
 go_wp2_with fail
 refine (HKD.out _).mono ?_
 rintro e w5 ⟨rfl, hb5⟩
 have hB5 := hB4.trans (hb5.mono hB4.size)
 cases q with
 | true =>
   have HR := Lib.hid (show R = false from HC.out)
   clear HC
   go_wp2_with fail
   go_ret
   exact ⟨ret_b HR.out.symm, hB5⟩
 | false =>
   have HR := Lib.hid (show R = (t7 || false) from HC.out)
   clear HC
   cases t7 with
   | true =>
     go_wp2_with fail
     go_ret
     exact ⟨ret_b HR.out.symm, hB5⟩
   | false =>
     go_wp2_with fail
     go_ret
     exact ⟨ret_b HR.out.symm, hB5⟩
end Go.Proofs.YtdfojkbgdoiglaaGreatDoor
namespace Go.Proofs.YtdfojkbgdoiglaaGreatDoor
open Go.RowKit
section
variable {P : Program} {ops : Array Oper} {md : Region.Mode} {w1 : World} {K : List Fact} {ix iz : Nat} {R0 R1 : (Tmp → Value) → World → World → Prop} {aF : (Tmp → Value) → Act} {i : Nat} {o : Oper}
theorem goesK_know (v : Value) (hst : ∀ f ∈ K, f.ok) (hah : Ahead md ops ix i) (hio : ops[i]? = some o) (hx : i ≠ ix) (hz : i ≠ iz) (hni : (K.all fun f => f.i != i) = true) (hw : ∀ g, Region.wanted o (yielded ops (aF g).tmps) = true) {d0 : Tmp} (h0 : o.dst = some d0) (hd : ∀ g, (aF g).tmps[d0]? = some v)
 (h : ∀ g w, Below w1.heap.size w1 w → (∀ (q : Nat) (f : Fact), K[q]? = some f → edgeB md ops i f.i = true → f.F (g f.d) w) → (execOp (aF g).eval o).run P w = .ok (.value v) w) :
 GoesM P md ops aF (SK md ops w1 K ix iz R0 R1) i o := fun l g w hsz hf hrd hS => by
 rw [if_pos (hw g)]
 have hfx := hah l hsz hS.shut hf
 obtain ⟨h1, h2⟩ := hS.pre hfx
 refine .inl ⟨v, w, .inl (h g w h1 fun q f' hf' he => h2 f' (List.mem_of_getElem? hf') ?_), g, .inl rfl, (fun d' h' => by rw [h0] at h'; cases h'; exact hd g), hS.quiet hst (hS.shut.step hio hrd) (Below.refl _ _) hx hz hni hfx⟩
 unfold edgeB at he
 rw [hio] at he
 obtain ⟨e, he, hb⟩ := Array.any_eq_true'.1 he
 simp only [Bool.and_eq_true, beq_iff_eq] at hb
 rw [← hb.2]
 exact hrd e he hb.1
def FB (L : List UInt8) (v : Value) (w : World) : Prop := ∃ A c, v = .slice A L.length c ∧ Rd w A (bs L)
theorem fb_ok (i : Nat) (d : Tmp) (L : List UInt8) : (⟨i, d, FB L⟩ : Fact).ok := fun _ _ _ ⟨A, c, e, h⟩ hb => ⟨A, c, e, h.below hb⟩
theorem fb_out {L : List UInt8} {w : World} {f : FuncId} {args : Array Value} (h : Calls P f args w (Out L w)) : Calls P f args w fun e w' => ∃ v, e = .returned v ∧ FB L v w' ∧ Below w.heap.size w w' :=
 h.mono fun _ _ ⟨A, c, he, hr, hb⟩ => ⟨_, he, ⟨A, c, rfl, hr⟩, hb⟩
theorem goesK_str {L : List UInt8} {src dst e : TypeId} {x : Operand} {j : Nat} {d : Tmp} (p : Nat) (hat : K[p]? = some ⟨j, d, FB L⟩) (hed : edgeB md ops i j = true) (hsrc : P.underlying src = some (.slice e)) (he : P.underlying e = some (.int .u8)) (hdst : P.underlying dst = some .string)
 (hst : ∀ f ∈ K, f.ok) (hah : Ahead md ops ix i) (hio : ops[i]? = some o) (hx : i ≠ ix) (hz : i ≠ iz) (hni : (K.all fun f => f.i != i) = true) (hw : ∀ g, Region.wanted o (yielded ops (aF g).tmps) = true) {d0 : Tmp} (h0 : o.dst = some d0) (hd : ∀ g, (aF g).tmps[d0]? = some (.string ⟨L.toArray⟩))
 (ho : o.op = .convert src dst x) (hxv : ∀ g, (aF g).eval x = g d) : GoesM P md ops aF (SK md ops w1 K ix iz R0 R1) i o :=
 goesK_know _ hst hah hio hx hz hni hw h0 hd fun g w _ hin => by
  obtain ⟨A, c, hv, hr⟩ := hin p _ hat hed
  simp only at hv
  unfold execOp
  simp only [ho, hxv, hv, Sem.run_bind, Sem.run_pure, conv_str hsrc he rfl hr dst hdst, Result.andThen_ok]
end
end Go.Proofs.YtdfojkbgdoiglaaGreatDoor
namespace Go.Proofs.YtdfojkbgdoiglaaGreatDoor
open Go.RowKit
theorem conv_all (P : Program) (src dst e : TypeId) (t : List UInt8) (hs : P.underlying src = some .string) (hd : P.underlying dst = some (.slice e)) (he : P.underlying e = some (.int .u8)) (hm : t.length ≤ maxLen) :
 ∃ (C : World → Nat) (X : World → World), ∀ W, (convert src dst (.string ⟨t.toArray⟩)).run P W = .ok (.slice (some ⟨W.heap.size, 0, none⟩) t.length (C W)) (X W) ∧ t.length ≤ C W ∧
   Rd (X W) (some ⟨W.heap.size, 0, none⟩) (bs t) ∧ Below W.heap.size W (X W) := by
 refine ⟨fun W => grownCap W t.length 0 e, fun W => W.drew.alloc (.cells (bytesRow ⟨t.toArray⟩ (grownCap W t.length 0 e)) e ((bytesRow ⟨t.toArray⟩ (grownCap W t.length 0 e)).size, (bytesRow ⟨t.toArray⟩ (grownCap W t.length 0 e)).size + 1)), fun W => ⟨?_, grownCap_ge W t.length 0 e, ?_, ?_⟩⟩
 ·have := run_bytes_of_string (P := P) W src dst e ⟨t.toArray⟩ hs hd he
  rw [this]
  rfl
 ·obtain ⟨v', w', hr, ho, hg⟩ := run_conv (P := P) W 0 src dst e ⟨t.toArray⟩ hs hd he hm (Nat.zero_le _)
  rw [run_bytes_of_string (P := P) W src dst e ⟨t.toArray⟩ hs hd he] at hr
  injection hr with h1 h2
  subst h1
  subst h2
  exact ho.rd
 ·exact ((Below.refl _ W).drew).alloc (by simp) _
end Go.Proofs.YtdfojkbgdoiglaaGreatDoor
namespace Go.Proofs.YtdfojkbgdoiglaaGreatDoor
open Go.RowKit
section
variable {P : Program} {ops : Array Oper} {md : Region.Mode} {w1 : World} {K : List Fact} {ix iz : Nat} {R0 : (Tmp → Value) → World → World → Prop} {aF : (Tmp → Value) → Act} {i : Nat} {o : Oper}
def FNew (w1 : World) (ty : TypeId) (z : Array Value) (v : Value) (w : World) : Prop := ∃ b, v = .pointer (some ⟨b, 0, none⟩) ∧ w1.heap.size ≤ b ∧ Blk w b ty z
theorem fnew_ok (w1 : World) (i : Nat) (d : Tmp) (ty : TypeId) (z : Array Value) : (⟨i, d, FNew w1 ty z⟩ : Fact).ok := fun _ _ _ ⟨b, e, h1, h2⟩ hb => ⟨b, e, h1, h2.below hb h2.lt⟩
theorem goesK_new {d : Tmp} {ty : TypeId} {z : Array Value} (hst : ∀ f ∈ K, f.ok) (hah : Ahead md ops ix i) (hio : ops[i]? = some o) (hx : i ≠ ix) (hz : i ≠ iz) (p : Nat) (hat : K[p]? = some ⟨i, d, FNew w1 ty z⟩) (huq : ((List.range K.length).all fun q => q == p || ((K[q]?).map fun f => f.i != i && f.d != d).getD true) = true) (hw : ∀ g, Region.wanted o (yielded ops (aF g).tmps) = true) (h0 : o.dst = some d) (hd : ∀ g, (aF g).tmps[d]? = some (g d)) {R1 : (Tmp → Value) → World → World → Prop}
 (hr : ∀ g w, (execOp (aF g).eval o).run P w = .ok (.value (.pointer (some ⟨w.heap.size, 0, none⟩))) (w.alloc (.cells z ty))) : GoesM P md ops aF (SK md ops w1 K ix iz R0 R1) i o :=
 goesK_make hst hah hio hx hz p hat huq hw h0 hd (fun w => .pointer (some ⟨w.heap.size, 0, none⟩)) (fun w => w.alloc (.cells z ty)) hr fun w hb => ⟨⟨w.heap.size, rfl, hb.size, Blk.new w ty z⟩, (Below.refl _ w).alloc (Nat.le_refl _) _⟩
theorem goesP_put {ty : TypeId} {x y : Operand} {d : Tmp} {j : Nat} {z cs : Array Value} (hi : i = ix) (hxz : ix = iz) (hio : ops[i]? = some o) (hall : ∀ f ∈ K, f.i ≠ i ∧ ∃ js, pathB md ops ix js = true ∧ f.i ∈ js) (p : Nat) (hat : K[p]? = some ⟨j, d, FNew w1 ty z⟩) (hw : ∀ g, Region.wanted o (yielded ops (aF g).tmps) = true) (hop : o.op = .store ty x y) (ho : o.dst = none) (hx : ∀ g, (aF g).eval x = g d) (hy : ∀ g, (aF g).eval y = .agg cs) (hs : cs.size = z.size) (hin : (P.info? ty).map (·.size) = some z.size) (h1 : cs.toList.all (·.oneCell') = true) :
 GoesM P md ops aF (SK md ops w1 K ix iz R0 (fun g _ w => Below w1.heap.size w1 w ∧ FNew w1 ty cs (g d) w)) i o := fun l g w hsz hf hrd hS => by
 subst hxz hi
 rw [if_pos (hw g)]
 obtain ⟨b1, h2⟩ := hS.pre hf
 have hsh := hS.shut.step hio hrd
 have hlt : i < l.size := by rw [hsz]; exact (Array.getElem?_eq_some_iff.1 hio).1
 have hfs : ∀ f ∈ K, f.F (g f.d) w := fun f hf' => h2 f hf' (by
  obtain ⟨hne, js, hp, hm⟩ := hall f hf'
  have := hsh.path i js (getD_self hlt) hp f.i hm
  rwa [getD_set_ne false (fun e => hne e.symm)] at this)
 obtain ⟨b, g1, g2, g3⟩ : FNew w1 ty z (g d) w := hfs _ (List.mem_of_getElem? hat)
 have hrun := g3.run_set (P := P) cs hs hin h1
 refine .inl ⟨undef, w.setCells b 0 cs.toList, .inr ⟨?_, rfl⟩, g, .inl rfl, (fun d' h' => by rw [ho] at h'; cases h'), hsh, ?_, ?_, fun _ => ⟨w, b1, hfs, b1.grown (grown_setCells b _ 0 w) b1.size (fun k e => by cases e; exact g2), b, g1, g2, g3.setAll hs⟩, fun h => h⟩
 ·unfold execOp
  simp only [hop, hx, hy, g1, Sem.run_bind, hrun, Result.andThen_ok, Sem.run_pure]
 ·rw [getD_self hlt]; intro h; cases h
 ·rw [getD_self hlt]; intro _ h; cases h
end
end Go.Proofs.YtdfojkbgdoiglaaGreatDoor
namespace Go.Proofs.YtdfojkbgdoiglaaGreatDoor
open Go.RowKit
theorem flags11 {a : Int} (h0 : 0 ≤ a) (h1 : a < 32) : (0 ≤ bits .or .i64 a 11 ∧ bits .or .i64 a 11 < 32) ∧ flagK (bits .or .i64 a 11) 2 = true ∧ flagK (bits .or .i64 a 11) 8 = true := by
 obtain ⟨n, rfl⟩ := Int.eq_ofNat_of_zero_le h0
 have : ∀ n : Fin 32, (0 ≤ bits .or .i64 ((n.1 : Nat) : Int) 11 ∧ bits .or .i64 ((n.1 : Nat) : Int) 11 < 32) ∧ flagK (bits .or .i64 ((n.1 : Nat) : Int) 11) 2 = true ∧ flagK (bits .or .i64 ((n.1 : Nat) : Int) 11) 8 = true := by decide +kernel
 exact this ⟨n, by omega⟩
theorem kit_all {f : Int} {k : Ky} (h : mayK k = true) (h2 : flagK f 2 = true) (h8 : flagK f 8 = true) : kitL f k = putS (sqK f k) ∧ mayS (sqK f k) = 0 := by
 have hm := may_kit f h
 refine ⟨?_, hm⟩
 have hs : sentK f k = true := by
  unfold sentK
  rw [h, h2, h8]
  simp
 unfold kitL
 rw [if_neg (by rw [hs]; decide), if_neg (by rw [h8]; simp)]
 exact if_pos hm
theorem put_len13 {s : Sq} (hk : s.kind = 1) (hm : mayS s = 0) : (putS s).length ≤ 4294967296 := by
 obtain ⟨_, _, hp, hi, _⟩ := ok_parts hm
 have hb := body_len (s := s) hp hi
 unfold putS
 rw [if_pos hk]
 simp only [List.length_cons, List.length_append, List.length_nil]
 omega
end Go.Proofs.YtdfojkbgdoiglaaGreatDoor
