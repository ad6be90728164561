/-
  Layer 13, walked: the document's Form, flag, keyed, astext, sent. Layer 13, walked: the document's second parameter. The document's Put, whatever it tells. Layer 10, walked: the document's Old. A sequence of numbers, as a value, and the document's Put of it. Layer 11, walked: the document's sequence of numbers.
-/
import Derived.Test.YtceipblcdcgljaaGreatDoorG02
import Derived.Test.YtceipblcdcgljaaGreatDoorG07
import Derived.Test.YtceipblcdcgljaaGreatDoorG09
import Derived.Test.YtceipblcdcgljaaGreatDoorG10
import Derived.Test.YtceipblcdcgljaaGreatDoorG12
import Derived.Test.YtceipblcdcgljaaGreatDoorG29
import Derived.Test.YtceipblcdcgljaaGreatDoorG30
import Derived.Test.YtceipblcdcgljaaGreatDoorG31
import Derived.Deep.Cut
import Derived.Deep.QuietTactic
import Derived.BigQuiet
import Derived.Deep.RegionLaw
namespace Go.Proofs.YtceipblcdcgljaaGreatDoor
open Go.RowKit
set_option maxRecDepth 100000 in
set_option maxHeartbeats 4000000 in
theorem rflag_any (f one : Int) (h0 : 0 < one) (h1 : one ≤ 16) (w : World) : Calls Tryz.prog 37 #[.int .i64 f, .int .i64 one] w fun e w' => e = .returned (.bool (flagK f one)) ∧ Below w.heap.size w w' := by
 have hfl := rflags_any f w
 have hr := flg_rng f
 obtain ⟨n, hn⟩ : ∃ n, flg f = n := ⟨_, rfl⟩
 rw [hn] at hfl hr
 have hb0 : one ≠ 0 := by omega
 have hbe : (one == 0) = false := by simp [hb0]
 obtain ⟨q, hq⟩ : ∃ q, n / one = q := ⟨_, rfl⟩
 have hd : Int.tdiv n one = q := by rw [← hq]; exact Int.tdiv_eq_ediv_of_nonneg hr.1
 have hq0 : 0 ≤ q := by rw [← hq]; exact Int.ediv_nonneg hr.1 (by omega)
 have hq1 : q < 32 := by
  rw [← hq]
  exact Int.lt_of_le_of_lt (Int.ediv_le_self one hr.1) hr.2
 obtain ⟨r, hr2⟩ : ∃ r, q % 2 = r := ⟨_, rfl⟩
 have hm : Int.tmod q 2 = r := by rw [← hr2]; exact Int.tmod_eq_emod_of_nonneg hq0
 obtain ⟨v, hv⟩ : ∃ v, (r == 1) = v := ⟨_, rfl⟩
 have HB := Lib.hid (show flagK f one = v by unfold flagK; rw [hn, hq, hr2, hv])
 rw [HB.out]
 have hw := IntWalk.i64_in q ⟨by omega, by omega⟩
 clear hq hr2 hn
 go_enter Tryz.func37, Tryz.ntmps37
 go_wp2_with fail
 refine hfl.mono ?_
 clear hfl
 rintro e w1 ⟨rfl, hb1⟩
 go_wp2_with fail
 go_ret
 exact ⟨by simp, hb1⟩
set_option maxRecDepth 100000 in
theorem rkeyed_any (c : Int) (w : World) : Calls Tryz.prog 39 #[.int .i64 c] w fun e w' => e = .returned (.bool (keyedK c)) ∧ Below w.heap.size w w' := by
 unfold keyedK
 obtain ⟨a, ha⟩ : ∃ a, (c == 9) = a := ⟨_, rfl⟩
 obtain ⟨b, hb⟩ : ∃ a, (c == 13) = a := ⟨_, rfl⟩
 obtain ⟨d, hd⟩ : ∃ a, (c == 127) = a := ⟨_, rfl⟩
 rw [ha, hb, hd]
 go_enter Tryz.func39, Tryz.ntmps39
 cases a <;> cases b <;> cases d <;> (go_wp2_with fail; go_ret; exact ⟨rfl, Below.refl _ _⟩)
set_option maxRecDepth 100000 in
set_option maxHeartbeats 4000000 in
theorem rastext_any (k : Ky) (h0 : 0 ≤ k.mods) (h1 : k.mods ≤ 255) (w : World) : Calls Tryz.prog 38 #[kyV k] w fun e w' => e = .returned (.bool (astextK k)) ∧ Below w.heap.size w w' := by
 obtain ⟨ki, hki⟩ : ∃ q, (lookE k.code).kind = q := ⟨_, rfl⟩
 have hf : ∀ W : World, (Instr.field 53 (enV (lookE k.code)) 0).run Tryz.prog W = .ok (.int .i64 ki) W := fun W => by
  rw [← hki]
  exact (by kernel_rfl : (Instr.field 53 (enV (lookE k.code)) 0).run Tryz.prog W = .ok (.int .i64 (lookE k.code).kind) W)
 have HLK : Hid (∀ W, Calls Tryz.prog 22 #[.int .i64 k.code] W fun e w' => e = .returned (enV (lookE k.code)) ∧ Below W.heap.size W w') := Lib.hid fun W => rlook_any k.code W
 obtain ⟨q, hq⟩ : ∃ q, keyedK k.code = q := ⟨_, rfl⟩
 have HKD : Hid (∀ W, Calls Tryz.prog 39 #[.int .i64 k.code] W fun e w' => e = .returned (.bool q) ∧ Below W.heap.size W w') := Lib.hid fun W => by rw [← hq]; exact rkeyed_any k.code W
 obtain ⟨t, ht⟩ : ∃ t, (ki == 1) = t := ⟨_, rfl⟩
 obtain ⟨d, hd⟩ : ∃ d, k.mods / 64 = d := ⟨_, rfl⟩
 obtain ⟨p, hp⟩ : ∃ p, k.mods - d * 64 = p := ⟨_, rfl⟩
 obtain ⟨p0, hp0⟩ : ∃ b, (p == 0) = b := ⟨_, rfl⟩
 have HC := Lib.hid (show astextK k = if t = true then decide (p ≤ 1) else q && p0 by
  unfold astextK
  rw [hki, hq, hd, hp, hp0, ← ht]
  simp)
 have e1 : Int.tdiv k.mods 64 = d := by rw [← hd]; exact Int.tdiv_eq_ediv_of_nonneg h0
 have e0 : IntKind.i64.wrap d = d := by rw [IntKind.wrap_i64]; omega
 have e2 : IntKind.i64.wrap (d * 64) = d * 64 := by rw [IntKind.wrap_i64]; omega
 have e3 : IntKind.i64.wrap (k.mods - d * 64) = p := by rw [hp, IntKind.wrap_i64]; omega
 obtain ⟨R, hR⟩ : ∃ R, astextK k = R := ⟨_, rfl⟩
 obtain ⟨E, hE⟩ : ∃ E, enV (lookE k.code) = E := ⟨_, rfl⟩
 rw [hE] at HLK hf
 rw [hR] at HC ⊢
 clear hki hE hR hq hd hp h0 h1
 obtain ⟨code, mods, typ, shift, base, text⟩ := k
 simp only [kyV] at HLK HKD HC e1 e3 ⊢
 have k0 := Blk.new w 25 #[.int .i64 code, .int .i64 mods, .int .i64 typ, .int .i64 shift, .int .i64 base, .string text]
 have hB : Below w.heap.size w (w.alloc (.cells #[.int .i64 code, .int .i64 mods, .int .i64 typ, .int .i64 shift, .int .i64 base, .string text] 25)) := (Below.refl _ w).alloc (Nat.le_refl _) _
 have a0 := k0.cell 0
 have a1 := k0.cell 1
 go_enter Tryz.func38, Tryz.ntmps38
 go_wp2_with fail
 refine (HLK.out _).mono ?_
 rintro e w1 ⟨rfl, hb1⟩
 have k1 := k0.below hb1 k0.lt
 have hB1 := hB.trans (hb1.mono hB.size)
 clear HLK k0 hB hb1 a0 a1
 have a0 := k1.cell 0
 cases t with
 | true =>
   have HR := Lib.hid (show R = decide (p ≤ 1) from HC.out)
   clear HC
   go_wp2_with fail
   go_ret
   exact ⟨ret_b HR.out.symm, hB1⟩
 | false =>
   have HR := Lib.hid (show R = (q && p0) from HC.out)
   clear HC
   go_wp2_with fail
   refine (HKD.out _).mono ?_
   rintro e w2 ⟨rfl, hb2⟩
   have hB2 := hB1.trans (hb2.mono hB1.size)
   cases q with
   | true =>
     go_wp2_with fail
     go_ret
     exact ⟨ret_b HR.out.symm, hB2⟩
   | false =>
     go_wp2_with fail
     go_ret
     exact ⟨ret_b HR.out.symm, hB2⟩
theorem sent_eq (v q f2 f8 : Bool) (ki typ : Int) : (if v = false then false else if typ = 3 ∧ (f2 = false ∨ f8 = false ∧ (ki = 1 ∨ q = true)) then false else decide (ki ≠ 7) || f8) = (v && (!((typ == 3) && (!f2 || (!f8 && ((ki == 1) || q)))) && ((ki != 7) || f8))) := by
 have e1 : (ki == 1) = decide (ki = 1) := rfl
 have e3 : (typ == 3) = decide (typ = 3) := rfl
 have e7 : (ki != 7) = decide (ki ≠ 7) := by rw [bne, show (ki == 7) = decide (ki = 7) from rfl, decide_not]
 rw [e1, e3, e7]
 generalize decide (ki ≠ 7) = x
 by_cases a : ki = 1 <;> by_cases b : typ = 3 <;> cases v <;> cases q <;> cases f2 <;> cases f8 <;> cases x <;> simp [a, b]
set_option maxRecDepth 100000 in
set_option maxHeartbeats 8000000 in
theorem rsent_any (f : Int) (k : Ky) (hs : k.text.size ≤ 4294967296) (w : World) : Calls Tryz.prog 36 #[.int .i64 f, kyV k] w fun e w' => e = .returned (.bool (sentK f k)) ∧ Below w.heap.size w w' := by
 obtain ⟨ki, hki⟩ : ∃ q, (lookE k.code).kind = q := ⟨_, rfl⟩
 have hf : ∀ W : World, (Instr.field 53 (enV (lookE k.code)) 0).run Tryz.prog W = .ok (.int .i64 ki) W := fun W => by
  rw [← hki]
  exact (by kernel_rfl : (Instr.field 53 (enV (lookE k.code)) 0).run Tryz.prog W = .ok (.int .i64 (lookE k.code).kind) W)
 obtain ⟨v, hv⟩ : ∃ v, mayK k = v := ⟨_, rfl⟩
 obtain ⟨q, hq⟩ : ∃ q, keyedK k.code = q := ⟨_, rfl⟩
 obtain ⟨f2, hf2⟩ : ∃ b, flagK f 2 = b := ⟨_, rfl⟩
 obtain ⟨f8, hf8⟩ : ∃ b, flagK f 8 = b := ⟨_, rfl⟩
 obtain ⟨t1, ht1⟩ : ∃ b, (ki == 1) = b := ⟨_, rfl⟩
 obtain ⟨t7, ht7⟩ : ∃ b, (ki != 7) = b := ⟨_, rfl⟩
 obtain ⟨t3, ht3⟩ : ∃ b, (k.typ == 3) = b := ⟨_, rfl⟩
 have HMY : Hid (∀ W, Calls Tryz.prog 14 #[kyV k] W fun e w' => e = .returned (.bool v) ∧ Below W.heap.size W w') := Lib.hid fun W => by rw [← hv]; exact rmay10_any k hs W
 have HLK : Hid (∀ W, Calls Tryz.prog 22 #[.int .i64 k.code] W fun e w' => e = .returned (enV (lookE k.code)) ∧ Below W.heap.size W w') := Lib.hid fun W => rlook_any k.code W
 have HKD : Hid (∀ W, Calls Tryz.prog 39 #[.int .i64 k.code] W fun e w' => e = .returned (.bool q) ∧ Below W.heap.size W w') := Lib.hid fun W => by rw [← hq]; exact rkeyed_any k.code W
 have HF2 : Hid (∀ W, Calls Tryz.prog 37 #[.int .i64 f, .int .i64 2] W fun e w' => e = .returned (.bool f2) ∧ Below W.heap.size W w') := Lib.hid fun W => by rw [← hf2]; exact rflag_any f 2 (by decide) (by decide) W
 have HF8 : Hid (∀ W, Calls Tryz.prog 37 #[.int .i64 f, .int .i64 8] W fun e w' => e = .returned (.bool f8) ∧ Below W.heap.size W w') := Lib.hid fun W => by rw [← hf8]; exact rflag_any f 8 (by decide) (by decide) W
 have HC := Lib.hid (show sentK f k = (v && (!(t3 && (!f2 || (!f8 && (t1 || q)))) && (t7 || f8))) by
  unfold sentK
  rw [hki, hv, hq, hf2, hf8, ← ht1, ← ht7, ← ht3]
  exact sent_eq v q f2 f8 ki k.typ)
 obtain ⟨R, hR⟩ : ∃ R, sentK f k = R := ⟨_, rfl⟩
 obtain ⟨E, hE⟩ : ∃ E, enV (lookE k.code) = E := ⟨_, rfl⟩
 rw [hE] at HLK hf
 rw [hR] at HC ⊢
 clear hki hE hR hq hv hf2 hf8 hs
 obtain ⟨code, mods, typ, shift, base, text⟩ := k
 simp only [kyV] at HMY HLK HKD HC ht3 ⊢
 have k0 := Blk.new w 25 #[.int .i64 code, .int .i64 mods, .int .i64 typ, .int .i64 shift, .int .i64 base, .string text]
 have hB : Below w.heap.size w (w.alloc (.cells #[.int .i64 code, .int .i64 mods, .int .i64 typ, .int .i64 shift, .int .i64 base, .string text] 25)) := (Below.refl _ w).alloc (Nat.le_refl _) _
 obtain ⟨a0, a1, a2, a3, a4, a5⟩ := Blk.cells6 k0
 go_enter Tryz.func36, Tryz.ntmps36
 go_wp2_with fail
 refine (HMY.out _).mono ?_
 rintro e w1 ⟨rfl, hb1⟩
 have k1 := k0.below hb1 k0.lt
 have hB1 := hB.trans (hb1.mono hB.size)
 clear HMY k0 hB hb1 a0 a1 a2 a3 a4 a5
 have a0 := k1.cell 0
 cases v with
 | false =>
   have HR := Lib.hid (show R = false from HC.out)
   clear HC
   go_wp2_with fail
   go_ret
   exact ⟨ret_b HR.out.symm, hB1⟩
 | true =>
 go_wp2_with fail
 refine (HLK.out _).mono ?_
 rintro e w2 ⟨rfl, hb2⟩
 have k2 := k1.below hb2 k1.lt
 have hB2 := hB1.trans (hb2.mono hB1.size)
 clear HLK k1 hB1 hb2 a0
 go_wp2_with fail
 refine (HF8.out _).mono ?_
 rintro e w3 ⟨rfl, hb3⟩
 have k3 := k2.below hb3 k2.lt
 have hB3 := hB2.trans (hb3.mono hB2.size)
 clear HF8 k2 hB2 hb3
 have a0 := k3.cell 0
 have a2 := k3.cell 2
 cases t3 with
 | false =>
   have HR := Lib.hid (show R = (t7 || f8) from HC.out)
   clear HC
   cases t7 with
   | true =>
     go_wp2_with fail
     go_ret
     exact ⟨ret_b HR.out.symm, hB3⟩
   | false =>
     go_wp2_with fail
     go_ret
     exact ⟨ret_b HR.out.symm, hB3⟩
 | true =>
 go_wp2_with fail
 refine (HF2.out _).mono ?_
 rintro e w4 ⟨rfl, hb4⟩
 have k4 := k3.below hb4 k3.lt
 have hB4 := hB3.trans (hb4.mono hB3.size)
 clear HF2 k3 hB3 hb4 a0 a2
 have a0 := k4.cell 0
 cases f2 with
 | false =>
   have HR := Lib.hid (show R = false from HC.out)
   clear HC
   go_wp2_with fail
   go_ret
   exact ⟨ret_b HR.out.symm, hB4⟩
 | true =>
 cases f8 with
 | true =>
   have HR := Lib.hid (show R = (t7 || true) from HC.out)
   clear HC
   cases t7 with
   | true =>
     go_wp2_with fail
     go_ret
     exact ⟨ret_b HR.out.symm, hB4⟩
   | false =>
     go_wp2_with fail
     go_ret
     exact ⟨ret_b HR.out.symm, hB4⟩
 | false =>
 cases t1 with
 | true =>
   have HR := Lib.hid (show R = false from HC.out)
   clear HC
   go_wp2_with fail
   go_ret
   exact ⟨ret_b HR.out.symm, hB4⟩
 | false =>
 go_wp2_with fail
 refine (HKD.out _).mono ?_
 rintro e w5 ⟨rfl, hb5⟩
 have hB5 := hB4.trans (hb5.mono hB4.size)
 cases q with
 | true =>
   have HR := Lib.hid (show R = false from HC.out)
   clear HC
   go_wp2_with fail
   go_ret
   exact ⟨ret_b HR.out.symm, hB5⟩
 | false =>
   have HR := Lib.hid (show R = (t7 || false) from HC.out)
   clear HC
   cases t7 with
   | true =>
     go_wp2_with fail
     go_ret
     exact ⟨ret_b HR.out.symm, hB5⟩
   | false =>
     go_wp2_with fail
     go_ret
     exact ⟨ret_b HR.out.symm, hB5⟩
def OutI (L : List Int) (n : Nat) (w : World) (e : Ending) (w' : World) : Prop := ∃ A c, e = .returned (.slice A n c) ∧ RowI w' w'.heap.size 3 A L ∧ Below w.heap.size w w'
theorem rd_row (w : World) (l : List Int) (L : Array Value) (h : is_ l = L.toList) : RowI (w.alloc (.cells L 3)) (w.alloc (.cells L 3)).heap.size 3 (some ⟨w.heap.size, 0, none⟩) l := fun _ =>
 ⟨w.heap.size, rfl, by simp, ⟨L, (0, 0), heap_alloc_new w _⟩, fun k u hu => by rw [(Blk.new w 3 L).cell k, ← Array.getElem?_toList, ← h]; exact hu⟩
theorem Own.row {w : World} {B n c : Nat} {e : TypeId} {A : Option Addr} {p : List Int} (h : Own w B e 1 (.slice A n c) n (is_ p)) : RowI w w.heap.size e A p := by
 obtain ⟨_, A', c', hv, hr⟩ := RowI.own h
 injection hv with h1 _ _
 subst h1
 exact hr
theorem OutI.of {L M : List Int} {n : Nat} {w w' : World} {A : Option Addr} {c : Nat} (h : L = M) (hn : n = M.length) (hr : RowI w' w'.heap.size 3 A M) (hb : Below w.heap.size w w') : OutI L L.length w (.returned (.slice A n c)) w' := by
 subst h hn
 exact ⟨A, c, rfl, hr, hb⟩
set_option maxRecDepth 100000 in
set_option maxHeartbeats 4000000 in
theorem rsecond_any (f : Int) (k : Ky) (h0 : 0 ≤ k.mods) (h1 : k.mods ≤ 255) (w : World) : Calls Tryz.prog 87 #[.int .i64 f, kyV k] w (OutI (secondK f k) (secondK f k).length w) := by
 obtain ⟨f2, hf2⟩ : ∃ b, flagK f 2 = b := ⟨_, rfl⟩
 have HF2 : Hid (∀ W, Calls Tryz.prog 37 #[.int .i64 f, .int .i64 2] W fun e w' => e = .returned (.bool f2) ∧ Below W.heap.size W w') := Lib.hid fun W => by rw [← hf2]; exact rflag_any f 2 (by decide) (by decide) W
 have HC := Lib.hid (show secondK f k = if f2 = true ∧ k.typ ≠ 1 then [1 + k.mods, k.typ] else if k.mods ≠ 0 then [1 + k.mods] else [-1] by unfold secondK; rw [hf2])
 obtain ⟨R, hR⟩ : ∃ R, secondK f k = R := ⟨_, rfl⟩
 rw [hR] at HC ⊢
 have hw : IntKind.i64.wrap (1 + k.mods) = 1 + k.mods := by rw [IntKind.wrap_i64]; omega
 clear hf2 hR h0 h1
 obtain ⟨code, mods, typ, shift, base, text⟩ := k
 simp only [kyV] at HC hw ⊢
 have k0 := Blk.new w 25 #[.int .i64 code, .int .i64 mods, .int .i64 typ, .int .i64 shift, .int .i64 base, .string text]
 have hB : Below w.heap.size w (w.alloc (.cells #[.int .i64 code, .int .i64 mods, .int .i64 typ, .int .i64 shift, .int .i64 base, .string text] 25)) := (Below.refl _ w).alloc (Nat.le_refl _) _
 go_enter Tryz.func87, Tryz.ntmps87
 go_wp2_with fail
 refine (HF2.out _).mono ?_
 rintro e w1 ⟨rfl, hb1⟩
 have k1 := k0.below hb1 k0.lt
 have hB1 := hB.trans (hb1.mono hB.size)
 clear k0 hB hb1 HF2
 have a1 := k1.cell 1
 have a2 := k1.cell 2
 have tail : ∀ x, (typ == 1) = x → (f2 = true → x = true) → (R = if mods ≠ 0 then [1 + mods] else [-1]) := fun x hx hh => by
  rw [HC.out, if_neg]
  rintro ⟨e1, e2⟩
  rw [hh e1] at hx
  exact e2 (eq_of_beq hx)
 cases f2 with
 | true =>
   by_cases ht : typ = 1
   ·have HT := Lib.hid (tail true (by simp [ht]) (fun _ => rfl))
    clear tail HC
    subst ht
    by_cases hm : mods = 0
    ·subst hm
     have HR := Lib.hid (show R = [-1] by rw [HT.out]; rfl)
     clear HT
     go_wp2_with fail
     go_ret
     exact OutI.of HR.out rfl (rd_row w1 [-1] _ rfl) (hB1.alloc hB1.size _)
    ·have t0 : (mods == 0) = false := beq_false_of_ne hm
     have t1 : (mods != 0) = true := by simp [bne, t0]
     have HR := Lib.hid (show R = [1 + mods] by rw [HT.out, if_pos hm])
     clear hm HT
     go_wp2_with fail
     go_ret
     exact OutI.of HR.out rfl (rd_row w1 [1 + mods] _ rfl) (hB1.alloc hB1.size _)
   ·have t0 : (typ == 1) = false := beq_false_of_ne ht
    have t1 : (typ != 1) = true := by simp [bne, t0]
    have HR := Lib.hid (show R = [1 + mods, typ] by rw [HC.out, if_pos ⟨rfl, ht⟩])
    clear tail HC ht
    go_wp2_with fail
    go_ret
    exact OutI.of HR.out rfl (rd_row w1 [1 + mods, typ] _ rfl) (hB1.alloc hB1.size _)
 | false =>
   have HT := Lib.hid (show R = if mods ≠ 0 then [1 + mods] else [-1] by rw [HC.out]; simp)
   clear tail HC
   by_cases hm : mods = 0
   ·subst hm
    have HR := Lib.hid (show R = [-1] by rw [HT.out]; rfl)
    clear HT
    go_wp2_with fail
    go_ret
    exact OutI.of HR.out rfl (rd_row w1 [-1] _ rfl) (hB1.alloc hB1.size _)
   ·have t0 : (mods == 0) = false := beq_false_of_ne hm
    have t1 : (mods != 0) = true := by simp [bne, t0]
    have HR := Lib.hid (show R = [1 + mods] by rw [HT.out, if_pos hm])
    clear hm HT
    go_wp2_with fail
    go_ret
    exact OutI.of HR.out rfl (rd_row w1 [1 + mods] _ rfl) (hB1.alloc hB1.size _)
theorem rputE_any (s : Sq) (A : Option Addr) (c : Nat) (m : Int) (T : List UInt8) (w : World) (hm : mayS s = m) (hT : putE s = T) (hp : s.params.length ≤ 4294967296) (hi : s.inter.length ≤ 4294967296) (hr : RdP w A s.params) :
 Calls Tryz.prog 42 #[sqV s A c] w (PutE m T w) := by
 subst hT
 subst hm
 by_cases h : mayS s = 0
 ·refine (wput_yes s A c w h hr).mono ?_
  rintro e w' ⟨⟨A', c', rfl, h1, h2⟩, hb⟩
  rw [putE_0 h, h]
  exact ⟨⟨A', c', rfl, h1, h2⟩, hb⟩
 ·refine (wput_no s A c _ w rfl h hp hi hr).mono ?_
  rintro e w' ⟨rfl, hb⟩
  rw [putE_no h]
  exact ⟨⟨none, 0, rfl, Nat.le_refl _, Rd.nil _ _⟩, hb⟩
set_option maxRecDepth 100000 in
theorem rold_any (n : Int) (w : World) : Calls Tryz.prog 44 #[.int .i64 n] w fun e w' => e = .returned (.int .i64 (oldN n)) ∧ Below w.heap.size w w' := by
 obtain ⟨N, hN⟩ : ∃ N, max n 0 = N := ⟨_, rfl⟩
 have hmax := max0 n N hN (P := Tryz.prog)
 obtain ⟨F, hF⟩ : ∃ F, oldN n = F := ⟨_, rfl⟩
 have hm : Int.tmod N 8 = F := by
  rw [Int.tmod_eq_emod_of_nonneg (by omega), ← hF, ← hN]
  rfl
 rw [hF]
 clear hF hN
 go_enter Tryz.func44, Tryz.ntmps44
 go_wp2
 go_ret
 exact ⟨rfl, by first | exact Below.refl _ _ | exact below_drewN (Below.refl _ _) _⟩
theorem rput_sqn {kind f : Int} {l : List Int} {n : Nat} (hn : l.length = n) (hl : n ≤ 30) (f0 : 0 ≤ f) (f1 : f < 256) (A : Option Addr) (c : Nat) (w : World) (hr : RdP w A (l.map fun n => [n])) :
 Calls Tryz.prog 42 #[.agg #[.int .i64 kind, .int .u8 0, .slice A n c, .string ⟨#[]⟩, .int .u8 f, .string ⟨#[]⟩]] w fun e w' => (∃ B d m, e = .returned (.tuple #[.slice B (seqB kind f l).length d, .int .i64 m]) ∧ Rd w' B (bs (seqB kind f l))) ∧ Below w.heap.size w w' := by
 rw [← sqn_v (kind := kind) hn f0 f1 A c]
 by_cases hm : mayS (sqN kind f l) = 0
 ·refine (wput_yes (sqN kind f l) A c w hm hr).mono ?_
  rintro e w' ⟨⟨B, d, rfl, _, hr'⟩, hb⟩
  rw [show seqB kind f l = putS (sqN kind f l) from if_pos hm]
  exact ⟨⟨B, d, 0, rfl, hr'⟩, hb⟩
 ·have hp : (sqN kind f l).params.length ≤ 4294967296 := by show (l.map fun n => [n]).length ≤ _; rw [List.length_map]; omega
  refine (wput_no (sqN kind f l) A c _ w rfl hm hp (by show 0 ≤ _; omega) hr).mono ?_
  rintro e w' ⟨rfl, hb⟩
  rw [show seqB kind f l = [] from if_neg hm]
  exact ⟨⟨none, 0, _, rfl, Rd.nil _ _⟩, hb⟩
set_option maxRecDepth 100000 in
set_option maxHeartbeats 16000000 in
theorem rseq11_any (kind f : Int) (f0 : 0 ≤ f) (f1 : f < 256) (B : Option Addr) (l : List Int) (n d : Nat) (hn : l.length = n) (hl : n ≤ 30) (w : World) (hr : Rd w B (is_ l)) :
 Calls Tryz.prog 47 #[.int .i64 kind, .int .u8 f, .slice B n d] w (Out (seqB kind f l) w) := by
 obtain ⟨j0, hj, hy0, hy1, hy2⟩ : ∃ i, Tryz.prog.info? 57 = some i ∧ i.zero = some (.slice none 0 0) ∧ i.size = 1 ∧ i.bytes = 24 := ⟨_, rfl, rfl, rfl, rfl⟩
 have HN := Lib.hid hn
 clear hn
 have hs0 := Blk.new w 40 #[.int .i64 kind, .int .u8 0, .slice none 0 0, .string ⟨#[]⟩, .int .u8 f, .string ⟨#[]⟩]
 have hb0 := (Below.refl w.heap.size w).alloc (Nat.le_refl _) (.cells #[.int .i64 kind, .int .u8 0, .slice none 0 0, .string ⟨#[]⟩, .int .u8 f, .string ⟨#[]⟩] 40)
 go_enter Tryz.func47, Tryz.ntmps47
 go_wp2_with fail
 have hlt34 : w.heap.size < (w.alloc (.cells #[.int .i64 kind, .int .u8 0, .slice none 0 0, .string ⟨#[]⟩, .int .u8 f, .string ⟨#[]⟩] 40)).heap.size := hs0.lt
 generalize w.alloc (.cells #[.int .i64 kind, .int .u8 0, .slice none 0 0, .string ⟨#[]⟩, .int .u8 f, .string ⟨#[]⟩] 40) = W0 at *
 go_loopw [8] (fun i wr => ∃ (k : Nat) (v : Value) (xs : List Value), k ≤ n ∧ i = .int .i64 k ∧ Own wr W0.heap.size 57 1 v k xs ∧ (∃ B2, B2 ≤ wr.heap.size ∧ Rows wr B2 3 xs ((l.take k).map fun n => [n])) ∧ Blk wr w.heap.size 40 #[.int .i64 kind, .int .u8 0, v, .string ⟨#[]⟩, .int .u8 f, .string ⟨#[]⟩] ∧ Below w.heap.size w wr ∧ W0.heap.size ≤ wr.heap.size) (fun i _ => n - (intOf i).toNat)
 case atStart => exact ⟨0, _, [], Nat.zero_le _, rfl, Own.nil_ _ _ _ _, ⟨0, Nat.zero_le _, by rfl, fun k hk => absurd hk (by simp)⟩, hs0, hb0, Nat.le_refl _⟩
 case round =>
  obtain ⟨k, v, xs, hk, rfl, ho, ⟨B2, hB2, hrs⟩, hs, hbw, hW⟩ := hrel
  clear hs0 hb0
  obtain ⟨d0, d1, d2, d3, d4, d5⟩ := Blk.cells6 hs
  by_cases hlt : k < n
  ·have hkl : k < l.length := by rw [HN.out]; exact hlt
   obtain ⟨bb, oo, rfl, hbb, hcc⟩ := (hr.below hbw).int_at (by rw [HN.out]; omega)
   have hck := hcc k hkl
   obtain ⟨u, hu⟩ : ∃ u, l[k]'hkl = u := ⟨_, rfl⟩
   rw [hu] at hck
   have HX := Lib.hid (show l.take (k + 1) = l.take k ++ [u] by rw [List.take_succ_eq_append_getElem hkl, hu])
   clear hu hcc
   obtain ⟨Av, cv, rfl, _⟩ := ho.form
   have hown1 := (ho.alloc (.cells #[.int .i64 u] 3)).alloc (.cells #[.slice (some ⟨wr.heap.size, 0, none⟩) 1 1] 57)
   have hrd1 : Rd ((wr.alloc (.cells #[.int .i64 u] 3)).alloc (.cells #[.slice (some ⟨wr.heap.size, 0, none⟩) 1 1] 57)) (some ⟨wr.heap.size + 1, 0, none⟩) [.slice (some ⟨wr.heap.size, 0, none⟩) 1 1] := by
    have := Rd.block (xs := [.slice (some ⟨wr.heap.size, 0, none⟩) 1 1]) (heap_alloc_new (wr.alloc (.cells #[.int .i64 u] 3)) (.cells #[.slice (some ⟨wr.heap.size, 0, none⟩) 1 1] 57)) (by simp)
    rwa [World.size_alloc] at this
   have hin : RowI (wr.alloc (.cells #[.int .i64 u] 3)) (wr.heap.size + 1) 3 (some ⟨wr.heap.size, 0, none⟩) [u] := by
    obtain ⟨_, A', c', h1, h2⟩ := own_row (p := [u]) (own_lit (wr.alloc (.cells #[.int .i64 u] 3)) 0 3 wr.heap.size (.int .i64 u) (Nat.zero_le _) (heap_alloc_new wr _))
    cases h1
    rwa [World.size_alloc] at h2
   have hrs1 := ((hrs.keep (Nat.le_refl B2) (fun q hq _ => Below.heap_alloc wr (.cells #[.int .i64 u] 3) q (by omega))).keep (B' := wr.heap.size + 1) (by omega) (fun _ _ _ => rfl)).snoc2 (n := 1) rfl (c := 1) hin
   have hrs2 := hrs1.keep (Nat.le_refl _) (fun q hq _ => Below.heap_alloc (wr.alloc (.cells #[.int .i64 u] 3)) (.cells #[.slice (some ⟨wr.heap.size, 0, none⟩) 1 1] 57) q (by simp; omega))
   have hs2 := (hs.alloc (.cells #[.int .i64 u] 3)).alloc (.cells #[.slice (some ⟨wr.heap.size, 0, none⟩) 1 1] 57)
   have hb2 : Below w.heap.size w ((wr.alloc (.cells #[.int .i64 u] 3)).alloc (.cells #[.slice (some ⟨wr.heap.size, 0, none⟩) 1 1] 57)) := (hbw.alloc hbw.size _).alloc (Nat.le_trans hbw.size (by simp)) _
   have h63 : k + 1 ≤ maxLen := by simp only [maxLen]; omega
   have hlim : (k + 1) * 24 ≤ 140737488355328 := by omega
   have hbs : W0.heap.size ≤ ((wr.alloc (.cells #[.int .i64 u] 3)).alloc (.cells #[.slice (some ⟨wr.heap.size, 0, none⟩) 1 1] 57)).heap.size := by simp; omega
   have hsz2 : wr.heap.size + 1 ≤ ((wr.alloc (.cells #[.int .i64 u] 3)).alloc (.cells #[.slice (some ⟨wr.heap.size, 0, none⟩) 1 1] 57)).heap.size := by simp
   clear hrs hrs1 hin ho
   have hown1 := hown1.drew
   have i2a : (wr.alloc (.cells #[.int .i64 u] 3)).drew.cell? ⟨w.heap.size, 2, none⟩ = some (.slice Av k cv) := (hs.alloc (.cells #[.int .i64 u] 3)).cell 2
   have i2b : ((wr.alloc (.cells #[.int .i64 u] 3)).alloc (.cells #[.slice (some ⟨wr.heap.size, 0, none⟩) 1 1] 57)).drew.cell? ⟨w.heap.size, 2, none⟩ = some (.slice Av k cv) := hs2.cell 2
   have hrd1 : Rd ((wr.alloc (.cells #[.int .i64 u] 3)).alloc (.cells #[.slice (some ⟨wr.heap.size, 0, none⟩) 1 1] 57)).drew (some ⟨wr.heap.size + 1, 0, none⟩) [.slice (some ⟨wr.heap.size, 0, none⟩) 1 1] := hrd1
   have hs2 : Blk ((wr.alloc (.cells #[.int .i64 u] 3)).alloc (.cells #[.slice (some ⟨wr.heap.size, 0, none⟩) 1 1] 57)).drew w.heap.size 40 #[.int .i64 kind, .int .u8 0, .slice Av k cv, .string ⟨#[]⟩, .int .u8 f, .string ⟨#[]⟩] := hs2
   have hrs2 : Rows ((wr.alloc (.cells #[.int .i64 u] 3)).alloc (.cells #[.slice (some ⟨wr.heap.size, 0, none⟩) 1 1] 57)).drew (wr.heap.size + 1) 3 (xs ++ [.slice (some ⟨wr.heap.size, 0, none⟩) 1 1]) ((l.take k).map (fun n => [n]) ++ [[u]]) := hrs2
   have hb2 : Below w.heap.size w ((wr.alloc (.cells #[.int .i64 u] 3)).alloc (.cells #[.slice (some ⟨wr.heap.size, 0, none⟩) 1 1] 57)).drew := hb2.drew
   have hbs : W0.heap.size ≤ ((wr.alloc (.cells #[.int .i64 u] 3)).alloc (.cells #[.slice (some ⟨wr.heap.size, 0, none⟩) 1 1] 57)).drew.heap.size := hbs
   have hsz2 : wr.heap.size + 1 ≤ ((wr.alloc (.cells #[.int .i64 u] 3)).alloc (.cells #[.slice (some ⟨wr.heap.size, 0, none⟩) 1 1] 57)).drew.heap.size := hsz2
   go_wp2_with fail
   go_region_law (refine step_app _ rfl (.tmp 21) (.tmp 27) 38 rfl W0.heap.size 57 j0 _ 1 24 Tryz.underlying38 hj hy0 hy1 hy2 rfl Nat.one_pos (.slice Av k cv) k xs (by simp [Act.eval]) hown1 (some ⟨wr.heap.size + 1, 0, none⟩) 1 1 [.slice (some ⟨wr.heap.size, 0, none⟩) 1 1] (by simp [Act.eval]) rfl hrd1 (sl_one _ _ _) h63 hlim hbs ?_; intro v5 w5 hown5 hg5; obtain ⟨A5, c5, rfl, hf5⟩ := hown5.form; clear hf5; have hs5 := hs2.grown hg5 (hown1.no_cells hs2 (by decide)); have fz5 := hs5.frozen 2; obtain ⟨e0, e1, e2, e3, e4, e5⟩ := Blk.cells6 hs5)
   all_goals
    have hrs5 := hrs2.keep (B' := wr.heap.size + 1) (Nat.le_refl _) (keep_out hown1 (by decide) hg5)
    have hb5 : Below w.heap.size w w5 := hb2.grown hg5 (Nat.le_trans hbw.size (Nat.le_trans (Nat.le_succ _) hsz2)) (fun g hg => by have := (hown1.lt g hg).1; omega)
    have hsz5 : wr.heap.size + 1 ≤ w5.heap.size := Nat.le_trans hsz2 hg5.size
    have hgs := grown_setCell w.heap.size 2 (.slice A5 (k + 1) c5) w5
    clear hg5 hown1 hrd1 hs2 hb2 h63 hlim hbs hsz2 hrs2 i2a i2b
    go_wp2_with fail
    go_roundw
    case rel =>
     refine ⟨k + 1, _, xs ++ [.slice (some ⟨wr.heap.size, 0, none⟩) 1 1], by omega, by go_num, hown5.kept hgs (.inr (hown5.no_cells hs5 (by decide))), ⟨wr.heap.size + 1, by simp; exact hsz5, ?_⟩, hs5.set 2 _, hb5.setCell (p := ⟨w.heap.size, 2, none⟩) (Nat.le_refl _) _, Nat.le_trans hW (Nat.le_trans (Nat.le_succ _) (by simpa using hsz5))⟩
     rw [HX.out, List.map_append]
     exact hrs5.keep (Nat.le_refl _) (fun q _ ⟨cur, fz, hh⟩ => hgs.block q (Array.getElem?_eq_some_iff.1 hh).1 (fun e => tag_ne hs5 hh (by decide) (by injection e)))
    case measure => simp [intOf]; omega
  ·obtain rfl : k = n := by omega
   have HT := Lib.hid (show l.take k = l from List.take_of_length_le (by rw [HN.out]; omega))
   obtain ⟨A3, c3, rfl, hrow⟩ := hrs.rdpn ho hs (by decide) (by decide)
   rw [HT.out] at hrow
   have hr5 : RdP wr A3 (l.map fun n => [n]) := hrow.rdp
   clear hrow ho hrs hW hB2 HT hr
   go_wp2_with fail
   refine (rput_sqn (kind := kind) HN.out hl f0 f1 A3 c3 wr hr5).mono ?_
   rintro e w2 ⟨⟨C, d2, m, rfl, hrC⟩, hbC⟩
   go_wp2_with fail
   go_ret
   exact ⟨_, _, rfl, hrC, hbw.trans (hbC.mono hbw.size)⟩
end Go.Proofs.YtceipblcdcgljaaGreatDoor
