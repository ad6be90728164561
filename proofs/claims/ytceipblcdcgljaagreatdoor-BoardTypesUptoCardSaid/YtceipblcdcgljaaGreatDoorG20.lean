/-
  Stage 13, the landed kitty: what its event's methods say. Stage 12, the landed other: a sequence of its numbers; its event.
-/
import Derived.Test.YtceipblcdcgljaaGreatDoorG02
import Derived.Test.YtceipblcdcgljaaGreatDoorG07
import Derived.Test.YtceipblcdcgljaaGreatDoorG09
import Derived.Test.YtceipblcdcgljaaGreatDoorG10
import Derived.Test.YtceipblcdcgljaaGreatDoorG13
import Derived.Test.YtceipblcdcgljaaGreatDoorG18
import Derived.Test.YtceipblcdcgljaaGreatDoorG19
import Derived.Deep.Cut
namespace Go.Proofs.YtceipblcdcgljaaGreatDoor
open Go.RowKit
def evV13 (k : Ky) (s K : Int) : Value := .agg #[.int .i64 k.code, .int .i64 k.mods, .int .i64 k.typ, .int .i64 k.shift, .int .i64 k.base, .string k.text, .int .i64 s, .int .i64 K]
theorem Blk.cells8 {w : World} {g : Nat} {t : TypeId} {p0 p1 p2 p3 p4 p5 p6 p7 : Value} (h : Blk w g t #[p0, p1, p2, p3, p4, p5, p6, p7]) :
 w.cell? ⟨g, 0, none⟩ = some p0 ∧ w.cell? ⟨g, 1, none⟩ = some p1 ∧ w.cell? ⟨g, 2, none⟩ = some p2 ∧ w.cell? ⟨g, 3, none⟩ = some p3 ∧ w.cell? ⟨g, 4, none⟩ = some p4 ∧ w.cell? ⟨g, 5, none⟩ = some p5 ∧ w.cell? ⟨g, 6, none⟩ = some p6 ∧ w.cell? ⟨g, 7, none⟩ = some p7 :=
 ⟨h.cell 0, h.cell 1, h.cell 2, h.cell 3, h.cell 4, h.cell 5, h.cell 6, h.cell 7⟩
theorem kip_ret {x y : Bool} (h : x = y) : Ending.returned (.bool x) = .returned (.bool y) := by rw [h]
set_option maxRecDepth 100000 in
set_option maxHeartbeats 8000000 in
theorem khas_any (s d : Int) (q : Bool) (hq : (bits .and .i64 s d != 0) = q) (w : World) : Calls Tryz.prog 68 #[.int .i64 s, .int .i64 d] w fun e w' => e = .returned (.bool q) ∧ Below w.heap.size w w' := by
 have HQ := Lib.hid hq
 clear hq
 go_enter Tryz.func68, Tryz.ntmps68
 go_wp2_with fail
 go_ret
 exact ⟨kip_ret HQ.out, Below.refl _ _⟩
def typB (t1 t9 t13 t127 : Bool) : Bool := t1 || t9 || t13 || t127
set_option maxRecDepth 100000 in
set_option maxHeartbeats 8000000 in
theorem ktypes_any (k : Ky) (s K : Int) (q : Bool) (hq : ((K == 1) || keyedK k.code) = q) (w : World) : Calls Tryz.prog 102 #[evV13 k s K] w fun e w' => e = .returned (.bool q) ∧ Below w.heap.size w w' := by
 obtain ⟨code, mods, typ, shift, base, text⟩ := k
 simp only [evV13, keyedK] at hq ⊢
 obtain ⟨t1, h1⟩ : ∃ x, (K == 1) = x := ⟨_, rfl⟩
 obtain ⟨t9, h9⟩ : ∃ x, (code == 9) = x := ⟨_, rfl⟩
 obtain ⟨t13, h13⟩ : ∃ x, (code == 13) = x := ⟨_, rfl⟩
 obtain ⟨t127, h127⟩ : ∃ x, (code == 127) = x := ⟨_, rfl⟩
 rw [h1, h9, h13, h127, ← Bool.or_assoc, ← Bool.or_assoc] at hq
 have HQ := Lib.hid (show typB t1 t9 t13 t127 = q from hq)
 clear hq
 have k0 := Blk.new w 95 #[.int .i64 code, .int .i64 mods, .int .i64 typ, .int .i64 shift, .int .i64 base, .string text, .int .i64 s, .int .i64 K]
 have hB0 : Below w.heap.size w (w.alloc (.cells #[.int .i64 code, .int .i64 mods, .int .i64 typ, .int .i64 shift, .int .i64 base, .string text, .int .i64 s, .int .i64 K] 95)) := (Below.refl _ _).alloc (Nat.le_refl _) _
 obtain ⟨a0, a1, a2, a3, a4, a5, a6, a7⟩ := Blk.cells8 k0
 cases t1 with
 | true =>
   go_enter Tryz.func102, Tryz.ntmps102
   go_wp2_with fail
   go_ret
   exact ⟨kip_ret HQ.out, hB0⟩
 | false =>
   cases t9 with
   | true =>
     go_enter Tryz.func102, Tryz.ntmps102
     go_wp2_with fail
     go_ret
     exact ⟨kip_ret HQ.out, hB0⟩
   | false =>
     cases t13 with
     | true =>
       go_enter Tryz.func102, Tryz.ntmps102
       go_wp2_with fail
       go_ret
       exact ⟨kip_ret HQ.out, hB0⟩
     | false =>
       cases t127 with
       | true =>
         go_enter Tryz.func102, Tryz.ntmps102
         go_wp2_with fail
         go_ret
         exact ⟨kip_ret HQ.out, hB0⟩
       | false =>
         go_enter Tryz.func102, Tryz.ntmps102
         go_wp2_with fail
         go_ret
         exact ⟨kip_ret HQ.out, hB0⟩
def sentB (t3 b2 b8 t7 tt : Bool) : Bool := if (t3 && !b2) = true then false else if b8 = true then true else t7 && !(t3 && tt)
set_option maxRecDepth 100000 in
set_option maxHeartbeats 8000000 in
theorem ksent_any (k : Ky) (s K : Int) (b2 b8 q : Bool) (h2 : (bits .and .i64 s 2 != 0) = b2) (h8 : (bits .and .i64 s 8 != 0) = b8) (hq : sentB (k.typ == 3) b2 b8 (K != 7) ((K == 1) || keyedK k.code) = q) (w : World) : Calls Tryz.prog 67 #[evV13 k s K] w fun e w' => e = .returned (.bool q) ∧ Below w.heap.size w w' := by
 have H2 : Hid (∀ W, Calls Tryz.prog 68 #[.int .i64 s, .int .i64 2] W fun e w' => e = .returned (.bool b2) ∧ Below W.heap.size W w') := Lib.hid fun W => khas_any s 2 b2 h2 W
 have H8 : Hid (∀ W, Calls Tryz.prog 68 #[.int .i64 s, .int .i64 8] W fun e w' => e = .returned (.bool b8) ∧ Below W.heap.size W w') := Lib.hid fun W => khas_any s 8 b8 h8 W
 obtain ⟨tt, htt⟩ : ∃ x, ((K == 1) || keyedK k.code) = x := ⟨_, rfl⟩
 have HT : Hid (∀ W, Calls Tryz.prog 102 #[evV13 k s K] W fun e w' => e = .returned (.bool tt) ∧ Below W.heap.size W w') := Lib.hid fun W => ktypes_any k s K tt htt W
 rw [htt] at hq
 clear htt h2 h8
 obtain ⟨code, mods, typ, shift, base, text⟩ := k
 simp only [evV13] at hq HT ⊢
 obtain ⟨t3, h3⟩ : ∃ x, (typ == 3) = x := ⟨_, rfl⟩
 obtain ⟨t7, h7⟩ : ∃ x, (K != 7) = x := ⟨_, rfl⟩
 rw [h3, h7] at hq
 have HQ := Lib.hid hq
 clear hq
 have k0 := Blk.new w 95 #[.int .i64 code, .int .i64 mods, .int .i64 typ, .int .i64 shift, .int .i64 base, .string text, .int .i64 s, .int .i64 K]
 have hB0 : Below w.heap.size w (w.alloc (.cells #[.int .i64 code, .int .i64 mods, .int .i64 typ, .int .i64 shift, .int .i64 base, .string text, .int .i64 s, .int .i64 K] 95)) := (Below.refl _ _).alloc (Nat.le_refl _) _
 obtain ⟨a0, a1, a2, a3, a4, a5, a6, a7⟩ := Blk.cells8 k0
 cases t3 with
 | true =>
   go_enter Tryz.func67, Tryz.ntmps67
   go_wp2_with fail
   refine (H2.out _).mono ?_
   rintro e w1 ⟨rfl, hb1⟩
   have k1 := k0.below hb1 k0.lt
   have hB1 := hB0.trans (hb1.mono hB0.size)
   clear k0 hB0 hb1 a0 a1 a2 a3 a4 a5 a6 a7
   obtain ⟨a0, a1, a2, a3, a4, a5, a6, a7⟩ := Blk.cells8 k1
   cases b2 with
   | false =>
     go_wp2_with fail
     go_ret
     exact ⟨kip_ret HQ.out, hB1⟩
   | true =>
     go_wp2_with fail
     refine (H8.out _).mono ?_
     rintro e w2 ⟨rfl, hb2⟩
     have k2 := k1.below hb2 k1.lt
     have hB2 := hB1.trans (hb2.mono hB1.size)
     clear k1 hB1 hb2 a0 a1 a2 a3 a4 a5 a6 a7
     obtain ⟨a0, a1, a2, a3, a4, a5, a6, a7⟩ := Blk.cells8 k2
     cases b8 with
     | true =>
       go_wp2_with fail
       go_ret
       exact ⟨kip_ret HQ.out, hB2⟩
     | false =>
       cases t7 with
       | false =>
         go_wp2_with fail
         go_ret
         exact ⟨kip_ret HQ.out, hB2⟩
       | true =>
         go_wp2_with fail
         refine (HT.out _).mono ?_
         rintro e w3 ⟨rfl, hb3⟩
         have k3 := k2.below hb3 k2.lt
         have hB3 := hB2.trans (hb3.mono hB2.size)
         clear k2 hB2 hb3 a0 a1 a2 a3 a4 a5 a6 a7
         obtain ⟨a0, a1, a2, a3, a4, a5, a6, a7⟩ := Blk.cells8 k3
         cases tt with
         | true =>
           go_wp2_with fail
           go_ret
           exact ⟨kip_ret HQ.out, hB3⟩
         | false =>
           go_wp2_with fail
           go_ret
           exact ⟨kip_ret HQ.out, hB3⟩
 | false =>
   go_enter Tryz.func67, Tryz.ntmps67
   go_wp2_with fail
   refine (H8.out _).mono ?_
   rintro e w1 ⟨rfl, hb1⟩
   have k1 := k0.below hb1 k0.lt
   have hB1 := hB0.trans (hb1.mono hB0.size)
   clear k0 hB0 hb1 a0 a1 a2 a3 a4 a5 a6 a7
   obtain ⟨a0, a1, a2, a3, a4, a5, a6, a7⟩ := Blk.cells8 k1
   cases b8 with
   | true =>
     go_wp2_with fail
     go_ret
     exact ⟨kip_ret HQ.out, hB1⟩
   | false =>
     cases t7 with
     | false =>
       go_wp2_with fail
       go_ret
       exact ⟨kip_ret HQ.out, hB1⟩
     | true =>
       go_wp2_with fail
       go_ret
       exact ⟨kip_ret HQ.out, hB1⟩
def asB (t1 n1 tt n2 : Bool) : Bool := if t1 = true then n1 else tt && n2
set_option maxRecDepth 100000 in
set_option maxHeartbeats 8000000 in
theorem knone_any (k : Ky) (d : Int) (q : Bool) (hq : (bits .andNot .i64 k.mods d == 0) = q) {g : Nat} {cs : Array Value} (hcs : cs[1]? = some (.int .i64 k.mods)) (w : World) (hk : Blk w g 95 cs) : Calls Tryz.prog 103 #[.int .i64 d, .pointer (some ⟨g, 0, none⟩)] w fun e w' => e = .returned (.bool q) ∧ Below w.heap.size w w' := by
 obtain ⟨m, hm⟩ : ∃ m, k.mods = m := ⟨_, rfl⟩
 rw [hm] at hq hcs
 have a1 : w.cell? ⟨g, 1, none⟩ = some (.int .i64 m) := by rw [hk.cell 1]; exact hcs
 have HQ := Lib.hid hq
 clear hq hk hcs hm
 go_enter Tryz.func103, Tryz.ntmps103
 go_wp2_with fail
 go_ret
 exact ⟨kip_ret HQ.out, Below.refl _ _⟩
set_option maxRecDepth 100000 in
set_option maxHeartbeats 8000000 in
theorem kastext_any (k : Ky) (s K : Int) (n1 n2 q : Bool) (h1 : (bits .andNot .i64 k.mods 193 == 0) = n1) (h2 : (bits .andNot .i64 k.mods 192 == 0) = n2) (hq : asB (K == 1) n1 ((K == 1) || keyedK k.code) n2 = q) (w : World) : Calls Tryz.prog 69 #[evV13 k s K] w fun e w' => e = .returned (.bool q) ∧ Below w.heap.size w w' := by
 have HN1 : Hid (∀ W, Blk W w.heap.size 95 #[.int .i64 k.code, .int .i64 k.mods, .int .i64 k.typ, .int .i64 k.shift, .int .i64 k.base, .string k.text, .int .i64 s, .int .i64 K] → Calls Tryz.prog 103 #[.int .i64 193, .pointer (some ⟨w.heap.size, 0, none⟩)] W fun e w' => e = .returned (.bool n1) ∧ Below W.heap.size W w') := Lib.hid fun W hk => knone_any k 193 n1 h1 rfl W hk
 have HN2 : Hid (∀ W, Blk W w.heap.size 95 #[.int .i64 k.code, .int .i64 k.mods, .int .i64 k.typ, .int .i64 k.shift, .int .i64 k.base, .string k.text, .int .i64 s, .int .i64 K] → Calls Tryz.prog 103 #[.int .i64 192, .pointer (some ⟨w.heap.size, 0, none⟩)] W fun e w' => e = .returned (.bool n2) ∧ Below W.heap.size W w') := Lib.hid fun W hk => knone_any k 192 n2 h2 rfl W hk
 obtain ⟨tt, htt⟩ : ∃ x, ((K == 1) || keyedK k.code) = x := ⟨_, rfl⟩
 have HT : Hid (∀ W, Calls Tryz.prog 102 #[evV13 k s K] W fun e w' => e = .returned (.bool tt) ∧ Below W.heap.size W w') := Lib.hid fun W => ktypes_any k s K tt htt W
 rw [htt] at hq
 clear htt h1 h2
 obtain ⟨code, mods, typ, shift, base, text⟩ := k
 simp only [evV13] at hq HT HN1 HN2 ⊢
 obtain ⟨t1, h1⟩ : ∃ x, (K == 1) = x := ⟨_, rfl⟩
 rw [h1] at hq
 have HQ := Lib.hid hq
 clear hq
 have k0 := Blk.new w 95 #[.int .i64 code, .int .i64 mods, .int .i64 typ, .int .i64 shift, .int .i64 base, .string text, .int .i64 s, .int .i64 K]
 have hB0 : Below w.heap.size w (w.alloc (.cells #[.int .i64 code, .int .i64 mods, .int .i64 typ, .int .i64 shift, .int .i64 base, .string text, .int .i64 s, .int .i64 K] 95)) := (Below.refl _ _).alloc (Nat.le_refl _) _
 obtain ⟨a0, a1, a2, a3, a4, a5, a6, a7⟩ := Blk.cells8 k0
 cases t1 with
 | true =>
   go_enter Tryz.func69, Tryz.ntmps69
   go_wp2_with fail
   refine (HN1.out _ k0).mono ?_
   rintro e w1 ⟨rfl, hb1⟩
   have hB1 := hB0.trans (hb1.mono hB0.size)
   go_wp2_with fail
   go_ret
   exact ⟨kip_ret HQ.out, hB1⟩
 | false =>
   go_enter Tryz.func69, Tryz.ntmps69
   go_wp2_with fail
   refine (HT.out _).mono ?_
   rintro e w1 ⟨rfl, hb1⟩
   have k1 := k0.below hb1 k0.lt
   have hB1 := hB0.trans (hb1.mono hB0.size)
   clear k0 hB0 hb1 a0 a1 a2 a3 a4 a5 a6 a7
   obtain ⟨a0, a1, a2, a3, a4, a5, a6, a7⟩ := Blk.cells8 k1
   cases tt with
   | false =>
     go_wp2_with fail
     go_ret
     exact ⟨kip_ret HQ.out, hB1⟩
   | true =>
     go_wp2_with fail
     refine (HN2.out _ k1).mono ?_
     rintro e w2 ⟨rfl, hb2⟩
     have hB2 := hB1.trans (hb2.mono hB1.size)
     go_wp2_with fail
     go_ret
     exact ⟨kip_ret HQ.out, hB2⟩
set_option maxRecDepth 100000 in
set_option maxHeartbeats 8000000 in
theorem ktext_any (k : Ky) (s K : Int) (L : List UInt8) (hk : okK k) (hs : k.text.size ≤ 4294967296) (hL : (if K = 1 ∧ k.text.data.toList ≠ [] then k.text.data.toList else putL (shownK k)) = L) (w : World) (hz : Siz w) : Calls Tryz.prog 70 #[evV13 k s K] w (Out L w) := by
 obtain ⟨X, hX⟩ : ∃ x, shownK k = x := ⟨_, rfl⟩
 have HSH : Hid (∀ W, Calls Tryz.prog 104 #[kyV k] W fun e w' => e = .returned (.int .i64 X) ∧ Below W.heap.size W w') := Lib.hid fun W => by rw [← hX]; exact pshown_any k hk W
 have HP : Hid (∀ W, Below w.heap.size w W → Calls Tryz.prog 57 #[.int .i64 X] W (Out (putL X) W)) := Lib.hid fun W hW => Put_any X W (hz.below' hW)
 rw [hX] at hL
 have hm : k.text.size ≤ maxLen := by simp only [maxLen]; omega
 clear hX hk hs hz
 obtain ⟨code, mods, typ, shift, base, text⟩ := k
 simp only [evV13, kyV] at hL HSH hm ⊢
 have k0 := Blk.new w 95 #[.int .i64 code, .int .i64 mods, .int .i64 typ, .int .i64 shift, .int .i64 base, .string text, .int .i64 s, .int .i64 K]
 have hB0 : Below w.heap.size w (w.alloc (.cells #[.int .i64 code, .int .i64 mods, .int .i64 typ, .int .i64 shift, .int .i64 base, .string text, .int .i64 s, .int .i64 K] 95)) := (Below.refl _ _).alloc (Nat.le_refl _) _
 obtain ⟨a0, a1, a2, a3, a4, a5, a6, a7⟩ := Blk.cells8 k0
 by_cases h1 : K = 1
 ·subst h1
  by_cases hne : text.data.toList = []
  ·have HE := Lib.hid (show putL X = L by rw [← hL, if_neg (fun h => h.2 hne)])
   have te : text = ⟨#[]⟩ := by apply ByteArray.ext; simpa using hne
   subst te
   clear hL hne hm
   go_enter Tryz.func70, Tryz.ntmps70
   go_wp2_with fail
   refine (HSH.out _).mono ?_
   rintro e w1 ⟨rfl, hb1⟩
   have k1 := k0.below hb1 k0.lt
   have hB1 := hB0.trans (hb1.mono hB0.size)
   clear k0 hB0 hb1 a0 a1 a2 a3 a4 a5 a6 a7
   obtain ⟨a0, a1, a2, a3, a4, a5, a6, a7⟩ := Blk.cells8 k1
   go_wp2_with fail
   refine (HP.out _ hB1).mono ?_
   rintro e w9 ⟨A, c, rfl, hr9, hb9⟩
   go_wp2_with fail
   go_ret
   exact out_is HE.out.symm ⟨A, c, rfl, hr9, hB1.trans (hb9.mono hB1.size)⟩
  ·have HE := Lib.hid (show text.data.toList = L by rw [← hL, if_pos ⟨rfl, hne⟩])
   have tl : text.toList.isEmpty = false := text_full hne
   have hs1 := hB0.size
   clear hL hne
   go_enter Tryz.func70, Tryz.ntmps70
   go_wp2_with (first | ((with_reducible refine list_conv _ rfl (.tmp 14) 9 27 rfl w.heap.size 5 text ?_ Tryz.underlying9 Tryz.underlying27 Tryz.underlying5 hm hs1 ?_); rfl; intro v2 w4 hown2 hg2))
   go_ret
   exact out_is HE.out.symm (out_own hown2 (hB0.trans ((below_none hg2).mono hB0.size)))
 ·have HE := Lib.hid (show putL X = L by rw [← hL, if_neg (fun h => h1 h.1)])
  have t1 : (K == 1) = false := beq_false_of_ne h1
  clear hL h1 hm
  go_enter Tryz.func70, Tryz.ntmps70
  go_wp2_with fail
  refine (HSH.out _).mono ?_
  rintro e w1 ⟨rfl, hb1⟩
  have k1 := k0.below hb1 k0.lt
  have hB1 := hB0.trans (hb1.mono hB0.size)
  clear k0 hB0 hb1 a0 a1 a2 a3 a4 a5 a6 a7
  obtain ⟨a0, a1, a2, a3, a4, a5, a6, a7⟩ := Blk.cells8 k1
  go_wp2_with fail
  refine (HP.out _ hB1).mono ?_
  rintro e w9 ⟨A, c, rfl, hr9, hb9⟩
  go_wp2_with fail
  go_ret
  exact out_is HE.out.symm ⟨A, c, rfl, hr9, hB1.trans (hb9.mono hB1.size)⟩
set_option maxRecDepth 100000 in
set_option maxHeartbeats 8000000 in
theorem oseq_any (x y : Int) (A : Option Addr) (c : Nat) (w : World) (hr : Rd w A (is_ [x, y])) : Calls Tryz.prog 75 #[.slice A 2 c] w (NumQ 126 [27, x, y] 3 w) := by
 obtain ⟨i0, hi, hz0, hz1, hz2⟩ : ∃ i, Tryz.prog.info? 3 = some i ∧ i.zero = some (.int .i64 0) ∧ i.size = 1 ∧ i.bytes = 8 := ⟨_, rfl, rfl, rfl, rfl⟩
 have HN : Hid (∀ A c W, Rd W A (is_ [27, x, y]) → Calls Tryz.prog 114 #[.int .u8 0, .int .u8 126, .slice A 3 c] W (NumQN 126 [27, x, y] 3 W)) := Lib.hid fun A c W hr => lnum_anyN 126 (by omega) (by omega) [27, x, y] 3 rfl (by decide) A c W hr
 have hB0 := (Below.refl w.heap.size w).alloc (Nat.le_refl _) (.cells #[.int .i64 0, .int .u8 0, .slice none 0 0, .string ⟨#[]⟩, .int .u8 0, .string ⟨#[]⟩] 40)
 have z0 := (Blk.new w 40 #[.int .i64 0, .int .u8 0, .slice none 0 0, .string ⟨#[]⟩, .int .u8 0, .string ⟨#[]⟩]).alloc (.cells #[.int .i64 27] 3)
 have hB1 := hB0.alloc hB0.size (.cells #[.int .i64 27] 3)
 have o1 := own_lit ((w.alloc (.cells #[.int .i64 0, .int .u8 0, .slice none 0 0, .string ⟨#[]⟩, .int .u8 0, .string ⟨#[]⟩] 40)).alloc (.cells #[.int .i64 27] 3)) w.heap.size 3 (w.heap.size + 1) (.int .i64 27) (Nat.le_succ _) (by have := heap_alloc_new (w.alloc (.cells #[.int .i64 0, .int .u8 0, .slice none 0 0, .string ⟨#[]⟩, .int .u8 0, .string ⟨#[]⟩] 40)) (.cells #[.int .i64 27] 3); simpa using this)
 have r1 : Rd ((w.alloc (.cells #[.int .i64 0, .int .u8 0, .slice none 0 0, .string ⟨#[]⟩, .int .u8 0, .string ⟨#[]⟩] 40)).alloc (.cells #[.int .i64 27] 3)) A [.int .i64 x, .int .i64 y] := hr.below hB1
 have ps := hB1.size
 have p6 : 1 + 2 ≤ maxLen := by decide
 have p7 : (1 + 2) * 8 ≤ 140737488355328 := by decide
 have p8 : ∀ u ∈ [Value.int IntKind.i64 x, .int .i64 y], u.oneCell' = true := fun u hu => by
  simp only [List.mem_cons, List.not_mem_nil, or_false] at hu
  rcases hu with rfl | rfl <;> rfl
 clear hr hB0
 go_enter Tryz.func75, Tryz.ntmps75
 go_wp2_with (at_builtin; refine list_app _ rfl (.tmp 3) (.tmp 4) 57 rfl w.heap.size 3 i0 _ 1 8 Tryz.underlying57 hi hz0 hz1 hz2 rfl Nat.one_pos _ _ _ rfl o1 _ 2 _ [.int .i64 x, .int .i64 y] rfl rfl r1 p8 p6 p7 ps ?_; intro v4 w4 o4 hg)
 have hB4 := hB1.grown hg ps (fun g hg => (o1.lt g hg).1)
 have z4 := z0.grown hg (o1.no_cells z0 (by decide))
 obtain ⟨A4, c4, rfl, hr4⟩ := o4.form
 have hr4 : Rd w4 A4 (is_ [27, x, y]) := hr4
 refine (HN.out A4 c4 _ hr4).mono ?_
 rintro e w5 ⟨A5, c5, g5, rfl, hr5, hb5⟩
 have hB5 := hB4.trans (hb5.mono hB4.size)
 have z5 := z4.below hb5 z4.lt
 have hr6 := hr5.other z5 (by decide) (by decide) (grown_set6 w5 w.heap.size (.int .i64 1) (.int .u8 0) (.slice A5 3 c5) (.string ⟨#[]⟩) (.int .u8 126) (.string ⟨#[]⟩))
 have hB6 := below_set6 hB5 (Nat.le_refl w.heap.size) (.int .i64 1) (.int .u8 0) (.slice A5 3 c5) (.string ⟨#[]⟩) (.int .u8 126) (.string ⟨#[]⟩)
 obtain ⟨d0, d1, d2, d3, d4, d5⟩ := Blk.cells6 z5
 have y0 := z5.frozen 0
 have y1 := z5.frozen 1
 have y2 := z5.frozen 2
 have y3 := z5.frozen 3
 have y4 := z5.frozen 4
 have y5 := z5.frozen 5
 clear z0 z4 o1 o4 hr4 hB4 hb5 hB1 r1 hg hr5 HN
 go_wp2_with fail
 refine bodyPost_ret (v := .agg #[.int .i64 1, .int .u8 0, .slice A5 3 c5, .string ⟨#[]⟩, .int .u8 126, .string ⟨#[]⟩]) (by simp [results, Tryz.results75, go_sem, d0, d1, d2, d3, d4, d5]) rfl ⟨A5, c5, rfl, hr6.rdp, hB6⟩
def EvG (q : Bool) (c : Int) (t : Bool) (o : Int) (w : World) (e : Ending) (w' : World) : Prop := ∃ c' t' o', e = .returned (.tuple #[evO c' t' o', .bool q]) ∧ (q = true → c' = c ∧ t' = t ∧ o' = o) ∧ Below w.heap.size w w'
theorem EvG.no {q : Bool} {c : Int} {t : Bool} {o : Int} {w w' : World} (hq : q = false) {c' : Int} {t' : Bool} {o' : Int} (hb : Below w.heap.size w w') : EvG q c t o w (.returned (.tuple #[.agg #[.int .i64 c', .bool t', .int .i64 o'], .bool false])) w' := by
 subst hq
 exact ⟨_, _, _, rfl, (fun h => by cases h), hb⟩
theorem EvG.yes {q : Bool} {c c' : Int} {t t' : Bool} {o : Int} {w w' : World} (hq : q = true) (hc : c = c') (ht : t = t') (hb : Below w.heap.size w w') : EvG q c t o w (.returned (.tuple #[.agg #[.int .i64 c', .bool t', .int .i64 o], .bool true])) w' := by
 subst hq hc ht
 exact ⟨_, _, _, rfl, (fun _ => ⟨rfl, rfl, rfl⟩), hb⟩
set_option maxRecDepth 100000 in
set_option maxHeartbeats 8000000 in
theorem eventOf_any (k : Ky) (hk : okK k) (hs : k.text.size ≤ 4294967296) (w : World) (hz : Siz w) (hR : Rws w) : Calls Tryz.prog 72 #[kyV k] w (EvG (evB k) (charK k) ((lookE k.code).kind == 1) (oldN k.mods) w) := by
 have HM : Hid (∀ W, Below w.heap.size w W → Calls Tryz.prog 66 #[kyV k] W fun e w' => e = .returned (.bool (mayK k)) ∧ Below W.heap.size W w') := Lib.hid fun W hW => pmods_may k hs W (hz.below' hW) (hR.below hW)
 have HO : Hid (∀ W, Calls Tryz.prog 77 #[.int .i64 k.mods] W fun e w' => e = .returned (.int .i64 (oldN k.mods)) ∧ Below W.heap.size W w') := Lib.hid fun W => pold_any k.mods W hk.mods
 have HL : Hid (∀ W, Below w.heap.size w W → Calls Tryz.prog 15 #[.int .i64 k.code] W fun e w' => e = .returned (enV (lookE k.code)) ∧ Below W.heap.size W w') := Lib.hid fun W hW => plook_any k.code W (hz.below' hW) (hR.below hW)
 have HS : Hid (∀ W, Calls Tryz.prog 104 #[kyV k] W fun e w' => e = .returned (.int .i64 (shownK k)) ∧ Below W.heap.size W w') := Lib.hid fun W => pshown_any k hk W
 obtain ⟨K, hK⟩ : ∃ K, (lookE k.code).kind = K := ⟨_, rfl⟩
 have hf : ∀ W : World, (Instr.field 36 (enV (lookE k.code)) 0).run Tryz.prog W = .ok (.int .i64 K) W := fun W => by
  rw [← hK]
  exact (by kernel_rfl : (Instr.field 36 (enV (lookE k.code)) 0).run Tryz.prog W = .ok (.int .i64 (lookE k.code).kind) W)
 obtain ⟨E, hE⟩ : ∃ E, enV (lookE k.code) = E := ⟨_, rfl⟩
 rw [hE] at HL hf
 obtain ⟨ov, hov⟩ : ∃ x, oldN k.mods = x := ⟨_, rfl⟩
 obtain ⟨sh, hsh⟩ : ∃ x, shownK k = x := ⟨_, rfl⟩
 obtain ⟨v, hv⟩ : ∃ x, mayK k = x := ⟨_, rfl⟩
 obtain ⟨t1, ht1⟩ : ∃ x, (K == 1) = x := ⟨_, rfl⟩
 obtain ⟨t2, ht2⟩ : ∃ x, (K == 2) = x := ⟨_, rfl⟩
 obtain ⟨t3, ht3⟩ : ∃ x, (k.typ == 3) = x := ⟨_, rfl⟩
 obtain ⟨x0, hx0⟩ : ∃ x, (ov != 0) = x := ⟨_, rfl⟩
 obtain ⟨x1, hx1⟩ : ∃ x, (ov != 1) = x := ⟨_, rfl⟩
 have HQ := Lib.hid (show evB k = (v && !t3 && if t1 = true then x0 && x1 else if t2 = true then x0 else false) by
  unfold evB
  rw [hv, hK, hov, bne, ht3, hx0, hx1, ← ht1, ← ht2]
  simp)
 have HC := Lib.hid (show charK k = if t1 = true then sh else k.code by
  unfold charK
  rw [hK, hsh, ← ht1]
  simp)
 rw [hov, hK]
 rw [hov] at HO
 rw [hsh] at HS
 rw [hv] at HM
 obtain ⟨q, hq⟩ : ∃ q, evB k = q := ⟨_, rfl⟩
 obtain ⟨ch, hch⟩ : ∃ c, charK k = c := ⟨_, rfl⟩
 rw [hq] at HQ ⊢
 rw [hch] at HC ⊢
 rw [ht1]
 clear hE hk hs hK hov hch hv hq hsh hz hR
 obtain ⟨code, mods, typ, shift, base, text⟩ := k
 simp only [kyV] at HM HO HL HS HC ht3 ⊢
 have k0 := (Blk.new w 25 #[.int .i64 code, .int .i64 mods, .int .i64 typ, .int .i64 shift, .int .i64 base, .string text]).alloc (.cells #[.int .i64 0, .bool false, .int .i64 0] 98)
 have z0 := Blk.new (w.alloc (.cells #[.int .i64 code, .int .i64 mods, .int .i64 typ, .int .i64 shift, .int .i64 base, .string text] 25)) 98 #[.int .i64 0, .bool false, .int .i64 0]
 rw [World.size_alloc] at z0
 have hB0 : Below w.heap.size w ((w.alloc (.cells #[.int .i64 code, .int .i64 mods, .int .i64 typ, .int .i64 shift, .int .i64 base, .string text] 25)).alloc (.cells #[.int .i64 0, .bool false, .int .i64 0] 98)) := ((Below.refl _ w).alloc (Nat.le_refl _) _).alloc (by simp) _
 go_enter Tryz.func72, Tryz.ntmps72
 go_wp2_with fail
 refine (HM.out _ hB0).mono ?_
 rintro e w1 ⟨rfl, hb1⟩
 have k1 := k0.below hb1 k0.lt
 have z1 := z0.below hb1 z0.lt
 have hB1 := hB0.trans (hb1.mono hB0.size)
 clear k0 z0 hB0 hb1 HM
 obtain ⟨a0, a1, a2, a3, a4, a5⟩ := Blk.cells6 k1
 cases v with
 | false =>
   have HQ := Lib.hid (show q = false from HQ.out)
   clear HC ht1 ht2 ht3 hx0 hx1
   obtain ⟨d0, d1, d2⟩ := And.intro (z1.cell 0) (And.intro (z1.cell 1) (z1.cell 2))
   have y0 := z1.frozen 0
   have y1 := z1.frozen 1
   have y2 := z1.frozen 2
   go_wp2_with fail
   refine bodyPost_ret (v := .tuple #[.agg #[.int .i64 0, .bool false, .int .i64 0], .bool false]) (by simp [results, Tryz.results72, go_sem, d0, d1, d2]) rfl (EvG.no HQ.out (below_set3 hB1 (Nat.le_succ _) _ _ _))
 | true =>
   cases t3 with
   | true =>
     have HQ := Lib.hid (show q = false from HQ.out)
     clear HC ht1 ht2 hx0 hx1
     obtain ⟨d0, d1, d2⟩ := And.intro (z1.cell 0) (And.intro (z1.cell 1) (z1.cell 2))
     have y0 := z1.frozen 0
     have y1 := z1.frozen 1
     have y2 := z1.frozen 2
     go_wp2_with fail
     refine bodyPost_ret (v := .tuple #[.agg #[.int .i64 0, .bool false, .int .i64 0], .bool false]) (by simp [results, Tryz.results72, go_sem, d0, d1, d2]) rfl (EvG.no HQ.out (below_set3 hB1 (Nat.le_succ _) _ _ _))
   | false =>
     have HQ := Lib.hid (show q = if t1 = true then x0 && x1 else if t2 = true then x0 else false from HQ.out)
     go_wp2_with fail
     refine (HO.out _).mono ?_
     rintro e w2 ⟨rfl, hb2⟩
     have k2 := k1.below hb2 k1.lt
     have z2 := z1.below hb2 z1.lt
     have hB2 := hB1.trans (hb2.mono hB1.size)
     clear k1 z1 hB1 hb2 HO a0 a1 a2 a3 a4 a5 ht3
     obtain ⟨a0, a1, a2, a3, a4, a5⟩ := Blk.cells6 k2
     go_wp2_with fail
     refine (HL.out _ hB2).mono ?_
     rintro e w3 ⟨rfl, hb3⟩
     have k3 := k2.below hb3 k2.lt
     have z3 := z2.below hb3 z2.lt
     have hB3 := hB2.trans (hb3.mono hB2.size)
     clear k2 z2 hB2 hb3 HL a0 a1 a2 a3 a4 a5
     obtain ⟨a0, a1, a2, a3, a4, a5⟩ := Blk.cells6 k3
     cases t1 with
     | true =>
       have HQ := Lib.hid (show q = (x0 && x1) from HQ.out)
       have HC := Lib.hid (show ch = sh from HC.out)
       clear ht2
       go_wp2_with fail
       refine (HS.out _).mono ?_
       rintro e w4 ⟨rfl, hb4⟩
       have z4 := z3.below hb4 z3.lt
       have hB4 := hB3.trans (hb4.mono hB3.size)
       clear k3 z3 hB3 hb4 HS a0 a1 a2 a3 a4 a5
       cases x0 with
       | false =>
         have HQ := Lib.hid (show q = false from HQ.out)
         clear hx1
         obtain ⟨d0, d1, d2⟩ := And.intro (z4.cell 0) (And.intro (z4.cell 1) (z4.cell 2))
         have y0 := z4.frozen 0
         have y1 := z4.frozen 1
         have y2 := z4.frozen 2
         go_wp2_with fail
         refine bodyPost_ret (v := .tuple #[.agg #[.int .i64 sh, .bool true, .int .i64 ov], .bool false]) (by simp [results, Tryz.results72, go_sem, d0, d1, d2]) rfl (EvG.no HQ.out (below_set3 hB4 (Nat.le_succ _) _ _ _))
       | true =>
         cases x1 with
         | false =>
           have HQ := Lib.hid (show q = false from HQ.out)
           obtain ⟨d0, d1, d2⟩ := And.intro (z4.cell 0) (And.intro (z4.cell 1) (z4.cell 2))
           have y0 := z4.frozen 0
           have y1 := z4.frozen 1
           have y2 := z4.frozen 2
           go_wp2_with fail
           refine bodyPost_ret (v := .tuple #[.agg #[.int .i64 sh, .bool true, .int .i64 ov], .bool false]) (by simp [results, Tryz.results72, go_sem, d0, d1, d2]) rfl (EvG.no HQ.out (below_set3 hB4 (Nat.le_succ _) _ _ _))
         | true =>
           have HQ := Lib.hid (show q = true from HQ.out)
           obtain ⟨d0, d1, d2⟩ := And.intro (z4.cell 0) (And.intro (z4.cell 1) (z4.cell 2))
           have y0 := z4.frozen 0
           have y1 := z4.frozen 1
           have y2 := z4.frozen 2
           go_wp2_with fail
           refine bodyPost_ret (v := .tuple #[.agg #[.int .i64 sh, .bool true, .int .i64 ov], .bool true]) (by simp [results, Tryz.results72, go_sem, d0, d1, d2]) rfl (EvG.yes HQ.out HC.out rfl (below_set3 hB4 (Nat.le_succ _) _ _ _))
     | false =>
       have HC := Lib.hid (show ch = code from HC.out)
       have HQ := Lib.hid (show q = if t2 = true then x0 else false from HQ.out)
       clear hx1 HS
       cases t2 with
       | true =>
         cases x0 with
         | false =>
           have HQ := Lib.hid (show q = false from HQ.out)
           obtain ⟨d0, d1, d2⟩ := And.intro (z3.cell 0) (And.intro (z3.cell 1) (z3.cell 2))
           have y0 := z3.frozen 0
           have y1 := z3.frozen 1
           have y2 := z3.frozen 2
           go_wp2_with fail
           refine bodyPost_ret (v := .tuple #[.agg #[.int .i64 code, .bool false, .int .i64 ov], .bool false]) (by simp [results, Tryz.results72, go_sem, d0, d1, d2]) rfl (EvG.no HQ.out (below_set3 hB3 (Nat.le_succ _) _ _ _))
         | true =>
           have HQ := Lib.hid (show q = true from HQ.out)
           obtain ⟨d0, d1, d2⟩ := And.intro (z3.cell 0) (And.intro (z3.cell 1) (z3.cell 2))
           have y0 := z3.frozen 0
           have y1 := z3.frozen 1
           have y2 := z3.frozen 2
           go_wp2_with fail
           refine bodyPost_ret (v := .tuple #[.agg #[.int .i64 code, .bool false, .int .i64 ov], .bool true]) (by simp [results, Tryz.results72, go_sem, d0, d1, d2]) rfl (EvG.yes HQ.out HC.out rfl (below_set3 hB3 (Nat.le_succ _) _ _ _))
       | false =>
         have HQ := Lib.hid (show q = false from HQ.out)
         clear hx0
         obtain ⟨d0, d1, d2⟩ := And.intro (z3.cell 0) (And.intro (z3.cell 1) (z3.cell 2))
         have y0 := z3.frozen 0
         have y1 := z3.frozen 1
         have y2 := z3.frozen 2
         go_wp2_with fail
         refine bodyPost_ret (v := .tuple #[.agg #[.int .i64 0, .bool false, .int .i64 0], .bool false]) (by simp [results, Tryz.results72, go_sem, d0, d1, d2]) rfl (EvG.no HQ.out (below_set3 hB3 (Nat.le_succ _) _ _ _))
end Go.Proofs.YtceipblcdcgljaaGreatDoor
