/-
  Stage 13, the landed kitty: what its event's methods say.
-/
import Derived.Test.YtdfojkbgdoiglaaDoorG07
import Derived.Test.YtdfojkbgdoiglaaDoorG10
import Derived.Test.YtdfojkbgdoiglaaDoorG12
import Derived.Test.YtdfojkbgdoiglaaDoorG19
import Derived.Test.YtdfojkbgdoiglaaDoorG27
import Derived.Deep.Cut
namespace Go.Proofs.YtdfojkbgdoiglaaDoor
open Go.RowKit
def evV13 (k : Ky) (s K : Int) : Value := .agg #[.int .i64 k.code, .int .i64 k.mods, .int .i64 k.typ, .int .i64 k.shift, .int .i64 k.base, .string k.text, .int .i64 s, .int .i64 K]
theorem Blk.cells8 {w : World} {g : Nat} {t : TypeId} {p0 p1 p2 p3 p4 p5 p6 p7 : Value} (h : Blk w g t #[p0, p1, p2, p3, p4, p5, p6, p7]) :
 w.cell? ⟨g, 0, none⟩ = some p0 ∧ w.cell? ⟨g, 1, none⟩ = some p1 ∧ w.cell? ⟨g, 2, none⟩ = some p2 ∧ w.cell? ⟨g, 3, none⟩ = some p3 ∧ w.cell? ⟨g, 4, none⟩ = some p4 ∧ w.cell? ⟨g, 5, none⟩ = some p5 ∧ w.cell? ⟨g, 6, none⟩ = some p6 ∧ w.cell? ⟨g, 7, none⟩ = some p7 :=
 ⟨h.cell 0, h.cell 1, h.cell 2, h.cell 3, h.cell 4, h.cell 5, h.cell 6, h.cell 7⟩
theorem kip_ret {x y : Bool} (h : x = y) : Ending.returned (.bool x) = .returned (.bool y) := by rw [h]
set_option maxRecDepth 100000 in
set_option maxHeartbeats 8000000 in
theorem khas_any (s d : Int) (q : Bool) (hq : (bits .and .i64 s d != 0) = q) (w : World) : Calls Tryd.prog 18 #[.int .i64 s, .int .i64 d] w fun e w' => e = .returned (.bool q) ∧ Below w.heap.size w w' := by
 have HQ := Lib.hid hq
 clear hq
 go_enter Tryd.func18, Tryd.ntmps18
 go_wp2_with fail
 go_ret
 exact ⟨kip_ret HQ.out, Below.refl _ _⟩
def typB (t1 t9 t13 t127 : Bool) : Bool := t1 || t9 || t13 || t127
set_option maxRecDepth 100000 in
set_option maxHeartbeats 8000000 in
theorem ktypes_any (k : Ky) (s K : Int) (q : Bool) (hq : ((K == 1) || keyedK k.code) = q) (w : World) : Calls Tryd.prog 36 #[evV13 k s K] w fun e w' => e = .returned (.bool q) ∧ Below w.heap.size w w' := by
 obtain ⟨code, mods, typ, shift, base, text⟩ := k
 simp only [evV13, keyedK] at hq ⊢
 obtain ⟨t1, h1⟩ : ∃ x, (K == 1) = x := ⟨_, rfl⟩
 obtain ⟨t9, h9⟩ : ∃ x, (code == 9) = x := ⟨_, rfl⟩
 obtain ⟨t13, h13⟩ : ∃ x, (code == 13) = x := ⟨_, rfl⟩
 obtain ⟨t127, h127⟩ : ∃ x, (code == 127) = x := ⟨_, rfl⟩
 rw [h1, h9, h13, h127, ← Bool.or_assoc, ← Bool.or_assoc] at hq
 have HQ := Lib.hid (show typB t1 t9 t13 t127 = q from hq)
 clear hq
 have k0 := Blk.new w 47 #[.int .i64 code, .int .i64 mods, .int .i64 typ, .int .i64 shift, .int .i64 base, .string text, .int .i64 s, .int .i64 K]
 have hB0 : Below w.heap.size w (w.alloc (.cells #[.int .i64 code, .int .i64 mods, .int .i64 typ, .int .i64 shift, .int .i64 base, .string text, .int .i64 s, .int .i64 K] 47)) := (Below.refl _ _).alloc (Nat.le_refl _) _
 obtain ⟨a0, a1, a2, a3, a4, a5, a6, a7⟩ := Blk.cells8 k0
 cases t1 with
 | true =>
   go_enter Tryd.func36, Tryd.ntmps36
   go_wp2_with fail
   go_ret
   exact ⟨kip_ret HQ.out, hB0⟩
 | false =>
   cases t9 with
   | true =>
     go_enter Tryd.func36, Tryd.ntmps36
     go_wp2_with fail
     go_ret
     exact ⟨kip_ret HQ.out, hB0⟩
   | false =>
     cases t13 with
     | true =>
       go_enter Tryd.func36, Tryd.ntmps36
       go_wp2_with fail
       go_ret
       exact ⟨kip_ret HQ.out, hB0⟩
     | false =>
       cases t127 with
       | true =>
         go_enter Tryd.func36, Tryd.ntmps36
         go_wp2_with fail
         go_ret
         exact ⟨kip_ret HQ.out, hB0⟩
       | false =>
         go_enter Tryd.func36, Tryd.ntmps36
         go_wp2_with fail
         go_ret
         exact ⟨kip_ret HQ.out, hB0⟩
def sentB (t3 b2 b8 t7 tt : Bool) : Bool := if (t3 && !b2) = true then false else if b8 = true then true else t7 && !(t3 && tt)
set_option maxRecDepth 100000 in
set_option maxHeartbeats 8000000 in
theorem ksent_any (k : Ky) (s K : Int) (b2 b8 q : Bool) (h2 : (bits .and .i64 s 2 != 0) = b2) (h8 : (bits .and .i64 s 8 != 0) = b8) (hq : sentB (k.typ == 3) b2 b8 (K != 7) ((K == 1) || keyedK k.code) = q) (w : World) : Calls Tryd.prog 17 #[evV13 k s K] w fun e w' => e = .returned (.bool q) ∧ Below w.heap.size w w' := by
 have H2 : Hid (∀ W, Calls Tryd.prog 18 #[.int .i64 s, .int .i64 2] W fun e w' => e = .returned (.bool b2) ∧ Below W.heap.size W w') := Lib.hid fun W => khas_any s 2 b2 h2 W
 have H8 : Hid (∀ W, Calls Tryd.prog 18 #[.int .i64 s, .int .i64 8] W fun e w' => e = .returned (.bool b8) ∧ Below W.heap.size W w') := Lib.hid fun W => khas_any s 8 b8 h8 W
 obtain ⟨tt, htt⟩ : ∃ x, ((K == 1) || keyedK k.code) = x := ⟨_, rfl⟩
 have HT : Hid (∀ W, Calls Tryd.prog 36 #[evV13 k s K] W fun e w' => e = .returned (.bool tt) ∧ Below W.heap.size W w') := Lib.hid fun W => ktypes_any k s K tt htt W
 rw [htt] at hq
 clear htt h2 h8
 obtain ⟨code, mods, typ, shift, base, text⟩ := k
 simp only [evV13] at hq HT ⊢
 obtain ⟨t3, h3⟩ : ∃ x, (typ == 3) = x := ⟨_, rfl⟩
 obtain ⟨t7, h7⟩ : ∃ x, (K != 7) = x := ⟨_, rfl⟩
 rw [h3, h7] at hq
 have HQ := Lib.hid hq
 clear hq
 have k0 := Blk.new w 47 #[.int .i64 code, .int .i64 mods, .int .i64 typ, .int .i64 shift, .int .i64 base, .string text, .int .i64 s, .int .i64 K]
 have hB0 : Below w.heap.size w (w.alloc (.cells #[.int .i64 code, .int .i64 mods, .int .i64 typ, .int .i64 shift, .int .i64 base, .string text, .int .i64 s, .int .i64 K] 47)) := (Below.refl _ _).alloc (Nat.le_refl _) _
 obtain ⟨a0, a1, a2, a3, a4, a5, a6, a7⟩ := Blk.cells8 k0
 cases t3 with
 | true =>
   go_enter Tryd.func17, Tryd.ntmps17
   go_wp2_with fail
   refine (H2.out _).mono ?_
   rintro e w1 ⟨rfl, hb1⟩
   have k1 := k0.below hb1 k0.lt
   have hB1 := hB0.trans (hb1.mono hB0.size)
   clear k0 hB0 hb1 a0 a1 a2 a3 a4 a5 a6 a7
   obtain ⟨a0, a1, a2, a3, a4, a5, a6, a7⟩ := Blk.cells8 k1
   cases b2 with
   | false =>
     go_wp2_with fail
     go_ret
     exact ⟨kip_ret HQ.out, hB1⟩
   | true =>
     go_wp2_with fail
     refine (H8.out _).mono ?_
     rintro e w2 ⟨rfl, hb2⟩
     have k2 := k1.below hb2 k1.lt
     have hB2 := hB1.trans (hb2.mono hB1.size)
     clear k1 hB1 hb2 a0 a1 a2 a3 a4 a5 a6 a7
     obtain ⟨a0, a1, a2, a3, a4, a5, a6, a7⟩ := Blk.cells8 k2
     cases b8 with
     | true =>
       go_wp2_with fail
       go_ret
       exact ⟨kip_ret HQ.out, hB2⟩
     | false =>
       cases t7 with
       | false =>
         go_wp2_with fail
         go_ret
         exact ⟨kip_ret HQ.out, hB2⟩
       | true =>
         go_wp2_with fail
         refine (HT.out _).mono ?_
         rintro e w3 ⟨rfl, hb3⟩
         have k3 := k2.below hb3 k2.lt
         have hB3 := hB2.trans (hb3.mono hB2.size)
         clear k2 hB2 hb3 a0 a1 a2 a3 a4 a5 a6 a7
         obtain ⟨a0, a1, a2, a3, a4, a5, a6, a7⟩ := Blk.cells8 k3
         cases tt with
         | true =>
           go_wp2_with fail
           go_ret
           exact ⟨kip_ret HQ.out, hB3⟩
         | false =>
           go_wp2_with fail
           go_ret
           exact ⟨kip_ret HQ.out, hB3⟩
 | false =>
   go_enter Tryd.func17, Tryd.ntmps17
   go_wp2_with fail
   refine (H8.out _).mono ?_
   rintro e w1 ⟨rfl, hb1⟩
   have k1 := k0.below hb1 k0.lt
   have hB1 := hB0.trans (hb1.mono hB0.size)
   clear k0 hB0 hb1 a0 a1 a2 a3 a4 a5 a6 a7
   obtain ⟨a0, a1, a2, a3, a4, a5, a6, a7⟩ := Blk.cells8 k1
   cases b8 with
   | true =>
     go_wp2_with fail
     go_ret
     exact ⟨kip_ret HQ.out, hB1⟩
   | false =>
     cases t7 with
     | false =>
       go_wp2_with fail
       go_ret
       exact ⟨kip_ret HQ.out, hB1⟩
     | true =>
       go_wp2_with fail
       go_ret
       exact ⟨kip_ret HQ.out, hB1⟩
def asB (t1 n1 tt n2 : Bool) : Bool := if t1 = true then n1 else tt && n2
set_option maxRecDepth 100000 in
set_option maxHeartbeats 8000000 in
theorem knone_any (k : Ky) (d : Int) (q : Bool) (hq : (bits .andNot .i64 k.mods d == 0) = q) {g : Nat} {cs : Array Value} (hcs : cs[1]? = some (.int .i64 k.mods)) (w : World) (hk : Blk w g 47 cs) : Calls Tryd.prog 37 #[.int .i64 d, .pointer (some ⟨g, 0, none⟩)] w fun e w' => e = .returned (.bool q) ∧ Below w.heap.size w w' := by
 obtain ⟨m, hm⟩ : ∃ m, k.mods = m := ⟨_, rfl⟩
 rw [hm] at hq hcs
 have a1 : w.cell? ⟨g, 1, none⟩ = some (.int .i64 m) := by rw [hk.cell 1]; exact hcs
 have HQ := Lib.hid hq
 clear hq hk hcs hm
 go_enter Tryd.func37, Tryd.ntmps37
 go_wp2_with fail
 go_ret
 exact ⟨kip_ret HQ.out, Below.refl _ _⟩
set_option maxRecDepth 100000 in
set_option maxHeartbeats 8000000 in
theorem kastext_any (k : Ky) (s K : Int) (n1 n2 q : Bool) (h1 : (bits .andNot .i64 k.mods 193 == 0) = n1) (h2 : (bits .andNot .i64 k.mods 192 == 0) = n2) (hq : asB (K == 1) n1 ((K == 1) || keyedK k.code) n2 = q) (w : World) : Calls Tryd.prog 19 #[evV13 k s K] w fun e w' => e = .returned (.bool q) ∧ Below w.heap.size w w' := by
 have HN1 : Hid (∀ W, Blk W w.heap.size 47 #[.int .i64 k.code, .int .i64 k.mods, .int .i64 k.typ, .int .i64 k.shift, .int .i64 k.base, .string k.text, .int .i64 s, .int .i64 K] → Calls Tryd.prog 37 #[.int .i64 193, .pointer (some ⟨w.heap.size, 0, none⟩)] W fun e w' => e = .returned (.bool n1) ∧ Below W.heap.size W w') := Lib.hid fun W hk => knone_any k 193 n1 h1 rfl W hk
 have HN2 : Hid (∀ W, Blk W w.heap.size 47 #[.int .i64 k.code, .int .i64 k.mods, .int .i64 k.typ, .int .i64 k.shift, .int .i64 k.base, .string k.text, .int .i64 s, .int .i64 K] → Calls Tryd.prog 37 #[.int .i64 192, .pointer (some ⟨w.heap.size, 0, none⟩)] W fun e w' => e = .returned (.bool n2) ∧ Below W.heap.size W w') := Lib.hid fun W hk => knone_any k 192 n2 h2 rfl W hk
 obtain ⟨tt, htt⟩ : ∃ x, ((K == 1) || keyedK k.code) = x := ⟨_, rfl⟩
 have HT : Hid (∀ W, Calls Tryd.prog 36 #[evV13 k s K] W fun e w' => e = .returned (.bool tt) ∧ Below W.heap.size W w') := Lib.hid fun W => ktypes_any k s K tt htt W
 rw [htt] at hq
 clear htt h1 h2
 obtain ⟨code, mods, typ, shift, base, text⟩ := k
 simp only [evV13] at hq HT HN1 HN2 ⊢
 obtain ⟨t1, h1⟩ : ∃ x, (K == 1) = x := ⟨_, rfl⟩
 rw [h1] at hq
 have HQ := Lib.hid hq
 clear hq
 have k0 := Blk.new w 47 #[.int .i64 code, .int .i64 mods, .int .i64 typ, .int .i64 shift, .int .i64 base, .string text, .int .i64 s, .int .i64 K]
 have hB0 : Below w.heap.size w (w.alloc (.cells #[.int .i64 code, .int .i64 mods, .int .i64 typ, .int .i64 shift, .int .i64 base, .string text, .int .i64 s, .int .i64 K] 47)) := (Below.refl _ _).alloc (Nat.le_refl _) _
 obtain ⟨a0, a1, a2, a3, a4, a5, a6, a7⟩ := Blk.cells8 k0
 cases t1 with
 | true =>
   go_enter Tryd.func19, Tryd.ntmps19
   go_wp2_with fail
   refine (HN1.out _ k0).mono ?_
   rintro e w1 ⟨rfl, hb1⟩
   have hB1 := hB0.trans (hb1.mono hB0.size)
   go_wp2_with fail
   go_ret
   exact ⟨kip_ret HQ.out, hB1⟩
 | false =>
   go_enter Tryd.func19, Tryd.ntmps19
   go_wp2_with fail
   refine (HT.out _).mono ?_
   rintro e w1 ⟨rfl, hb1⟩
   have k1 := k0.below hb1 k0.lt
   have hB1 := hB0.trans (hb1.mono hB0.size)
   clear k0 hB0 hb1 a0 a1 a2 a3 a4 a5 a6 a7
   obtain ⟨a0, a1, a2, a3, a4, a5, a6, a7⟩ := Blk.cells8 k1
   cases tt with
   | false =>
     go_wp2_with fail
     go_ret
     exact ⟨kip_ret HQ.out, hB1⟩
   | true =>
     go_wp2_with fail
     refine (HN2.out _ k1).mono ?_
     rintro e w2 ⟨rfl, hb2⟩
     have hB2 := hB1.trans (hb2.mono hB1.size)
     go_wp2_with fail
     go_ret
     exact ⟨kip_ret HQ.out, hB2⟩
set_option maxRecDepth 100000 in
set_option maxHeartbeats 8000000 in
theorem ktext_any (k : Ky) (s K : Int) (L : List UInt8) (hk : okK k) (hs : k.text.size ≤ 4294967296) (hL : (if K = 1 ∧ k.text.data.toList ≠ [] then k.text.data.toList else putL (shownK k)) = L) (w : World) (hz : Siz w) : Calls Tryd.prog 20 #[evV13 k s K] w (Out L w) := by
 obtain ⟨X, hX⟩ : ∃ x, shownK k = x := ⟨_, rfl⟩
 have HSH : Hid (∀ W, Calls Tryd.prog 39 #[kyV k] W fun e w' => e = .returned (.int .i64 X) ∧ Below W.heap.size W w') := Lib.hid fun W => by rw [← hX]; exact pshown_any k hk W
 have HP : Hid (∀ W, Below w.heap.size w W → Calls Tryd.prog 38 #[.int .i64 X] W (Out (putL X) W)) := Lib.hid fun W hW => Put_any X W (hz.below' hW)
 rw [hX] at hL
 have hm : k.text.size ≤ maxLen := by simp only [maxLen]; omega
 clear hX hk hs hz
 obtain ⟨code, mods, typ, shift, base, text⟩ := k
 simp only [evV13, kyV] at hL HSH hm ⊢
 have k0 := Blk.new w 47 #[.int .i64 code, .int .i64 mods, .int .i64 typ, .int .i64 shift, .int .i64 base, .string text, .int .i64 s, .int .i64 K]
 have hB0 : Below w.heap.size w (w.alloc (.cells #[.int .i64 code, .int .i64 mods, .int .i64 typ, .int .i64 shift, .int .i64 base, .string text, .int .i64 s, .int .i64 K] 47)) := (Below.refl _ _).alloc (Nat.le_refl _) _
 obtain ⟨a0, a1, a2, a3, a4, a5, a6, a7⟩ := Blk.cells8 k0
 by_cases h1 : K = 1
 ·subst h1
  by_cases hne : text.data.toList = []
  ·have HE := Lib.hid (show putL X = L by rw [← hL, if_neg (fun h => h.2 hne)])
   have te : text = ⟨#[]⟩ := by apply ByteArray.ext; simpa using hne
   subst te
   clear hL hne hm
   go_enter Tryd.func20, Tryd.ntmps20
   go_wp2_with fail
   refine (HSH.out _).mono ?_
   rintro e w1 ⟨rfl, hb1⟩
   have k1 := k0.below hb1 k0.lt
   have hB1 := hB0.trans (hb1.mono hB0.size)
   clear k0 hB0 hb1 a0 a1 a2 a3 a4 a5 a6 a7
   obtain ⟨a0, a1, a2, a3, a4, a5, a6, a7⟩ := Blk.cells8 k1
   go_wp2_with fail
   refine (HP.out _ hB1).mono ?_
   rintro e w9 ⟨A, c, rfl, hr9, hb9⟩
   go_wp2_with fail
   go_ret
   exact out_is HE.out.symm ⟨A, c, rfl, hr9, hB1.trans (hb9.mono hB1.size)⟩
  ·have HE := Lib.hid (show text.data.toList = L by rw [← hL, if_pos ⟨rfl, hne⟩])
   have tl : text.toList.isEmpty = false := text_full hne
   have hs1 := hB0.size
   clear hL hne
   go_enter Tryd.func20, Tryd.ntmps20
   go_wp2_with (first | ((with_reducible refine list_conv _ rfl (.tmp 14) 9 26 rfl w.heap.size 5 text ?_ Tryd.underlying9 Tryd.underlying26 Tryd.underlying5 hm hs1 ?_); rfl; intro v2 w4 hown2 hg2))
   go_ret
   exact out_is HE.out.symm (out_own hown2 (hB0.trans ((below_none hg2).mono hB0.size)))
 ·have HE := Lib.hid (show putL X = L by rw [← hL, if_neg (fun h => h1 h.1)])
  have t1 : (K == 1) = false := beq_false_of_ne h1
  clear hL h1 hm
  go_enter Tryd.func20, Tryd.ntmps20
  go_wp2_with fail
  refine (HSH.out _).mono ?_
  rintro e w1 ⟨rfl, hb1⟩
  have k1 := k0.below hb1 k0.lt
  have hB1 := hB0.trans (hb1.mono hB0.size)
  clear k0 hB0 hb1 a0 a1 a2 a3 a4 a5 a6 a7
  obtain ⟨a0, a1, a2, a3, a4, a5, a6, a7⟩ := Blk.cells8 k1
  go_wp2_with fail
  refine (HP.out _ hB1).mono ?_
  rintro e w9 ⟨A, c, rfl, hr9, hb9⟩
  go_wp2_with fail
  go_ret
  exact out_is HE.out.symm ⟨A, c, rfl, hr9, hB1.trans (hb9.mono hB1.size)⟩
end Go.Proofs.YtdfojkbgdoiglaaDoor
