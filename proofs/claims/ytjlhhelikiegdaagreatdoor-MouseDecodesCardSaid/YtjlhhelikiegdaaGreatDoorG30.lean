/-
  Stage 16, the landed mouse, walked: the marks, the modifiers that a number tells. Layer 3, walked: the program's Put.
-/
import Derived.Test.YtjlhhelikiegdaaGreatDoorG06
import Derived.Test.YtjlhhelikiegdaaGreatDoorG15
import Derived.Test.YtjlhhelikiegdaaGreatDoorG19
import Derived.Test.YtjlhhelikiegdaaGreatDoorG20
import Derived.Test.YtjlhhelikiegdaaGreatDoorG26
import Derived.Test.YtjlhhelikiegdaaGreatDoorG29
import Derived.Deep.RegionHeld
namespace Go.Proofs.YtjlhhelikiegdaaGreatDoor
open Go.RowKit
theorem rd_is (w : World) (l : List Int) (L : Array Value) (t : TypeId) (z : Nat × Nat) (h : is_ l = L.toList) : Rd (w.alloc (.cells L t z)) (some ⟨w.heap.size, 0, none⟩) (is_ l) := by
 rw [h]
 exact Rd.block (heap_alloc_new w _) (List.take_of_length_le (Nat.le_refl _))
set_option maxRecDepth 100000 in
set_option maxHeartbeats 4000000 in
theorem mmarks_any (mode btn typ x y mods q : Int) (hq : mkW mode typ mods = q) (w : World) : Calls Tryz.prog 20 #[.int .i64 mode, .agg #[.int .i64 btn, .int .i64 typ, .int .i64 x, .int .i64 y, .int .i64 mods]] w (NumE q w) := by
 obtain ⟨b0, h0⟩ : ∃ b, (typ == 4) = b := ⟨_, rfl⟩
 obtain ⟨b1, h1⟩ : ∃ b, hasW mode mods 1 = b := ⟨_, rfl⟩
 obtain ⟨b2, h2⟩ : ∃ b, hasW mode mods 2 = b := ⟨_, rfl⟩
 obtain ⟨b4, h4⟩ : ∃ b, hasW mode mods 4 = b := ⟨_, rfl⟩
 obtain ⟨n0, e0⟩ : ∃ b, wh b0 32 = b := ⟨_, rfl⟩
 obtain ⟨n1, e1⟩ : ∃ b, wh b1 4 = b := ⟨_, rfl⟩
 obtain ⟨n2, e2⟩ : ∃ b, wh b2 8 = b := ⟨_, rfl⟩
 obtain ⟨n4, e4⟩ : ∃ b, wh b4 16 = b := ⟨_, rfl⟩
 have r0 := wh_rng b0 (n := 32) (by decide)
 have r1 := wh_rng b1 (n := 4) (by decide)
 have r2 := wh_rng b2 (n := 8) (by decide)
 have r4 := wh_rng b4 (n := 16) (by decide)
 rw [e0] at r0
 rw [e1] at r1
 rw [e2] at r2
 rw [e4] at r4
 have hsum : [n0, n1, n2, n4].sum = q := by
  rw [← hq]; unfold mkW; rw [h0, h1, h2, h4, e0, e1, e2, e4]; simp; omega
 have HW0 : Hid (∀ W, Calls Tryz.prog 18 #[.bool b0, .int .i64 32] W (NumE n0 W)) := Lib.hid fun W => mwhen_any b0 32 n0 e0 W
 have HW1 : Hid (∀ W, Calls Tryz.prog 18 #[.bool b1, .int .i64 4] W (NumE n1 W)) := Lib.hid fun W => mwhen_any b1 4 n1 e1 W
 have HW2 : Hid (∀ W, Calls Tryz.prog 18 #[.bool b2, .int .i64 8] W (NumE n2 W)) := Lib.hid fun W => mwhen_any b2 8 n2 e2 W
 have HW4 : Hid (∀ W, Calls Tryz.prog 18 #[.bool b4, .int .i64 16] W (NumE n4 W)) := Lib.hid fun W => mwhen_any b4 16 n4 e4 W
 have HS : Hid (∀ A W, Rd W A (is_ [n0, n1, n2, n4]) → Calls Tryz.prog 46 #[.slice A 4 4] W (NumE q W)) := Lib.hid fun A W hr => msum_any [n0, n1, n2, n4] 4 q rfl (by decide) (by
  intro n hn
  simp only [List.mem_cons, List.not_mem_nil, or_false] at hn
  rcases hn with rfl | rfl | rfl | rfl <;> omega) hsum A 4 W hr
 have km := Blk.new w 3 #[.int .i64 mode]
 have ke := Blk.new (w.alloc (.cells #[.int .i64 mode] 3)) 23 #[.int .i64 btn, .int .i64 typ, .int .i64 x, .int .i64 y, .int .i64 mods]
 replace km := km.alloc (.cells #[.int .i64 btn, .int .i64 typ, .int .i64 x, .int .i64 y, .int .i64 mods] 23)
 rw [World.size_alloc] at ke
 have hB : Below w.heap.size w ((w.alloc (.cells #[.int .i64 mode] 3)).alloc (.cells #[.int .i64 btn, .int .i64 typ, .int .i64 x, .int .i64 y, .int .i64 mods] 23)) := ((Below.refl _ w).alloc (Nat.le_refl _) _).alloc (by simp) _
 have HH1 : Hid (∀ W, Blk W w.heap.size 3 #[.int .i64 mode] → Blk W (w.heap.size + 1) 23 #[.int .i64 btn, .int .i64 typ, .int .i64 x, .int .i64 y, .int .i64 mods] → Calls Tryz.prog 45 #[.int .i64 1, .pointer (some ⟨w.heap.size, 0, none⟩), .pointer (some ⟨w.heap.size + 1, 0, none⟩)] W fun e w' => e = .returned (.bool b1) ∧ Below W.heap.size W w') := Lib.hid fun W a b => mhas_any mode mods 1 b1 h1 W a b
 have HH2 : Hid (∀ W, Blk W w.heap.size 3 #[.int .i64 mode] → Blk W (w.heap.size + 1) 23 #[.int .i64 btn, .int .i64 typ, .int .i64 x, .int .i64 y, .int .i64 mods] → Calls Tryz.prog 45 #[.int .i64 2, .pointer (some ⟨w.heap.size, 0, none⟩), .pointer (some ⟨w.heap.size + 1, 0, none⟩)] W fun e w' => e = .returned (.bool b2) ∧ Below W.heap.size W w') := Lib.hid fun W a b => mhas_any mode mods 2 b2 h2 W a b
 have HH4 : Hid (∀ W, Blk W w.heap.size 3 #[.int .i64 mode] → Blk W (w.heap.size + 1) 23 #[.int .i64 btn, .int .i64 typ, .int .i64 x, .int .i64 y, .int .i64 mods] → Calls Tryz.prog 45 #[.int .i64 4, .pointer (some ⟨w.heap.size, 0, none⟩), .pointer (some ⟨w.heap.size + 1, 0, none⟩)] W fun e w' => e = .returned (.bool b4) ∧ Below W.heap.size W w') := Lib.hid fun W a b => mhas_any mode mods 4 b4 h4 W a b
 clear h1 h2 h4 e0 e1 e2 e4 r0 r1 r2 r4 hsum hq
 obtain ⟨a0, a1, a2, a3, a4⟩ := Blk.cells5 ke
 have KM := Lib.hid km
 have KE := Lib.hid ke
 clear km ke
 go_enter Tryz.func20, Tryz.ntmps20
 go_wp2_with fail
 refine (HW0.out _).mono ?_
 rintro e w1 ⟨rfl, hb⟩
 have hB1 := hB.trans (hb.mono hB.size)
 have km1 := KM.out.below hb KM.out.lt
 have ke1 := KE.out.below hb KE.out.lt
 clear a0 a1 a2 a3 a4 hB hb KM KE
 go_wp2_with fail
 refine (HH1.out _ km1 ke1).mono ?_
 rintro e w2 ⟨rfl, hb⟩
 have hB2 := hB1.trans (hb.mono hB1.size)
 have km2 := km1.below hb km1.lt
 have ke2 := ke1.below hb ke1.lt
 clear hB1 hb km1 ke1
 go_wp2_with fail
 refine (HW1.out _).mono ?_
 rintro e w3 ⟨rfl, hb⟩
 have hB3 := hB2.trans (hb.mono hB2.size)
 have km3 := km2.below hb km2.lt
 have ke3 := ke2.below hb ke2.lt
 clear hB2 hb km2 ke2
 go_wp2_with fail
 refine (HH2.out _ km3 ke3).mono ?_
 rintro e w4 ⟨rfl, hb⟩
 have hB4 := hB3.trans (hb.mono hB3.size)
 have km4 := km3.below hb km3.lt
 have ke4 := ke3.below hb ke3.lt
 clear hB3 hb km3 ke3
 go_wp2_with fail
 refine (HW2.out _).mono ?_
 rintro e w5 ⟨rfl, hb⟩
 have hB5 := hB4.trans (hb.mono hB4.size)
 have km5 := km4.below hb km4.lt
 have ke5 := ke4.below hb ke4.lt
 clear hB4 hb km4 ke4
 go_wp2_with fail
 refine (HH4.out _ km5 ke5).mono ?_
 rintro e w6 ⟨rfl, hb⟩
 have hB6 := hB5.trans (hb.mono hB5.size)
 clear hB5 hb km5 ke5
 go_wp2_with fail
 refine (HW4.out _).mono ?_
 rintro e w7 ⟨rfl, hb⟩
 have hB7 := hB6.trans (hb.mono hB6.size)
 clear hB6 hb
 go_wp2_with fail
 refine (HS.out _ _ (rd_is w7 [n0, n1, n2, n4] _ _ _ rfl)).mono ?_
 rintro e w8 ⟨rfl, hb⟩
 have hB8 := hB7.alloc hB7.size (.cells #[.int .i64 n0, .int .i64 n1, .int .i64 n2, .int .i64 n4] 3)
 go_wp2_with fail
 go_ret
 exact ⟨rfl, hB8.trans (hb.mono hB8.size)⟩
set_option maxRecDepth 100000 in
set_option maxHeartbeats 4000000 in
theorem mmods_any (n q : Int) (hq : modP n = q) (w : World) : Calls Tryz.prog 26 #[.int .i64 n] w (NumE q w) := by
 obtain ⟨b1, h1⟩ : ∃ b, bT n 4 = b := ⟨_, rfl⟩
 obtain ⟨b2, h2⟩ : ∃ b, bT n 8 = b := ⟨_, rfl⟩
 obtain ⟨b4, h4⟩ : ∃ b, bT n 16 = b := ⟨_, rfl⟩
 obtain ⟨n1, e1⟩ : ∃ b, wh b1 1 = b := ⟨_, rfl⟩
 obtain ⟨n2, e2⟩ : ∃ b, wh b2 2 = b := ⟨_, rfl⟩
 obtain ⟨n4, e4⟩ : ∃ b, wh b4 4 = b := ⟨_, rfl⟩
 have r1 := wh_rng b1 (n := 1) (by decide)
 have r2 := wh_rng b2 (n := 2) (by decide)
 have r4 := wh_rng b4 (n := 4) (by decide)
 rw [e1] at r1
 rw [e2] at r2
 rw [e4] at r4
 have hsum : [n1, n2, n4].sum = q := by
  rw [← hq]; unfold modP; rw [h1, h2, h4, e1, e2, e4]; simp; omega
 have HW1 : Hid (∀ W, Calls Tryz.prog 18 #[.bool b1, .int .i64 1] W (NumE n1 W)) := Lib.hid fun W => mwhen_any b1 1 n1 e1 W
 have HW2 : Hid (∀ W, Calls Tryz.prog 18 #[.bool b2, .int .i64 2] W (NumE n2 W)) := Lib.hid fun W => mwhen_any b2 2 n2 e2 W
 have HW4 : Hid (∀ W, Calls Tryz.prog 18 #[.bool b4, .int .i64 4] W (NumE n4 W)) := Lib.hid fun W => mwhen_any b4 4 n4 e4 W
 have HS : Hid (∀ A W, Rd W A (is_ [n1, n2, n4]) → Calls Tryz.prog 46 #[.slice A 3 3] W (NumE q W)) := Lib.hid fun A W hr => msum_any [n1, n2, n4] 3 q rfl (by decide) (by
  intro n hn
  simp only [List.mem_cons, List.not_mem_nil, or_false] at hn
  rcases hn with rfl | rfl | rfl <;> omega) hsum A 3 W hr
 have km := Blk.new w 3 #[.int .i64 n]
 have hB : Below w.heap.size w (w.alloc (.cells #[.int .i64 n] 3)) := (Below.refl _ w).alloc (Nat.le_refl _) _
 have HH1 : Hid (∀ W, Blk W w.heap.size 3 #[.int .i64 n] → Calls Tryz.prog 51 #[.int .i64 4, .pointer (some ⟨w.heap.size, 0, none⟩)] W fun e w' => e = .returned (.bool b1) ∧ Below W.heap.size W w') := Lib.hid fun W a => mmodhas_any n 4 b1 h1 W a
 have HH2 : Hid (∀ W, Blk W w.heap.size 3 #[.int .i64 n] → Calls Tryz.prog 51 #[.int .i64 8, .pointer (some ⟨w.heap.size, 0, none⟩)] W fun e w' => e = .returned (.bool b2) ∧ Below W.heap.size W w') := Lib.hid fun W a => mmodhas_any n 8 b2 h2 W a
 have HH4 : Hid (∀ W, Blk W w.heap.size 3 #[.int .i64 n] → Calls Tryz.prog 51 #[.int .i64 16, .pointer (some ⟨w.heap.size, 0, none⟩)] W fun e w' => e = .returned (.bool b4) ∧ Below W.heap.size W w') := Lib.hid fun W a => mmodhas_any n 16 b4 h4 W a
 clear h1 h2 h4 e1 e2 e4 r1 r2 r4 hsum hq
 go_enter Tryz.func26, Tryz.ntmps26
 go_wp2_with fail
 refine (HH1.out _ km).mono ?_
 rintro e w2 ⟨rfl, hb⟩
 have hB2 := hB.trans (hb.mono hB.size)
 have km2 := km.below hb km.lt
 clear hB hb km
 go_wp2_with fail
 refine (HW1.out _).mono ?_
 rintro e w3 ⟨rfl, hb⟩
 have hB3 := hB2.trans (hb.mono hB2.size)
 have km3 := km2.below hb km2.lt
 clear hB2 hb km2
 go_wp2_with fail
 refine (HH2.out _ km3).mono ?_
 rintro e w4 ⟨rfl, hb⟩
 have hB4 := hB3.trans (hb.mono hB3.size)
 have km4 := km3.below hb km3.lt
 clear hB3 hb km3
 go_wp2_with fail
 refine (HW2.out _).mono ?_
 rintro e w5 ⟨rfl, hb⟩
 have hB5 := hB4.trans (hb.mono hB4.size)
 have km5 := km4.below hb km4.lt
 clear hB4 hb km4
 go_wp2_with fail
 refine (HH4.out _ km5).mono ?_
 rintro e w6 ⟨rfl, hb⟩
 have hB6 := hB5.trans (hb.mono hB5.size)
 clear hB5 hb km5
 go_wp2_with fail
 refine (HW4.out _).mono ?_
 rintro e w7 ⟨rfl, hb⟩
 have hB7 := hB6.trans (hb.mono hB6.size)
 clear hB6 hb
 go_wp2_with fail
 refine (HS.out _ _ (rd_is w7 [n1, n2, n4] _ _ _ rfl)).mono ?_
 rintro e w8 ⟨rfl, hb⟩
 have hB8 := hB7.alloc hB7.size (.cells #[.int .i64 n1, .int .i64 n2, .int .i64 n4] 3)
 go_wp2_with fail
 go_ret
 exact ⟨rfl, hB8.trans (hb.mono hB8.size)⟩
def pcsL (s : Sq) : List (List UInt8) := [[27], (formF s.kind).letter, privL s.priv, parL s.params, s.inter, privL s.final, s.data, (formF s.kind).en]
theorem pcs_put {s : Sq} (h : mayS s = 0) : Lib.join (pcsL s) [] = putS s := by
 obtain ⟨_, hv, hp, _, hi, hd, hl, hb⟩ := ok_parts h
 obtain ⟨k, pv, ps, it, f, d⟩ := s
 have hne : ∀ n : Nat, 1 ≤ n → btw n 126 f = true → privL f = [f] := fun n hn h => by
  unfold privL
  rw [if_neg]
  intro e
  rw [e, btw_iff] at h
  simp at h
  omega
 have hk : k = 1 ∨ k = 2 ∨ k = 3 ∨ k = 4 ∨ k = 5 := by
  unfold lastOk at hl
  dsimp only at hl
  split at hl
  ·omega
  ·split at hl
   ·omega
   ·simp only [Bool.and_eq_true, decide_eq_true_eq] at hl; omega
 have hj : ∀ l : List (List UInt8), Lib.join l [] = l.flatten := by
  intro l
  match l with
  | [] => rfl
  | [p] => simp [Lib.join]
  | p :: q :: l =>
    rw [join_cons2]
    have : ∀ l : List (List UInt8), Lib.join l [] = l.flatten := by
     intro l
     induction l with
     | nil => rfl
     | cons a l ih =>
       cases l with
       | nil => simp [Lib.join]
       | cons b l => rw [join_cons2, ih]; simp
    rw [this]
    simp
 rw [hj]
 unfold pcsL
 dsimp only at hv hp hi hd ⊢
 rcases hk with rfl | rfl | rfl | rfl | rfl
 ·have hf : btw 64 126 f = true := by simpa [lastOk] using hl
  have hd0 : d = [] := by simpa [bareOk] using hb
  subst hd0
  rw [hne 64 (by omega) hf]
  simp [formF, putS, bodyL]
 ·have h1 : pv = 0 ∧ ps = [] ∧ it = [] ∧ d = [] := by
   simp [bareOk] at hb
   obtain ⟨⟨⟨a, b⟩, c⟩, e⟩ := hb
   exact ⟨a, b, c, e⟩
  obtain ⟨rfl, rfl, rfl, rfl⟩ := h1
  have hf : btw 64 126 f = true := by simpa [lastOk] using hl
  rw [hne 64 (by omega) hf]
  simp [formF, putS, privL, parL]
 ·have hf : btw 64 126 f = true := by simpa [lastOk] using hl
  rw [hne 64 (by omega) hf]
  simp [formF, putS, bodyL]
 ·have h1 : pv = 0 ∧ ps = [] ∧ it = [] := by
   simp [bareOk] at hb
   exact ⟨hb.1.1, hb.1.2, hb.2⟩
  have hf : f = 0 := by simpa [lastOk] using hl
  obtain ⟨rfl, rfl, rfl⟩ := h1
  subst hf
  simp [formF, putS, privL, parL]
 ·have h1 : pv = 0 ∧ ps = [] ∧ d = [] := by
   simp [bareOk] at hb
   exact ⟨hb.1.1, hb.1.2, hb.2⟩
  obtain ⟨rfl, rfl, rfl⟩ := h1
  have hf : btw 48 126 f = true := by simp [lastOk] at hl; exact hl.1
  rw [hne 48 (by omega) hf]
  simp [formF, putS, privL, parL]
def WYesO (T : List UInt8) (w : World) (e : Ending) (w' : World) : Prop := (∃ A c, e = .returned (.tuple #[.slice A T.length c, .int .i64 0]) ∧ T.length ≤ c ∧ Rd w' A (bs T) ∧ Own w' w.heap.size 5 1 (.slice A T.length c) T.length (bs T)) ∧ Below w.heap.size w w'
set_option maxRecDepth 100000 in
set_option maxHeartbeats 8000000 in
theorem pput_own (s : Sq) (A : Option Addr) (c : Nat) (w : World) (hm : mayS s = 0) (ht : Tab w) (hr : RdP w A s.params) :
 Calls Tryz.prog 53 #[sqV s A c] w (WYesO (putS s) w) := by
 obtain ⟨hdl, hv, hp, hil, hin, hd, hl, hbr⟩ := ok_parts hm
 obtain ⟨s1, s2, s3, s4⟩ := may_small hm
 obtain ⟨l16, l8⟩ := parOk_lens hp
 have hpp : Hid (∀ p ∈ s.params, p.length ≤ 4294967296) := Lib.hid fun p hp => by have := (l8 p hp).1; omega
 have HM := Lib.hid hm
 have HPO := Lib.hid hp
 have HJ := Lib.hid (pcs_put hm)
 have HKB := Lib.hid (show kindB s.kind = true from decide_eq_true s4)
 have hB : Below w.heap.size w (w.alloc (.cells (seqC s A c) 44)) := (Below.refl _ _).alloc (Nat.le_refl _) _
 clear hm hv hp hin hd hl hbr l8 s4
 unfold sqV
 go_enter Tryz.func53, Tryz.ntmps53
 go_wp2_with fail
 refine (pmay_any s A c 0 _ HM.out (by omega) hpp.out (by omega) (hr.below hB)).mono ?_
 rintro e w1 ⟨rfl, hb1⟩
 have hb1w : Below w.heap.size w w1 := hB.trans (hb1.mono (by simp [seqC]))
 have hq1 : Blk w1 w.heap.size 44 (seqC s A c) := (Blk.new w 44 (seqC s A c)).below hb1 (by simp [seqC])
 obtain ⟨c0, c1, c2, c3, c4, c5⟩ := Blk.cells6 hq1
 clear hb1 hB
 go_wp2_with fail
 refine (formOf_any s.kind _).mono ?_
 rw [HKB.out]
 rintro e w2 ⟨rfl, hb2⟩
 obtain ⟨f, hf⟩ : ∃ f, formF s.kind = f := ⟨_, rfl⟩
 have HF := Lib.hid hf
 rw [hf]
 clear hf
 have T1 : Two w (w2.alloc (.cells #[.string ⟨f.letter.toArray⟩, .bool f.body, .bool f.inter, .int .u8 (f.first.toNat : Int), .string ⟨f.en.toArray⟩] 66)) s A c f w2.heap.size :=
  ⟨(hq1.below hb2 hq1.lt).alloc _, Blk.new _ _ _, (hb1w.trans (hb2.mono hb1w.size)).alloc (Nat.le_trans hb1w.size hb2.size) _, Nat.lt_of_lt_of_le hq1.lt hb2.size⟩
 clear hb2 hq1 c0 c1 c2 c3 c4 c5 hb1w
 unfold fmV
 go_upto_region 5 with (fail)
 obtain ⟨⟨c0, c1, c2, c3, c4, c5⟩, f0, f1, f2, f3, f4⟩ := T1.cells
 generalize w2.alloc (.cells #[.string ⟨f.letter.toArray⟩, .bool f.body, .bool f.inter, .int .u8 (f.first.toNat : Int), .string ⟨f.en.toArray⟩] 66) = W1 at *
 have hltW : w2.heap.size < W1.heap.size := T1.fm.lt
 have hwW : w.heap.size ≤ W1.heap.size := T1.be.size
 obtain ⟨T, hT⟩ : ∃ T, putS s = T := ⟨_, rfl⟩
 have HTT := Lib.hid hT
 rw [hT] at s3 HJ
 clear hT
 obtain ⟨C, X, hX⟩ := conv_own Tryz.prog 9 25 5 T Tryz.underlying9 Tryz.underlying25 Tryz.underlying5 (by simp only [maxLen]; omega)
 have hV := fun W => (hX W).1
 have HX : Hid (∀ W, Rd (X W) (some ⟨W.heap.size, 0, none⟩) (bs T) ∧ Below W.heap.size W (X W)) := Lib.hid (fun W => ⟨(hX W).2.2.1, (hX W).2.2.2.1⟩)
 have HOW := Lib.hid (fun W => (hX W).2.2.2.2)
 have HC := Lib.hid (fun W => (hX W).2.1)
 have HS : Hid (∀ W, Below W1.heap.size W1 W → Below W1.heap.size W1 W ∧ W.cell? ⟨w.heap.size, 0, none⟩ = some (.int .i64 s.kind) ∧ W.cell? ⟨w.heap.size, 1, none⟩ = some (.int .u8 (s.priv.toNat : Int)) ∧ W.cell? ⟨w.heap.size, 2, none⟩ = some (.slice A s.params.length c) ∧ W.cell? ⟨w.heap.size, 3, none⟩ = some (.string ⟨s.inter.toArray⟩) ∧ W.cell? ⟨w.heap.size, 4, none⟩ = some (.int .u8 (s.final.toNat : Int)) ∧ W.cell? ⟨w.heap.size, 5, none⟩ = some (.string ⟨s.data.toArray⟩) ∧ W.cell? ⟨w2.heap.size, 0, none⟩ = some (.string ⟨f.letter.toArray⟩) ∧ W.cell? ⟨w2.heap.size, 4, none⟩ = some (.string ⟨f.en.toArray⟩)) := Lib.hid fun W hb =>
  ⟨hb, (hb.cell (p := ⟨w.heap.size, 0, none⟩) T1.sq.lt).trans c0, (hb.cell (p := ⟨w.heap.size, 1, none⟩) T1.sq.lt).trans c1, (hb.cell (p := ⟨w.heap.size, 2, none⟩) T1.sq.lt).trans c2, (hb.cell (p := ⟨w.heap.size, 3, none⟩) T1.sq.lt).trans c3, (hb.cell (p := ⟨w.heap.size, 4, none⟩) T1.sq.lt).trans c4, (hb.cell (p := ⟨w.heap.size, 5, none⟩) T1.sq.lt).trans c5, (hb.cell (p := ⟨w2.heap.size, 0, none⟩) hltW).trans f0, (hb.cell (p := ⟨w2.heap.size, 4, none⟩) hltW).trans f4⟩
 have HTab : Hid (∀ W, Below W1.heap.size W1 W → Tab W) := Lib.hid fun W hb => ht.below (T1.be.trans (hb.mono hwW))
 have HRd : Hid (∀ W, Below W1.heap.size W1 W → RdP W A s.params) := Lib.hid fun W hb => hr.below (T1.be.trans (hb.mono hwW))
 have HJ2 := Lib.hid (show Lib.join [[27], f.letter, privL s.priv, parL s.params, s.inter, privL s.final, s.data, f.en] [] = T by rw [← HJ.out]; unfold pcsL; rw [HF.out])
 clear hX c0 c1 c2 c3 c4 c5 f0 f1 f2 f3 f4
 go_region_held (fun w' => Below W1.heap.size W1 w' ∧ w'.cell? ⟨w.heap.size, 0, none⟩ = some (.int .i64 s.kind) ∧ w'.cell? ⟨w.heap.size, 1, none⟩ = some (.int .u8 (s.priv.toNat : Int)) ∧ w'.cell? ⟨w.heap.size, 2, none⟩ = some (.slice A s.params.length c) ∧ w'.cell? ⟨w.heap.size, 3, none⟩ = some (.string ⟨s.inter.toArray⟩) ∧ w'.cell? ⟨w.heap.size, 4, none⟩ = some (.int .u8 (s.final.toNat : Int)) ∧ w'.cell? ⟨w.heap.size, 5, none⟩ = some (.string ⟨s.data.toArray⟩) ∧ w'.cell? ⟨w2.heap.size, 0, none⟩ = some (.string ⟨f.letter.toArray⟩) ∧ w'.cell? ⟨w2.heap.size, 4, none⟩ = some (.string ⟨f.en.toArray⟩))
  (first | exact HS.out _ (Below.refl _ _).drew | exact HS.out _ ((Below.refl _ _).drew.trans hb3) | exact HS.out _ (((Below.refl _ _).drew.trans hb3).alloc hb3.size _) | exact HS.out _ ((((Below.refl _ _).drew.trans hb3).alloc hb3.size _).trans (hb4.mono (Nat.le_trans (show W1.heap.size ≤ w3.heap.size from hb3.size) (by simp)))) | exact HS.out _ (((((Below.refl _ _).drew.trans hb3).alloc hb3.size _).trans (hb4.mono (Nat.le_trans (show W1.heap.size ≤ w3.heap.size from hb3.size) (by simp)))).trans ((HX.out _).2.mono (Nat.le_trans (show W1.heap.size ≤ w3.heap.size from hb3.size) (Nat.le_trans (by simp) hb4.size)))))
  (first
    | (go_at_call 71; refine (char_any s.priv _ s1).mono ?_; rintro e wc ⟨rfl, rfl⟩)
    | (go_at_call 71; refine (char_any s.final _ s2).mono ?_; rintro e wc ⟨rfl, rfl⟩)
    | (go_at_call 72; refine (ptext_any A c s.params _ HPO.out (HTab.out _ (Below.refl _ _).drew) (HRd.out _ (Below.refl _ _).drew)).mono ?_; rintro e w3 ⟨rfl, hb3⟩)
    | (go_at_call 70; refine (join_any _ 8 8 [[27], f.letter, privL s.priv, parL s.params, s.inter, privL s.final, s.data, f.en] [] T _ rfl HJ2.out (by omega) (Nat.le_refl _) (by omega) (Rd.block (heap_alloc_new _ _) rfl)).mono ?_; rintro e w4 ⟨rfl, hb4⟩))
 have hbX : Below W1.heap.size W1 (X w4) := ((((Below.refl _ _).drew.trans hb3).alloc hb3.size _).trans (hb4.mono (Nat.le_trans (show W1.heap.size ≤ w3.heap.size from hb3.size) (by simp)))).trans ((HX.out _).2.mono (Nat.le_trans (show W1.heap.size ≤ w3.heap.size from hb3.size) (Nat.le_trans (by simp) hb4.size)))
 have hrX := (HX.out w4).1
 have hoX := (HOW.out w4).mono (base' := w.heap.size) (Nat.le_trans hwW (Nat.le_trans (show W1.heap.size ≤ w3.heap.size from hb3.size) (Nat.le_trans (by simp) hb4.size)))
 have hcX := HC.out w4
 clear hV HX HOW HS HTab HRd hb3 hb4
 generalize X w4 = W5 at *
 go_wp2_with fail
 go_ret2
 rw [HTT.out]
 exact ⟨⟨_, _, rfl, hcX, hrX, hoX⟩, T1.be.trans (hbX.mono hwW)⟩
end Go.Proofs.YtjlhhelikiegdaaGreatDoor
