/-
  Stage 16, the landed mouse: mathematics: marks by bits, numbers by groups, an event looked for by its button. Layer 3, walked: the program's Put.
-/
import Derived.Test.YtjlhhelikiegdaaDoorG12
import Derived.Test.YtjlhhelikiegdaaDoorG13
import Derived.Test.YtjlhhelikiegdaaDoorG17
import Derived.Test.YtjlhhelikiegdaaDoorG20
import Derived.Test.YtjlhhelikiegdaaDoorG26
import Derived.Test.YtjlhhelikiegdaaDoorG28
import Derived.Laws.Entries
import Derived.Deep.RegionHeld
namespace Go.Proofs.YtjlhhelikiegdaaDoor
open Go.RowKit
def bT (x d : Int) : Bool := bits .and .i64 x d != 0
def wR (x : Int) : Int := wrap64 x
theorem wR_id {x : Int} (h0 : -9223372036854775808 ≤ x) (h1 : x ≤ 9223372036854775807) : wR x = x := by unfold wR wrap64; omega
def wh (b : Bool) (n : Int) : Int := if b = true then n else 0
def numW (b : Int) : Int := if b = 0 then 3 else if b < 4 then wR (b - 1) else wR (wR (wR (b.tdiv 4) * 64) + b % 4)
theorem numW_eq {b : Int} (h0 : 0 ≤ b) (h1 : b ≤ 11) : numW b = numbM b := by
 obtain ⟨n, rfl⟩ := Int.eq_ofNat_of_zero_le h0
 have h : n < 12 := by omega
 have : ∀ n : Fin 12, numW ((n.1 : Nat) : Int) = numbM ((n.1 : Nat) : Int) := by decide +kernel
 exact this ⟨n, h⟩
def hasW (mode mods d : Int) : Bool := (mode != 9) && bT mods d
def mkW (mode typ mods : Int) : Int := wh (typ == 4) 32 + wh (hasW mode mods 1) 4 + wh (hasW mode mods 2) 8 + wh (hasW mode mods 4) 16
theorem wh_rng (b : Bool) {n : Int} (h : 0 ≤ n) : 0 ≤ wh b n ∧ wh b n ≤ n := by unfold wh; split <;> omega
theorem mkW_rng (mode typ mods : Int) : 0 ≤ mkW mode typ mods ∧ mkW mode typ mods ≤ 60 := by
 have a := wh_rng (typ == 4) (n := 32) (by decide)
 have b := wh_rng (hasW mode mods 1) (n := 4) (by decide)
 have c := wh_rng (hasW mode mods 2) (n := 8) (by decide)
 have d := wh_rng (hasW mode mods 4) (n := 16) (by decide)
 unfold mkW
 omega
theorem mods_bits {m : Int} (h0 : 0 ≤ m) (h1 : m ≤ 255) : wh (bT m 1) 4 + wh (bT m 2) 8 + wh (bT m 4) 16 = 4 * (m % 8) := by
 obtain ⟨n, rfl⟩ := Int.eq_ofNat_of_zero_le h0
 have h : n < 256 := by omega
 have : ∀ n : Fin 256, wh (bT ((n.1 : Nat) : Int) 1) 4 + wh (bT ((n.1 : Nat) : Int) 2) 8 + wh (bT ((n.1 : Nat) : Int) 4) 16 = 4 * (((n.1 : Nat) : Int) % 8) := by decide +kernel
 exact this ⟨n, h⟩
theorem mkW_eq (mode : Int) {e : Ms} (h0 : 0 ≤ e.mods) (h1 : e.mods ≤ 255) : mkW mode e.typ e.mods = marksM mode e := by
 have hb := mods_bits h0 h1
 unfold mkW marksM
 have ht : wh (e.typ == 4) 32 = if e.typ = 4 then 32 else 0 := by
  unfold wh
  by_cases h : e.typ = 4
  ·rw [if_pos h, if_pos (by rw [h]; rfl)]
  ·rw [if_neg h, if_neg (by rw [beq_false_of_ne h]; decide)]
 rw [ht]
 by_cases hm : mode = 9
 ·subst hm
  rw [if_neg (show ¬ ((9 : Int) ≠ 9) by decide)]
  simp [hasW, wh]
 ·have hq : (mode != 9) = true := bne_iff_ne.2 hm
  rw [if_pos hm]
  unfold hasW
  rw [hq, Bool.true_and, Bool.true_and, Bool.true_and]
  omega
def codeW (mode : Int) (e : Ms) : Int := wR (numW e.btn + mkW mode e.typ e.mods)
theorem codeW_eq (mode : Int) {e : Ms} (h : mayT e = true) : codeW mode e = codeM mode e := by
 obtain ⟨⟨b0, b1⟩, ⟨m0, m1⟩, _⟩ := may_rng h
 have hr := mcode_rng (mode := mode) h
 unfold codeW
 rw [numW_eq b0 b1, mkW_eq mode m0 m1, ← code_eq h, wR_id (by omega) (by omega)]
theorem code_no {mode : Int} {e : Ms} (h : mayT e = false) : codeM mode e = 0 := by unfold codeM; rw [if_neg (by rw [h]; decide)]
theorem lostW_eq (mode : Int) {e : Ms} (h : mayT e = true) : 32 + numW (wh (!(e.typ == 3)) e.btn) + mkW mode e.typ e.mods = 32 + lostM mode e := by
 obtain ⟨⟨b0, b1⟩, ⟨m0, m1⟩, _⟩ := may_rng h
 unfold lostM
 by_cases h3 : e.typ = 3
 ·rw [if_pos h3, show wh (!(e.typ == 3)) e.btn = 0 by rw [h3]; rfl, mkW_eq mode m0 m1, show numW 0 = 3 from rfl]
  omega
 ·rw [if_neg h3, show wh (!(e.typ == 3)) e.btn = e.btn by unfold wh; rw [if_pos (by rw [beq_false_of_ne h3]; rfl)], numW_eq b0 b1, mkW_eq mode m0 m1, code_eq h]
  omega
def typP (n : Int) (f : UInt8) : Int := if f = 109 then 3 else if bT n 32 = true then 4 else 1
def modP (n : Int) : Int := wh (bT n 4) 1 + wh (bT n 8) 2 + wh (bT n 16) 4
theorem modP_rng (n : Int) : 0 ≤ modP n ∧ modP n ≤ 7 := by
 have a := wh_rng (bT n 4) (n := 1) (by decide)
 have b := wh_rng (bT n 8) (n := 2) (by decide)
 have c := wh_rng (bT n 16) (n := 4) (by decide)
 unfold modP
 omega
theorem num_bits {n : Int} (h0 : 0 ≤ n) (h1 : n ≤ 191) : modP n = n / 4 % 8 ∧ (bT n 32 = true ↔ n / 32 % 2 = 1) := by
 obtain ⟨n, rfl⟩ := Int.eq_ofNat_of_zero_le h0
 have h : n < 192 := by omega
 have : ∀ n : Fin 192, modP ((n.1 : Nat) : Int) = ((n.1 : Nat) : Int) / 4 % 8 ∧ (bT ((n.1 : Nat) : Int) 32 = true ↔ ((n.1 : Nat) : Int) / 32 % 2 = 1) := by decide +kernel
 exact this ⟨n, h⟩
def cand (n : Int) (f : UInt8) (x y b : Int) : Ms := ⟨b, typP n f, x, y, modP n⟩
def hitB (l : List UInt8) (e : Ms) : Bool := mayT e && (encM 1003 1006 e == l)
theorem hit_dec {l : List UInt8} {n : Int} {f : UInt8} {x y b : Int} (h : hitB l (cand n f x y b) = true) : decM l = (cand n f x y b, true) := by
 unfold hitB at h
 rw [Bool.and_eq_true, beq_iff_eq] at h
 have := mou_back h.1
 rw [h.2] at this
 rw [this]
 have hm := modP_rng n
 unfold cand
 simp only [Prod.mk.injEq, and_true, Ms.mk.injEq, true_and]
 omega
def codeS (s : Sq) : Int := argL s.params 0 (-1)
theorem args_of {s : Sq} {k : Nat} {l : List UInt8} {e : Ms} (h : mayT e = true) (hl : encM 1003 1006 e = l) (ht : takeS l = some (s, k)) : codeS s = codeM 1003 e ∧ argL s.params 0 0 = codeM 1003 e ∧ argL s.params 1 0 = e.x ∧ argL s.params 2 0 = e.y := by
 obtain ⟨hm, he⟩ := enc_1006 1003 h
 have hc := mcode_rng (mode := 1003) h
 have hx := may_cell h
 have h2 := takeS_put hm []
 rw [List.append_nil, ← he, hl, ht] at h2
 injection h2 with h2
 injection h2 with h3 _
 subst h3
 obtain ⟨a0, a1, a2⟩ := args3 (codeM 1003 e) e.x e.y ⟨hc.1, by omega, by omega⟩
 refine ⟨?_, a0, a1, a2⟩
 unfold codeS argL
 rw [if_neg (by simp [sqP])]
 show (if codeM 1003 e < 0 then (-1 : Int) else codeM 1003 e) = codeM 1003 e
 rw [if_neg (by omega)]
theorem no_hit {l : List UInt8} {s : Sq} {k : Nat} (ht : takeS l = some (s, k)) (hn : ∀ b : Int, 0 ≤ b → b ≤ 11 → hitB l (cand (codeS s) s.final (argL s.params 1 0) (argL s.params 2 0) b) = false) : decM l = (⟨0, 0, 0, 0, 0⟩, false) := by
 unfold decM
 rw [ht]
 show decS s l = _
 unfold decS
 split
 ·rfl
 ·split
  ·rfl
  ·rename_i h1 h2
   simp only [not_or, Bool.not_eq_false] at h2
   obtain ⟨_, hm, he⟩ := h2
   have he := Classical.not_not.1 he
   obtain ⟨g, hg⟩ : ∃ g, guessM (argL s.params 0 0) (argL s.params 1 0) (argL s.params 2 0) (s.final == 109) = g := ⟨_, rfl⟩
   rw [hg] at hm he ⊢
   obtain ⟨a, a0, a1, a2⟩ := args_of hm he ht
   have hc := mcode_rng (mode := 1003) hm
   obtain ⟨⟨b0, b1⟩, _⟩ := may_rng hm
   obtain ⟨p1, p2⟩ := num_bits hc.1 hc.2
   obtain ⟨C, hC⟩ : ∃ C, codeM 1003 g = C := ⟨_, rfl⟩
   rw [hC] at a a0 hc p1 p2
   have hcand : cand (codeS s) s.final (argL s.params 1 0) (argL s.params 2 0) g.btn = g := by
    have hgg := hg
    rw [a0] at hgg
    unfold guessM at hgg
    unfold cand typP
    rw [a]
    rw [← hgg]
    simp only [Ms.mk.injEq, true_and, beq_iff_eq]
    refine ⟨?_, p1⟩
    by_cases hf : s.final = 109
    ·rw [if_pos hf, if_pos hf]
    ·rw [if_neg hf, if_neg hf]
     by_cases hq : bT C 32 = true
     ·rw [if_pos hq, if_pos (p2.1 hq)]
     ·rw [if_neg hq, if_neg (fun h => hq (p2.2 h))]
   have := hn g.btn b0 b1
   rw [hcand] at this
   unfold hitB at this
   rw [hm, he] at this
   simp at this
theorem no_take {l : List UInt8} (ht : takeS l = none) : decM l = (⟨0, 0, 0, 0, 0⟩, false) := by unfold decM; rw [ht]
theorem no_take_hit {l : List UInt8} (ht : takeS l = none) (e : Ms) : hitB l e = false := by
 cases h : hitB l e with
 | false => rfl
 | true =>
   unfold hitB at h
   rw [Bool.and_eq_true, beq_iff_eq] at h
   have := mou_back h.1
   rw [h.2, no_take ht] at this
   simp at this
def pcsL (s : Sq) : List (List UInt8) := [[27], (formF s.kind).letter, privL s.priv, parL s.params, s.inter, privL s.final, s.data, (formF s.kind).en]
theorem pcs_put {s : Sq} (h : mayS s = 0) : Lib.join (pcsL s) [] = putS s := by
 obtain ⟨_, hv, hp, _, hi, hd, hl, hb⟩ := ok_parts h
 obtain ⟨k, pv, ps, it, f, d⟩ := s
 have hne : ∀ n : Nat, 1 ≤ n → btw n 126 f = true → privL f = [f] := fun n hn h => by
  unfold privL
  rw [if_neg]
  intro e
  rw [e, btw_iff] at h
  simp at h
  omega
 have hk : k = 1 ∨ k = 2 ∨ k = 3 ∨ k = 4 ∨ k = 5 := by
  unfold lastOk at hl
  dsimp only at hl
  split at hl
  ·omega
  ·split at hl
   ·omega
   ·simp only [Bool.and_eq_true, decide_eq_true_eq] at hl; omega
 have hj : ∀ l : List (List UInt8), Lib.join l [] = l.flatten := by
  intro l
  match l with
  | [] => rfl
  | [p] => simp [Lib.join]
  | p :: q :: l =>
    rw [join_cons2]
    have : ∀ l : List (List UInt8), Lib.join l [] = l.flatten := by
     intro l
     induction l with
     | nil => rfl
     | cons a l ih =>
       cases l with
       | nil => simp [Lib.join]
       | cons b l => rw [join_cons2, ih]; simp
    rw [this]
    simp
 rw [hj]
 unfold pcsL
 dsimp only at hv hp hi hd ⊢
 rcases hk with rfl | rfl | rfl | rfl | rfl
 ·have hf : btw 64 126 f = true := by simpa [lastOk] using hl
  have hd0 : d = [] := by simpa [bareOk] using hb
  subst hd0
  rw [hne 64 (by omega) hf]
  simp [formF, putS, bodyL]
 ·have h1 : pv = 0 ∧ ps = [] ∧ it = [] ∧ d = [] := by
   simp [bareOk] at hb
   obtain ⟨⟨⟨a, b⟩, c⟩, e⟩ := hb
   exact ⟨a, b, c, e⟩
  obtain ⟨rfl, rfl, rfl, rfl⟩ := h1
  have hf : btw 64 126 f = true := by simpa [lastOk] using hl
  rw [hne 64 (by omega) hf]
  simp [formF, putS, privL, parL]
 ·have hf : btw 64 126 f = true := by simpa [lastOk] using hl
  rw [hne 64 (by omega) hf]
  simp [formF, putS, bodyL]
 ·have h1 : pv = 0 ∧ ps = [] ∧ it = [] := by
   simp [bareOk] at hb
   exact ⟨hb.1.1, hb.1.2, hb.2⟩
  have hf : f = 0 := by simpa [lastOk] using hl
  obtain ⟨rfl, rfl, rfl⟩ := h1
  subst hf
  simp [formF, putS, privL, parL]
 ·have h1 : pv = 0 ∧ ps = [] ∧ d = [] := by
   simp [bareOk] at hb
   exact ⟨hb.1.1, hb.1.2, hb.2⟩
  obtain ⟨rfl, rfl, rfl⟩ := h1
  have hf : btw 48 126 f = true := by simp [lastOk] at hl; exact hl.1
  rw [hne 48 (by omega) hf]
  simp [formF, putS, privL, parL]
def WYesO (T : List UInt8) (w : World) (e : Ending) (w' : World) : Prop := (∃ A c, e = .returned (.tuple #[.slice A T.length c, .int .i64 0]) ∧ T.length ≤ c ∧ Rd w' A (bs T) ∧ Own w' w.heap.size 5 1 (.slice A T.length c) T.length (bs T)) ∧ Below w.heap.size w w'
set_option maxRecDepth 100000 in
set_option maxHeartbeats 8000000 in
theorem pput_own (s : Sq) (A : Option Addr) (c : Nat) (w : World) (hm : mayS s = 0) (ht : Tab w) (hr : RdP w A s.params) :
 Calls Tryd.prog 41 #[sqV s A c] w (WYesO (putS s) w) := by
 obtain ⟨hdl, hv, hp, hil, hin, hd, hl, hbr⟩ := ok_parts hm
 obtain ⟨s1, s2, s3, s4⟩ := may_small hm
 obtain ⟨l16, l8⟩ := parOk_lens hp
 have hpp : Hid (∀ p ∈ s.params, p.length ≤ 4294967296) := Lib.hid fun p hp => by have := (l8 p hp).1; omega
 have HM := Lib.hid hm
 have HPO := Lib.hid hp
 have HJ := Lib.hid (pcs_put hm)
 have HKB := Lib.hid (show kindB s.kind = true from decide_eq_true s4)
 have hB : Below w.heap.size w (w.alloc (.cells (seqC s A c) 43)) := (Below.refl _ _).alloc (Nat.le_refl _) _
 clear hm hv hp hin hd hl hbr l8 s4
 unfold sqV
 go_enter Tryd.func41, Tryd.ntmps41
 go_wp2_with fail
 refine (pmay_any s A c 0 _ HM.out (by omega) hpp.out (by omega) (hr.below hB)).mono ?_
 rintro e w1 ⟨rfl, hb1⟩
 have hb1w : Below w.heap.size w w1 := hB.trans (hb1.mono (by simp [seqC]))
 have hq1 : Blk w1 w.heap.size 43 (seqC s A c) := (Blk.new w 43 (seqC s A c)).below hb1 (by simp [seqC])
 obtain ⟨c0, c1, c2, c3, c4, c5⟩ := Blk.cells6 hq1
 clear hb1 hB
 go_wp2_with fail
 refine (formOf_any s.kind _).mono ?_
 rw [HKB.out]
 rintro e w2 ⟨rfl, hb2⟩
 obtain ⟨f, hf⟩ : ∃ f, formF s.kind = f := ⟨_, rfl⟩
 have HF := Lib.hid hf
 rw [hf]
 clear hf
 have T1 : Two w (w2.alloc (.cells #[.string ⟨f.letter.toArray⟩, .bool f.body, .bool f.inter, .int .u8 (f.first.toNat : Int), .string ⟨f.en.toArray⟩] 61)) s A c f w2.heap.size :=
  ⟨(hq1.below hb2 hq1.lt).alloc _, Blk.new _ _ _, (hb1w.trans (hb2.mono hb1w.size)).alloc (Nat.le_trans hb1w.size hb2.size) _, Nat.lt_of_lt_of_le hq1.lt hb2.size⟩
 clear hb2 hq1 c0 c1 c2 c3 c4 c5 hb1w
 unfold fmV
 go_upto_region 5 with (fail)
 obtain ⟨⟨c0, c1, c2, c3, c4, c5⟩, f0, f1, f2, f3, f4⟩ := T1.cells
 generalize w2.alloc (.cells #[.string ⟨f.letter.toArray⟩, .bool f.body, .bool f.inter, .int .u8 (f.first.toNat : Int), .string ⟨f.en.toArray⟩] 61) = W1 at *
 have hltW : w2.heap.size < W1.heap.size := T1.fm.lt
 have hwW : w.heap.size ≤ W1.heap.size := T1.be.size
 obtain ⟨T, hT⟩ : ∃ T, putS s = T := ⟨_, rfl⟩
 have HTT := Lib.hid hT
 rw [hT] at s3 HJ
 clear hT
 obtain ⟨C, X, hX⟩ := conv_own Tryd.prog 9 26 5 T Tryd.underlying9 Tryd.underlying26 Tryd.underlying5 (by simp only [maxLen]; omega)
 have hV := fun W => (hX W).1
 have HX : Hid (∀ W, Rd (X W) (some ⟨W.heap.size, 0, none⟩) (bs T) ∧ Below W.heap.size W (X W)) := Lib.hid (fun W => ⟨(hX W).2.2.1, (hX W).2.2.2.1⟩)
 have HOW := Lib.hid (fun W => (hX W).2.2.2.2)
 have HC := Lib.hid (fun W => (hX W).2.1)
 have HS : Hid (∀ W, Below W1.heap.size W1 W → Below W1.heap.size W1 W ∧ W.cell? ⟨w.heap.size, 0, none⟩ = some (.int .i64 s.kind) ∧ W.cell? ⟨w.heap.size, 1, none⟩ = some (.int .u8 (s.priv.toNat : Int)) ∧ W.cell? ⟨w.heap.size, 2, none⟩ = some (.slice A s.params.length c) ∧ W.cell? ⟨w.heap.size, 3, none⟩ = some (.string ⟨s.inter.toArray⟩) ∧ W.cell? ⟨w.heap.size, 4, none⟩ = some (.int .u8 (s.final.toNat : Int)) ∧ W.cell? ⟨w.heap.size, 5, none⟩ = some (.string ⟨s.data.toArray⟩) ∧ W.cell? ⟨w2.heap.size, 0, none⟩ = some (.string ⟨f.letter.toArray⟩) ∧ W.cell? ⟨w2.heap.size, 4, none⟩ = some (.string ⟨f.en.toArray⟩)) := Lib.hid fun W hb =>
  ⟨hb, (hb.cell (p := ⟨w.heap.size, 0, none⟩) T1.sq.lt).trans c0, (hb.cell (p := ⟨w.heap.size, 1, none⟩) T1.sq.lt).trans c1, (hb.cell (p := ⟨w.heap.size, 2, none⟩) T1.sq.lt).trans c2, (hb.cell (p := ⟨w.heap.size, 3, none⟩) T1.sq.lt).trans c3, (hb.cell (p := ⟨w.heap.size, 4, none⟩) T1.sq.lt).trans c4, (hb.cell (p := ⟨w.heap.size, 5, none⟩) T1.sq.lt).trans c5, (hb.cell (p := ⟨w2.heap.size, 0, none⟩) hltW).trans f0, (hb.cell (p := ⟨w2.heap.size, 4, none⟩) hltW).trans f4⟩
 have HTab : Hid (∀ W, Below W1.heap.size W1 W → Tab W) := Lib.hid fun W hb => ht.below (T1.be.trans (hb.mono hwW))
 have HRd : Hid (∀ W, Below W1.heap.size W1 W → RdP W A s.params) := Lib.hid fun W hb => hr.below (T1.be.trans (hb.mono hwW))
 have HJ2 := Lib.hid (show Lib.join [[27], f.letter, privL s.priv, parL s.params, s.inter, privL s.final, s.data, f.en] [] = T by rw [← HJ.out]; unfold pcsL; rw [HF.out])
 clear hX c0 c1 c2 c3 c4 c5 f0 f1 f2 f3 f4
 go_region_held (fun w' => Below W1.heap.size W1 w' ∧ w'.cell? ⟨w.heap.size, 0, none⟩ = some (.int .i64 s.kind) ∧ w'.cell? ⟨w.heap.size, 1, none⟩ = some (.int .u8 (s.priv.toNat : Int)) ∧ w'.cell? ⟨w.heap.size, 2, none⟩ = some (.slice A s.params.length c) ∧ w'.cell? ⟨w.heap.size, 3, none⟩ = some (.string ⟨s.inter.toArray⟩) ∧ w'.cell? ⟨w.heap.size, 4, none⟩ = some (.int .u8 (s.final.toNat : Int)) ∧ w'.cell? ⟨w.heap.size, 5, none⟩ = some (.string ⟨s.data.toArray⟩) ∧ w'.cell? ⟨w2.heap.size, 0, none⟩ = some (.string ⟨f.letter.toArray⟩) ∧ w'.cell? ⟨w2.heap.size, 4, none⟩ = some (.string ⟨f.en.toArray⟩))
  (first | exact HS.out _ (Below.refl _ _).drew | exact HS.out _ ((Below.refl _ _).drew.trans hb3) | exact HS.out _ (((Below.refl _ _).drew.trans hb3).alloc hb3.size _) | exact HS.out _ ((((Below.refl _ _).drew.trans hb3).alloc hb3.size _).trans (hb4.mono (Nat.le_trans (show W1.heap.size ≤ w3.heap.size from hb3.size) (by simp)))) | exact HS.out _ (((((Below.refl _ _).drew.trans hb3).alloc hb3.size _).trans (hb4.mono (Nat.le_trans (show W1.heap.size ≤ w3.heap.size from hb3.size) (by simp)))).trans ((HX.out _).2.mono (Nat.le_trans (show W1.heap.size ≤ w3.heap.size from hb3.size) (Nat.le_trans (by simp) hb4.size)))))
  (first
    | (go_at_call 55; refine (char_any s.priv _ s1).mono ?_; rintro e wc ⟨rfl, rfl⟩)
    | (go_at_call 55; refine (char_any s.final _ s2).mono ?_; rintro e wc ⟨rfl, rfl⟩)
    | (go_at_call 56; refine (ptext_any A c s.params _ HPO.out (HTab.out _ (Below.refl _ _).drew) (HRd.out _ (Below.refl _ _).drew)).mono ?_; rintro e w3 ⟨rfl, hb3⟩)
    | (go_at_call 54; refine (join_any _ 8 8 [[27], f.letter, privL s.priv, parL s.params, s.inter, privL s.final, s.data, f.en] [] T _ rfl HJ2.out (by omega) (Nat.le_refl _) (by omega) (Rd.block (heap_alloc_new _ _) rfl)).mono ?_; rintro e w4 ⟨rfl, hb4⟩))
 have hbX : Below W1.heap.size W1 (X w4) := ((((Below.refl _ _).drew.trans hb3).alloc hb3.size _).trans (hb4.mono (Nat.le_trans (show W1.heap.size ≤ w3.heap.size from hb3.size) (by simp)))).trans ((HX.out _).2.mono (Nat.le_trans (show W1.heap.size ≤ w3.heap.size from hb3.size) (Nat.le_trans (by simp) hb4.size)))
 have hrX := (HX.out w4).1
 have hoX := (HOW.out w4).mono (base' := w.heap.size) (Nat.le_trans hwW (Nat.le_trans (show W1.heap.size ≤ w3.heap.size from hb3.size) (Nat.le_trans (by simp) hb4.size)))
 have hcX := HC.out w4
 clear hV HX HOW HS HTab HRd hb3 hb4
 generalize X w4 = W5 at *
 go_wp2_with fail
 go_ret2
 rw [HTT.out]
 exact ⟨⟨_, _, rfl, hcX, hrX, hoX⟩, T1.be.trans (hbX.mono hwW)⟩
end Go.Proofs.YtjlhhelikiegdaaDoor
