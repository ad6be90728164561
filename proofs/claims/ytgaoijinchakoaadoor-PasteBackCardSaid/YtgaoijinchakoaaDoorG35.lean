/-
  Layer 3, walked: the program's Put.
-/
import Derived.Test.YtgaoijinchakoaaDoorG06
import Derived.Test.YtgaoijinchakoaaDoorG11
import Derived.Test.YtgaoijinchakoaaDoorG25
import Derived.Test.YtgaoijinchakoaaDoorG30
import Derived.Test.YtgaoijinchakoaaDoorG32
import Derived.Test.YtgaoijinchakoaaDoorG34
import Derived.Deep.RegionHeld
namespace Go.Proofs.YtgaoijinchakoaaDoor
open Go.RowKit
def pcsL (s : Sq) : List (List UInt8) := [[27], (formF s.kind).letter, privL s.priv, parL s.params, s.inter, privL s.final, s.data, (formF s.kind).en]
theorem pcs_put {s : Sq} (h : mayS s = 0) : Lib.join (pcsL s) [] = putS s := by
 obtain ⟨_, hv, hp, _, hi, hd, hl, hb⟩ := ok_parts h
 obtain ⟨k, pv, ps, it, f, d⟩ := s
 have hne : ∀ n : Nat, 1 ≤ n → btw n 126 f = true → privL f = [f] := fun n hn h => by
  unfold privL
  rw [if_neg]
  intro e
  rw [e, btw_iff] at h
  simp at h
  omega
 have hk : k = 1 ∨ k = 2 ∨ k = 3 ∨ k = 4 ∨ k = 5 := by
  unfold lastOk at hl
  dsimp only at hl
  split at hl
  ·omega
  ·split at hl
   ·omega
   ·simp only [Bool.and_eq_true, decide_eq_true_eq] at hl; omega
 have hj : ∀ l : List (List UInt8), Lib.join l [] = l.flatten := by
  intro l
  match l with
  | [] => rfl
  | [p] => simp [Lib.join]
  | p :: q :: l =>
    rw [join_cons2]
    have : ∀ l : List (List UInt8), Lib.join l [] = l.flatten := by
     intro l
     induction l with
     | nil => rfl
     | cons a l ih =>
       cases l with
       | nil => simp [Lib.join]
       | cons b l => rw [join_cons2, ih]; simp
    rw [this]
    simp
 rw [hj]
 unfold pcsL
 dsimp only at hv hp hi hd ⊢
 rcases hk with rfl | rfl | rfl | rfl | rfl
 ·have hf : btw 64 126 f = true := by simpa [lastOk] using hl
  have hd0 : d = [] := by simpa [bareOk] using hb
  subst hd0
  rw [hne 64 (by omega) hf]
  simp [formF, putS, bodyL]
 ·have h1 : pv = 0 ∧ ps = [] ∧ it = [] ∧ d = [] := by
   simp [bareOk] at hb
   obtain ⟨⟨⟨a, b⟩, c⟩, e⟩ := hb
   exact ⟨a, b, c, e⟩
  obtain ⟨rfl, rfl, rfl, rfl⟩ := h1
  have hf : btw 64 126 f = true := by simpa [lastOk] using hl
  rw [hne 64 (by omega) hf]
  simp [formF, putS, privL, parL]
 ·have hf : btw 64 126 f = true := by simpa [lastOk] using hl
  rw [hne 64 (by omega) hf]
  simp [formF, putS, bodyL]
 ·have h1 : pv = 0 ∧ ps = [] ∧ it = [] := by
   simp [bareOk] at hb
   exact ⟨hb.1.1, hb.1.2, hb.2⟩
  have hf : f = 0 := by simpa [lastOk] using hl
  obtain ⟨rfl, rfl, rfl⟩ := h1
  subst hf
  simp [formF, putS, privL, parL]
 ·have h1 : pv = 0 ∧ ps = [] ∧ d = [] := by
   simp [bareOk] at hb
   exact ⟨hb.1.1, hb.1.2, hb.2⟩
  obtain ⟨rfl, rfl, rfl⟩ := h1
  have hf : btw 48 126 f = true := by simp [lastOk] at hl; exact hl.1
  rw [hne 48 (by omega) hf]
  simp [formF, putS, privL, parL]
def WYesO (T : List UInt8) (w : World) (e : Ending) (w' : World) : Prop := (∃ A c, e = .returned (.tuple #[.slice A T.length c, .int .i64 0]) ∧ T.length ≤ c ∧ Rd w' A (bs T) ∧ Own w' w.heap.size 5 1 (.slice A T.length c) T.length (bs T)) ∧ Below w.heap.size w w'
set_option maxRecDepth 100000 in
set_option maxHeartbeats 8000000 in
theorem pput_own (s : Sq) (A : Option Addr) (c : Nat) (w : World) (hm : mayS s = 0) (ht : Tab w) (hr : RdP w A s.params) :
 Calls Tryd.prog 40 #[sqV s A c] w (WYesO (putS s) w) := by
 obtain ⟨hdl, hv, hp, hil, hin, hd, hl, hbr⟩ := ok_parts hm
 obtain ⟨s1, s2, s3, s4⟩ := may_small hm
 obtain ⟨l16, l8⟩ := parOk_lens hp
 have hpp : Hid (∀ p ∈ s.params, p.length ≤ 4294967296) := Lib.hid fun p hp => by have := (l8 p hp).1; omega
 have HM := Lib.hid hm
 have HPO := Lib.hid hp
 have HJ := Lib.hid (pcs_put hm)
 have HKB := Lib.hid (show kindB s.kind = true from decide_eq_true s4)
 have hB : Below w.heap.size w (w.alloc (.cells (seqC s A c) 53)) := (Below.refl _ _).alloc (Nat.le_refl _) _
 clear hm hv hp hin hd hl hbr l8 s4
 unfold sqV
 go_enter Tryd.func40, Tryd.ntmps40
 go_wp2_with fail
 refine (pmay_any s A c 0 _ HM.out (by omega) hpp.out (by omega) (hr.below hB)).mono ?_
 rintro e w1 ⟨rfl, hb1⟩
 have hb1w : Below w.heap.size w w1 := hB.trans (hb1.mono (by simp [seqC]))
 have hq1 : Blk w1 w.heap.size 53 (seqC s A c) := (Blk.new w 53 (seqC s A c)).below hb1 (by simp [seqC])
 obtain ⟨c0, c1, c2, c3, c4, c5⟩ := Blk.cells6 hq1
 clear hb1 hB
 go_wp2_with fail
 refine (formOf_any s.kind _).mono ?_
 rw [HKB.out]
 rintro e w2 ⟨rfl, hb2⟩
 obtain ⟨f, hf⟩ : ∃ f, formF s.kind = f := ⟨_, rfl⟩
 have HF := Lib.hid hf
 rw [hf]
 clear hf
 have T1 : Two w (w2.alloc (.cells #[.string ⟨f.letter.toArray⟩, .bool f.body, .bool f.inter, .int .u8 (f.first.toNat : Int), .string ⟨f.en.toArray⟩] 75)) s A c f w2.heap.size :=
  ⟨(hq1.below hb2 hq1.lt).alloc _, Blk.new _ _ _, (hb1w.trans (hb2.mono hb1w.size)).alloc (Nat.le_trans hb1w.size hb2.size) _, Nat.lt_of_lt_of_le hq1.lt hb2.size⟩
 clear hb2 hq1 c0 c1 c2 c3 c4 c5 hb1w
 unfold fmV
 go_upto_region 5 with (fail)
 obtain ⟨⟨c0, c1, c2, c3, c4, c5⟩, f0, f1, f2, f3, f4⟩ := T1.cells
 generalize w2.alloc (.cells #[.string ⟨f.letter.toArray⟩, .bool f.body, .bool f.inter, .int .u8 (f.first.toNat : Int), .string ⟨f.en.toArray⟩] 75) = W1 at *
 have hltW : w2.heap.size < W1.heap.size := T1.fm.lt
 have hwW : w.heap.size ≤ W1.heap.size := T1.be.size
 obtain ⟨T, hT⟩ : ∃ T, putS s = T := ⟨_, rfl⟩
 have HTT := Lib.hid hT
 rw [hT] at s3 HJ
 clear hT
 obtain ⟨C, X, hX⟩ := conv_own Tryd.prog 9 24 5 T Tryd.underlying9 Tryd.underlying24 Tryd.underlying5 (by simp only [maxLen]; omega)
 have hV := fun W => (hX W).1
 have HX : Hid (∀ W, Rd (X W) (some ⟨W.heap.size, 0, none⟩) (bs T) ∧ Below W.heap.size W (X W)) := Lib.hid (fun W => ⟨(hX W).2.2.1, (hX W).2.2.2.1⟩)
 have HOW := Lib.hid (fun W => (hX W).2.2.2.2)
 have HC := Lib.hid (fun W => (hX W).2.1)
 have HS : Hid (∀ W, Below W1.heap.size W1 W → Below W1.heap.size W1 W ∧ W.cell? ⟨w.heap.size, 0, none⟩ = some (.int .i64 s.kind) ∧ W.cell? ⟨w.heap.size, 1, none⟩ = some (.int .u8 (s.priv.toNat : Int)) ∧ W.cell? ⟨w.heap.size, 2, none⟩ = some (.slice A s.params.length c) ∧ W.cell? ⟨w.heap.size, 3, none⟩ = some (.string ⟨s.inter.toArray⟩) ∧ W.cell? ⟨w.heap.size, 4, none⟩ = some (.int .u8 (s.final.toNat : Int)) ∧ W.cell? ⟨w.heap.size, 5, none⟩ = some (.string ⟨s.data.toArray⟩) ∧ W.cell? ⟨w2.heap.size, 0, none⟩ = some (.string ⟨f.letter.toArray⟩) ∧ W.cell? ⟨w2.heap.size, 4, none⟩ = some (.string ⟨f.en.toArray⟩)) := Lib.hid fun W hb =>
  ⟨hb, (hb.cell (p := ⟨w.heap.size, 0, none⟩) T1.sq.lt).trans c0, (hb.cell (p := ⟨w.heap.size, 1, none⟩) T1.sq.lt).trans c1, (hb.cell (p := ⟨w.heap.size, 2, none⟩) T1.sq.lt).trans c2, (hb.cell (p := ⟨w.heap.size, 3, none⟩) T1.sq.lt).trans c3, (hb.cell (p := ⟨w.heap.size, 4, none⟩) T1.sq.lt).trans c4, (hb.cell (p := ⟨w.heap.size, 5, none⟩) T1.sq.lt).trans c5, (hb.cell (p := ⟨w2.heap.size, 0, none⟩) hltW).trans f0, (hb.cell (p := ⟨w2.heap.size, 4, none⟩) hltW).trans f4⟩
 have HTab : Hid (∀ W, Below W1.heap.size W1 W → Tab W) := Lib.hid fun W hb => ht.below (T1.be.trans (hb.mono hwW))
 have HRd : Hid (∀ W, Below W1.heap.size W1 W → RdP W A s.params) := Lib.hid fun W hb => hr.below (T1.be.trans (hb.mono hwW))
 have HJ2 := Lib.hid (show Lib.join [[27], f.letter, privL s.priv, parL s.params, s.inter, privL s.final, s.data, f.en] [] = T by rw [← HJ.out]; unfold pcsL; rw [HF.out])
 clear hX c0 c1 c2 c3 c4 c5 f0 f1 f2 f3 f4
 go_region_held (fun w' => Below W1.heap.size W1 w' ∧ w'.cell? ⟨w.heap.size, 0, none⟩ = some (.int .i64 s.kind) ∧ w'.cell? ⟨w.heap.size, 1, none⟩ = some (.int .u8 (s.priv.toNat : Int)) ∧ w'.cell? ⟨w.heap.size, 2, none⟩ = some (.slice A s.params.length c) ∧ w'.cell? ⟨w.heap.size, 3, none⟩ = some (.string ⟨s.inter.toArray⟩) ∧ w'.cell? ⟨w.heap.size, 4, none⟩ = some (.int .u8 (s.final.toNat : Int)) ∧ w'.cell? ⟨w.heap.size, 5, none⟩ = some (.string ⟨s.data.toArray⟩) ∧ w'.cell? ⟨w2.heap.size, 0, none⟩ = some (.string ⟨f.letter.toArray⟩) ∧ w'.cell? ⟨w2.heap.size, 4, none⟩ = some (.string ⟨f.en.toArray⟩))
  (first | exact HS.out _ (Below.refl _ _).drew | exact HS.out _ ((Below.refl _ _).drew.trans hb3) | exact HS.out _ (((Below.refl _ _).drew.trans hb3).alloc hb3.size _) | exact HS.out _ ((((Below.refl _ _).drew.trans hb3).alloc hb3.size _).trans (hb4.mono (Nat.le_trans (show W1.heap.size ≤ w3.heap.size from hb3.size) (by simp)))) | exact HS.out _ (((((Below.refl _ _).drew.trans hb3).alloc hb3.size _).trans (hb4.mono (Nat.le_trans (show W1.heap.size ≤ w3.heap.size from hb3.size) (by simp)))).trans ((HX.out _).2.mono (Nat.le_trans (show W1.heap.size ≤ w3.heap.size from hb3.size) (Nat.le_trans (by simp) hb4.size)))))
  (first
    | (go_at_call 50; refine (char_any s.priv _ s1).mono ?_; rintro e wc ⟨rfl, rfl⟩)
    | (go_at_call 50; refine (char_any s.final _ s2).mono ?_; rintro e wc ⟨rfl, rfl⟩)
    | (go_at_call 51; refine (ptext_any A c s.params _ HPO.out (HTab.out _ (Below.refl _ _).drew) (HRd.out _ (Below.refl _ _).drew)).mono ?_; rintro e w3 ⟨rfl, hb3⟩)
    | (go_at_call 49; refine (join_any _ 8 8 [[27], f.letter, privL s.priv, parL s.params, s.inter, privL s.final, s.data, f.en] [] T _ rfl HJ2.out (by omega) (Nat.le_refl _) (by omega) (Rd.block (heap_alloc_new _ _) rfl)).mono ?_; rintro e w4 ⟨rfl, hb4⟩))
 have hbX : Below W1.heap.size W1 (X w4) := ((((Below.refl _ _).drew.trans hb3).alloc hb3.size _).trans (hb4.mono (Nat.le_trans (show W1.heap.size ≤ w3.heap.size from hb3.size) (by simp)))).trans ((HX.out _).2.mono (Nat.le_trans (show W1.heap.size ≤ w3.heap.size from hb3.size) (Nat.le_trans (by simp) hb4.size)))
 have hrX := (HX.out w4).1
 have hoX := (HOW.out w4).mono (base' := w.heap.size) (Nat.le_trans hwW (Nat.le_trans (show W1.heap.size ≤ w3.heap.size from hb3.size) (Nat.le_trans (by simp) hb4.size)))
 have hcX := HC.out w4
 clear hV HX HOW HS HTab HRd hb3 hb4
 generalize X w4 = W5 at *
 go_wp2_with fail
 go_ret2
 rw [HTT.out]
 exact ⟨⟨_, _, rfl, hcX, hrX, hoX⟩, T1.be.trans (hbX.mono hwW)⟩
end Go.Proofs.YtgaoijinchakoaaDoor
