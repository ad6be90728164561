/-
  Layer 3, walked: the program's Put. Layer 2, walked: the document's Take, its loop.
-/
import Derived.Test.YtdfojkbgdoiglaaDoorG13
import Derived.Test.YtdfojkbgdoiglaaDoorG15
import Derived.Test.YtdfojkbgdoiglaaDoorG16
import Derived.Test.YtdfojkbgdoiglaaDoorG18
import Derived.Test.YtdfojkbgdoiglaaDoorG21
import Derived.Test.YtdfojkbgdoiglaaDoorG24
import Derived.Test.YtdfojkbgdoiglaaDoorG25
import Derived.Deep.RegionHeld
import Derived.Deep.RegionHeld3
import Derived.Maps.RangeWalk
namespace Go.Proofs.YtdfojkbgdoiglaaDoor
open Go.RowKit
def pcsL (s : Sq) : List (List UInt8) := [[27], (formF s.kind).letter, privL s.priv, parL s.params, s.inter, privL s.final, s.data, (formF s.kind).en]
theorem pcs_put {s : Sq} (h : mayS s = 0) : Lib.join (pcsL s) [] = putS s := by
 obtain ⟨_, hv, hp, _, hi, hd, hl, hb⟩ := ok_parts h
 obtain ⟨k, pv, ps, it, f, d⟩ := s
 have hne : ∀ n : Nat, 1 ≤ n → btw n 126 f = true → privL f = [f] := fun n hn h => by
  unfold privL
  rw [if_neg]
  intro e
  rw [e, btw_iff] at h
  simp at h
  omega
 have hk : k = 1 ∨ k = 2 ∨ k = 3 ∨ k = 4 ∨ k = 5 := by
  unfold lastOk at hl
  dsimp only at hl
  split at hl
  ·omega
  ·split at hl
   ·omega
   ·simp only [Bool.and_eq_true, decide_eq_true_eq] at hl; omega
 have hj : ∀ l : List (List UInt8), Lib.join l [] = l.flatten := by
  intro l
  match l with
  | [] => rfl
  | [p] => simp [Lib.join]
  | p :: q :: l =>
    rw [join_cons2]
    have : ∀ l : List (List UInt8), Lib.join l [] = l.flatten := by
     intro l
     induction l with
     | nil => rfl
     | cons a l ih =>
       cases l with
       | nil => simp [Lib.join]
       | cons b l => rw [join_cons2, ih]; simp
    rw [this]
    simp
 rw [hj]
 unfold pcsL
 dsimp only at hv hp hi hd ⊢
 rcases hk with rfl | rfl | rfl | rfl | rfl
 ·have hf : btw 64 126 f = true := by simpa [lastOk] using hl
  have hd0 : d = [] := by simpa [bareOk] using hb
  subst hd0
  rw [hne 64 (by omega) hf]
  simp [formF, putS, bodyL]
 ·have h1 : pv = 0 ∧ ps = [] ∧ it = [] ∧ d = [] := by
   simp [bareOk] at hb
   obtain ⟨⟨⟨a, b⟩, c⟩, e⟩ := hb
   exact ⟨a, b, c, e⟩
  obtain ⟨rfl, rfl, rfl, rfl⟩ := h1
  have hf : btw 64 126 f = true := by simpa [lastOk] using hl
  rw [hne 64 (by omega) hf]
  simp [formF, putS, privL, parL]
 ·have hf : btw 64 126 f = true := by simpa [lastOk] using hl
  rw [hne 64 (by omega) hf]
  simp [formF, putS, bodyL]
 ·have h1 : pv = 0 ∧ ps = [] ∧ it = [] := by
   simp [bareOk] at hb
   exact ⟨hb.1.1, hb.1.2, hb.2⟩
  have hf : f = 0 := by simpa [lastOk] using hl
  obtain ⟨rfl, rfl, rfl⟩ := h1
  subst hf
  simp [formF, putS, privL, parL]
 ·have h1 : pv = 0 ∧ ps = [] ∧ d = [] := by
   simp [bareOk] at hb
   exact ⟨hb.1.1, hb.1.2, hb.2⟩
  obtain ⟨rfl, rfl, rfl⟩ := h1
  have hf : btw 48 126 f = true := by simp [lastOk] at hl; exact hl.1
  rw [hne 48 (by omega) hf]
  simp [formF, putS, privL, parL]
set_option maxRecDepth 100000 in
set_option maxHeartbeats 8000000 in
theorem pput_yes (s : Sq) (A : Option Addr) (c : Nat) (w : World) (hm : mayS s = 0) (ht : Tab w) (hr : RdP w A s.params) :
 Calls Tryd.prog 53 #[sqV s A c] w (WYes (putS s) w) := by
 obtain ⟨hdl, hv, hp, hil, hin, hd, hl, hbr⟩ := ok_parts hm
 obtain ⟨s1, s2, s3, s4⟩ := may_small hm
 obtain ⟨l16, l8⟩ := parOk_lens hp
 have hpp : Hid (∀ p ∈ s.params, p.length ≤ 4294967296) := Lib.hid fun p hp => by have := (l8 p hp).1; omega
 have HM := Lib.hid hm
 have HPO := Lib.hid hp
 have HJ := Lib.hid (pcs_put hm)
 have HKB := Lib.hid (show kindB s.kind = true from decide_eq_true s4)
 have hB : Below w.heap.size w (w.alloc (.cells (seqC s A c) 32)) := (Below.refl _ _).alloc (Nat.le_refl _) _
 clear hm hv hp hin hd hl hbr l8 s4
 unfold sqV
 go_enter Tryd.func53, Tryd.ntmps53
 go_wp2_with fail
 refine (pmay_any s A c 0 _ HM.out (by omega) hpp.out (by omega) (hr.below hB)).mono ?_
 rintro e w1 ⟨rfl, hb1⟩
 have hb1w : Below w.heap.size w w1 := hB.trans (hb1.mono (by simp [seqC]))
 have hq1 : Blk w1 w.heap.size 32 (seqC s A c) := (Blk.new w 32 (seqC s A c)).below hb1 (by simp [seqC])
 obtain ⟨c0, c1, c2, c3, c4, c5⟩ := Blk.cells6 hq1
 clear hb1 hB
 go_wp2_with fail
 refine (formOf_any s.kind _).mono ?_
 rw [HKB.out]
 rintro e w2 ⟨rfl, hb2⟩
 obtain ⟨f, hf⟩ : ∃ f, formF s.kind = f := ⟨_, rfl⟩
 have HF := Lib.hid hf
 rw [hf]
 clear hf
 have T1 : Two w (w2.alloc (.cells #[.string ⟨f.letter.toArray⟩, .bool f.body, .bool f.inter, .int .u8 (f.first.toNat : Int), .string ⟨f.en.toArray⟩] 81)) s A c f w2.heap.size :=
  ⟨(hq1.below hb2 hq1.lt).alloc _, Blk.new _ _ _, (hb1w.trans (hb2.mono hb1w.size)).alloc (Nat.le_trans hb1w.size hb2.size) _, Nat.lt_of_lt_of_le hq1.lt hb2.size⟩
 clear hb2 hq1 c0 c1 c2 c3 c4 c5 hb1w
 unfold fmV
 go_upto_region 5 with (fail)
 obtain ⟨⟨c0, c1, c2, c3, c4, c5⟩, f0, f1, f2, f3, f4⟩ := T1.cells
 generalize w2.alloc (.cells #[.string ⟨f.letter.toArray⟩, .bool f.body, .bool f.inter, .int .u8 (f.first.toNat : Int), .string ⟨f.en.toArray⟩] 81) = W1 at *
 have hltW : w2.heap.size < W1.heap.size := T1.fm.lt
 have hwW : w.heap.size ≤ W1.heap.size := T1.be.size
 obtain ⟨T, hT⟩ : ∃ T, putS s = T := ⟨_, rfl⟩
 have HTT := Lib.hid hT
 rw [hT] at s3 HJ
 clear hT
 obtain ⟨C, X, hX⟩ := conv_all Tryd.prog 9 26 5 T Tryd.underlying9 Tryd.underlying26 Tryd.underlying5 (by simp only [maxLen]; omega)
 have hV := fun W => (hX W).1
 have HX := Lib.hid (fun W => (hX W).2.2)
 have HC := Lib.hid (fun W => (hX W).2.1)
 have HS : Hid (∀ W, Below W1.heap.size W1 W → Below W1.heap.size W1 W ∧ W.cell? ⟨w.heap.size, 0, none⟩ = some (.int .i64 s.kind) ∧ W.cell? ⟨w.heap.size, 1, none⟩ = some (.int .u8 (s.priv.toNat : Int)) ∧ W.cell? ⟨w.heap.size, 2, none⟩ = some (.slice A s.params.length c) ∧ W.cell? ⟨w.heap.size, 3, none⟩ = some (.string ⟨s.inter.toArray⟩) ∧ W.cell? ⟨w.heap.size, 4, none⟩ = some (.int .u8 (s.final.toNat : Int)) ∧ W.cell? ⟨w.heap.size, 5, none⟩ = some (.string ⟨s.data.toArray⟩) ∧ W.cell? ⟨w2.heap.size, 0, none⟩ = some (.string ⟨f.letter.toArray⟩) ∧ W.cell? ⟨w2.heap.size, 4, none⟩ = some (.string ⟨f.en.toArray⟩)) := Lib.hid fun W hb =>
  ⟨hb, (hb.cell (p := ⟨w.heap.size, 0, none⟩) T1.sq.lt).trans c0, (hb.cell (p := ⟨w.heap.size, 1, none⟩) T1.sq.lt).trans c1, (hb.cell (p := ⟨w.heap.size, 2, none⟩) T1.sq.lt).trans c2, (hb.cell (p := ⟨w.heap.size, 3, none⟩) T1.sq.lt).trans c3, (hb.cell (p := ⟨w.heap.size, 4, none⟩) T1.sq.lt).trans c4, (hb.cell (p := ⟨w.heap.size, 5, none⟩) T1.sq.lt).trans c5, (hb.cell (p := ⟨w2.heap.size, 0, none⟩) hltW).trans f0, (hb.cell (p := ⟨w2.heap.size, 4, none⟩) hltW).trans f4⟩
 have HTab : Hid (∀ W, Below W1.heap.size W1 W → Tab W) := Lib.hid fun W hb => ht.below (T1.be.trans (hb.mono hwW))
 have HRd : Hid (∀ W, Below W1.heap.size W1 W → RdP W A s.params) := Lib.hid fun W hb => hr.below (T1.be.trans (hb.mono hwW))
 have HJ2 := Lib.hid (show Lib.join [[27], f.letter, privL s.priv, parL s.params, s.inter, privL s.final, s.data, f.en] [] = T by rw [← HJ.out]; unfold pcsL; rw [HF.out])
 clear hX c0 c1 c2 c3 c4 c5 f0 f1 f2 f3 f4
 go_region_held (fun w' => Below W1.heap.size W1 w' ∧ w'.cell? ⟨w.heap.size, 0, none⟩ = some (.int .i64 s.kind) ∧ w'.cell? ⟨w.heap.size, 1, none⟩ = some (.int .u8 (s.priv.toNat : Int)) ∧ w'.cell? ⟨w.heap.size, 2, none⟩ = some (.slice A s.params.length c) ∧ w'.cell? ⟨w.heap.size, 3, none⟩ = some (.string ⟨s.inter.toArray⟩) ∧ w'.cell? ⟨w.heap.size, 4, none⟩ = some (.int .u8 (s.final.toNat : Int)) ∧ w'.cell? ⟨w.heap.size, 5, none⟩ = some (.string ⟨s.data.toArray⟩) ∧ w'.cell? ⟨w2.heap.size, 0, none⟩ = some (.string ⟨f.letter.toArray⟩) ∧ w'.cell? ⟨w2.heap.size, 4, none⟩ = some (.string ⟨f.en.toArray⟩))
  (first | exact HS.out _ (Below.refl _ _).drew | exact HS.out _ ((Below.refl _ _).drew.trans hb3) | exact HS.out _ (((Below.refl _ _).drew.trans hb3).alloc hb3.size _) | exact HS.out _ ((((Below.refl _ _).drew.trans hb3).alloc hb3.size _).trans (hb4.mono (Nat.le_trans (show W1.heap.size ≤ w3.heap.size from hb3.size) (by simp)))) | exact HS.out _ (((((Below.refl _ _).drew.trans hb3).alloc hb3.size _).trans (hb4.mono (Nat.le_trans (show W1.heap.size ≤ w3.heap.size from hb3.size) (by simp)))).trans ((HX.out _).2.mono (Nat.le_trans (show W1.heap.size ≤ w3.heap.size from hb3.size) (Nat.le_trans (by simp) hb4.size)))))
  (first
    | (go_at_call 63; refine (char_any s.priv _ s1).mono ?_; rintro e wc ⟨rfl, rfl⟩)
    | (go_at_call 63; refine (char_any s.final _ s2).mono ?_; rintro e wc ⟨rfl, rfl⟩)
    | (go_at_call 64; refine (ptext_any A c s.params _ HPO.out (HTab.out _ (Below.refl _ _).drew) (HRd.out _ (Below.refl _ _).drew)).mono ?_; rintro e w3 ⟨rfl, hb3⟩)
    | (go_at_call 62; refine (join_any _ 8 8 [[27], f.letter, privL s.priv, parL s.params, s.inter, privL s.final, s.data, f.en] [] T _ rfl HJ2.out (by omega) (Nat.le_refl _) (by omega) (Rd.block (heap_alloc_new _ _) rfl)).mono ?_; rintro e w4 ⟨rfl, hb4⟩))
 have hbX : Below W1.heap.size W1 (X w4) := ((((Below.refl _ _).drew.trans hb3).alloc hb3.size _).trans (hb4.mono (Nat.le_trans (show W1.heap.size ≤ w3.heap.size from hb3.size) (by simp)))).trans ((HX.out _).2.mono (Nat.le_trans (show W1.heap.size ≤ w3.heap.size from hb3.size) (Nat.le_trans (by simp) hb4.size)))
 have hrX := (HX.out w4).1
 have hcX := HC.out w4
 clear hV HX HS HTab HRd hb3 hb4
 generalize X w4 = W5 at *
 go_wp2_with fail
 go_ret2
 rw [HTT.out]
 exact ⟨⟨_, _, rfl, hcX, hrX⟩, T1.be.trans (hbX.mono hwW)⟩
end Go.Proofs.YtdfojkbgdoiglaaDoor
namespace Go.Proofs.YtdfojkbgdoiglaaDoor
open Go.RowKit
theorem Rd.take {w : World} {A : Option Addr} {l : List UInt8} (h : Rd w A (bs l)) (n : Nat) : Rd w A (bs (l.take n)) := fun hp => by
 rw [bs_length, List.length_take] at hp
 obtain ⟨b, o, rfl, hb, hc⟩ := h (by rw [bs_length]; omega)
 refine ⟨b, o, rfl, hb, fun k u hu => hc k u ?_⟩
 simp only [bs, List.map_take] at hu ⊢
 rw [List.getElem?_take] at hu
 split at hu
 ·exact hu
 ·cases hu
theorem rPut_at (r : Int) (m : List UInt8) (n : Nat) (h : putL r = m) (hn : m.length = n) (w : World) : Calls Tryd.prog 56 #[.int .i64 r] w fun e w' => ∃ A c, e = .returned (.slice A n c) ∧ Rd w' A (bs m) ∧ Below w.heap.size w w' := by
 subst h hn
 exact rPut_any r w
theorem gs_hit' {l : List UInt8} {n : Nat} {g : Int} {U : List UInt8} (hn : 1 ≤ n) (hg : gs l n = g) (hU : putL g = U) (hl : U.length = n) (h : l.take n = U) : takeL l = (g, n) := by
 subst hg hU
 exact gs_hit hn hl h.symm
theorem gs_miss {l : List UInt8} {n : Nat} {g : Int} {U T : List UInt8} (hn : 1 ≤ n) (hg : gs l n = g) (hU : putL g = U) (_hl : U.length = n) (hT : l.take n = T) (h : U ≠ T) (hh : (takeL l).2 = 0 ∨ n ≤ (takeL l).2) : (takeL l).2 = 0 ∨ n + 1 ≤ (takeL l).2 := by
 subst hg hU hT
 rcases hh with hz | hz
 ·exact .inl hz
 ·by_cases e : (takeL l).2 = n
  ·exact absurd (gs_told hn e).2.2 h
  ·right; omega
theorem gs_long {l : List UInt8} {n : Nat} {g : Int} (hn : 1 ≤ n) (hg : gs l n = g) (hl : ¬ (putL g).length = n) (hh : (takeL l).2 = 0 ∨ n ≤ (takeL l).2) : (takeL l).2 = 0 ∨ n + 1 ≤ (takeL l).2 := by
 subst hg
 rcases hh with hz | hz
 ·exact .inl hz
 ·by_cases e : (takeL l).2 = n
  ·exact absurd (gs_told hn e).2.1 hl
  ·right; omega
theorem gs_end1 {l : List UInt8} {n : Nat} (_hn : 1 ≤ n) (h : l.length < n) (hh : (takeL l).2 = 0 ∨ n ≤ (takeL l).2) : takeL l = (0, 0) := by
 have := (take_snd_le l).1
 exact take_zero (by omega)
theorem gs_end2 {l : List UInt8} {n : Nat} (h : 4 < n) (hh : (takeL l).2 = 0 ∨ n ≤ (takeL l).2) : takeL l = (0, 0) := by
 have := (take_snd_le l).2
 exact take_zero (by omega)
theorem ne_of_beq_bytes {a b : List UInt8} (h : (a == b) = false) : a ≠ b := by
 intro e
 rw [e, beq_self_eq_true] at h
 cases h
set_option maxRecDepth 100000 in
set_option maxHeartbeats 800000 in
theorem rtake_any (A : Option Addr) (c : Nat) (l : List UInt8) (w : World) (hl : l.length ≤ 4294967296) (hlc : l.length ≤ c) (hr : Rd w A (bs l)) :
 Calls Tryd.prog 45 #[.slice A l.length c] w fun e w' => e = Tk l ∧ Below w.heap.size w w' := by
 cases l with
 | nil =>
   go_enter Tryd.func45, Tryd.ntmps45
   go_wp2
   refine wp_loop_rounds 1 ?_
   rw [rounds_succ]
   go_wp2
   go_ret2
   exact ⟨tk_zero rfl, Below.refl _ _⟩
 | cons a0 l0 =>
   obtain ⟨l, hll⟩ : ∃ l, l = a0 :: l0 := ⟨_, rfl⟩
   rw [← hll] at hl hlc hr ⊢
   have hpos : 0 < l.length := by rw [hll]; simp
   clear hll a0 l0
   obtain ⟨b, o, rfl, hb, hcc⟩ := hr.at_ hpos
   clear hcc
   go_enter Tryd.func45, Tryd.ntmps45
   go_wp2
   go_loopw [4] (fun i wr => ∃ n : Nat, 1 ≤ n ∧ n ≤ 5 ∧ i = .int .i64 n ∧ ((takeL l).2 = 0 ∨ n ≤ (takeL l).2) ∧ Below w.heap.size w wr) (fun i _ => 5 - (intOf i).toNat)
   case atStart => exact ⟨1, Nat.le_refl _, by omega, rfl, by omega, Below.refl _ _⟩
   case round =>
    obtain ⟨n, hn1, hn5, rfl, hT, hbw⟩ := hrel
    have HT := Lib.hid hT
    clear hT
    by_cases hn4 : n ≤ 4
    ·by_cases hnl : n ≤ l.length
     ·have hrw := hr.below hbw
      obtain ⟨gd0, gd1⟩ := gs_bd l n
      obtain ⟨g, hg⟩ : ∃ g, gs l n = g := ⟨_, rfl⟩
      have HE : Hid (gs l n = g) := Lib.hid hg
      rw [hg] at gd0 gd1
      by_cases hlen : (putL g).length = n
      ·obtain ⟨T, hT⟩ : ∃ T, l.take n = T := ⟨_, rfl⟩
       obtain ⟨U, hU⟩ : ∃ U, putL g = U := ⟨_, rfl⟩
       rw [hU] at hlen
       have HP := Lib.hid hU
       have HU := Lib.hid hlen
       have HT2 := Lib.hid hT
       have HL := Lib.hid (show T.length = n by rw [← hT, List.length_take]; omega)
       have hrT : Rd wr (some ⟨b, o, none⟩) (bs T) := by rw [← hT]; exact hrw.take n
       have HCV := Lib.hid (show ∀ (W : World) (A' : Option Addr) (c' : Nat), Rd W A' (bs T) → (convert 26 9 (.slice A' n c')).run Tryd.prog W = .ok (.string ⟨T.toArray⟩) W from fun W A' c' h => conv_str Tryd.underlying26 Tryd.underlying5 HL.out h _ Tryd.underlying9)
       have HCW := Lib.hid (show ∀ (W : World) (A' : Option Addr) (c' : Nat), Rd W A' (bs U) → (convert 26 9 (.slice A' n c')).run Tryd.prog W = .ok (.string ⟨U.toArray⟩) W from fun W A' c' h => conv_str Tryd.underlying26 Tryd.underlying5 HU.out h _ Tryd.underlying9)
       clear hlen hT hU hg
       go_wp2_with fail
       refine (guess_any _ c l n _ hl hn1 hn4 hnl hrw).mono ?_
       rw [HE.out]
       rintro e w2 ⟨rfl, hb2⟩
       have hr2 := hrT.below hb2
       have hb2 : Below w.heap.size w w2 := hbw.trans (hb2.mono hbw.size)
       clear hrT hrw
       have n0 : (0 : Int) ≤ (n : Int) := by omega
       have n1 : (n : Int) ≤ (c : Int) := by omega
       go_wp2_with fail
       have hcv := HCV.out
       have hcw := HCW.out
       go_region_held (fun w' => Rd w' (some ⟨b, o, none⟩) (bs T) ∧ Below w.heap.size w w') (first | exact ⟨hr2, hb2.drew⟩ | assumption | exact ⟨Rd.below (And.left (by assumption)) hb3, Below.trans (And.right (by assumption)) (hb3.mono (Below.size (And.right (by assumption))))⟩) (first | (go_at_call 56; refine (rPut_at _ U n HP.out HU.out _).mono ?_; rintro e w3 ⟨A3, c3, rfl, hr3, hb3⟩))
       all_goals
        go_wp2
       ·have hUT : U = T := eq_of_beq (by assumption)
        go_ret2
        refine ⟨tk_is (n := n) (gs_hit' hn1 HE.out HP.out HU.out (HT2.out.trans hUT.symm)) rfl, And.right (by assumption)⟩
       ·have hUT : U ≠ T := ne_of_beq_bytes (by assumption)
        go_roundw
        case rel => exact ⟨n + 1, by omega, by omega, by go_num, gs_miss hn1 HE.out HP.out HU.out HT2.out hUT HT.out, And.right (by assumption)⟩
        case measure => simp [intOf]; omega
      ·have HP := Lib.hid (show putL g = putL g from rfl)
       have hne : (((putL g).length : Int) == (n : Int)) = false := beq_false_of_ne (by omega)
       clear hg
       go_wp2_with fail
       refine (guess_any _ c l n _ hl hn1 hn4 hnl hrw).mono ?_
       rw [HE.out]
       rintro e w2 ⟨rfl, hb2⟩
       have hb2 : Below w.heap.size w w2 := hbw.trans (hb2.mono hbw.size)
       have n0 : (0 : Int) ≤ (n : Int) := by omega
       have n1 : (n : Int) ≤ (c : Int) := by omega
       go_wp2_with fail
       have hb2 := hb2.drew
       refine wp_region_any (by kernel_rfl) ?_
       change wpAny _ _ _ _ _ _ _ (World.drew _)
       refine wpAny_take (i := 0) (oi := ⟨some 19, _, _, _, _, _⟩) (v := ?_) rfl (by kernel_rfl) (by kernel_rfl) (by kernel_rfl) (fun _ _ _ h => h) (Or.inl ⟨rfl, ?_⟩) ?_
       rotate_left 1
       ·intro W
        go_simp <;> with_reducible rfl
       try go_frame
       refine wpAny_take (i := 3) (oi := ⟨some 22, _, _, _, _, _⟩) (v := ?_) rfl (by kernel_rfl) (by kernel_rfl) (by kernel_rfl) (fun _ _ _ h => h) (Or.inl ⟨rfl, ?_⟩) ?_
       rotate_left 1
       ·intro W
        go_simp <;> with_reducible rfl
       try go_frame
       refine wpAny_ready (rs := [1]) (by kernel_rfl) (by simp) ?_
       refine AllReady.cons (o := ⟨some 20, _, _, _, _, _⟩) rfl (fun K hK => ?_) AllReady.nil
       go_simp
       go_at_call 56
       refine (rPut_any g _).mono ?_
       rintro e w3 ⟨A3, c3, rfl, hr3, hb3⟩
       have hb2 := hb2.trans (hb3.mono hb2.size)
       clear hb3 hr3
       refine hK _ _ ?_
       clear hK K
       refine wpAny_take (i := 2) (oi := ⟨some 21, _, _, _, _, _⟩) (v := ?_) rfl (by kernel_rfl) (by kernel_rfl) (by kernel_rfl) (fun _ _ _ h => h) (Or.inl ⟨rfl, ?_⟩) ?_
       rotate_left 1
       ·intro W
        go_simp <;> with_reducible rfl
       try go_frame
       refine wpAny_take (i := 4) (oi := ⟨some 23, _, _, _, _, _⟩) (v := ?_) rfl (by kernel_rfl) (by kernel_rfl) (by kernel_rfl) (fun _ _ _ h => h) (Or.inl ⟨rfl, ?_⟩) ?_
       rotate_left 1
       ·intro W
        go_simp <;> with_reducible rfl
       try go_frame
       refine wpAny_take (i := 5) (oi := ⟨some 24, _, _, _, _, _⟩) (v := ?_) rfl (by kernel_rfl) (by kernel_rfl) (by kernel_rfl) (fun _ _ _ h => h) (Or.inl ⟨rfl, ?_⟩) ?_
       rotate_left 1
       ·intro W
        go_simp <;> with_reducible rfl
       try go_frame
       refine wpAny_take (i := 6) (oi := ⟨some 25, _, _, _, _, _⟩) (v := undef) rfl (by kernel_rfl) (by kernel_rfl) (by kernel_rfl) (fun _ _ _ h => h) (Or.inr ⟨rfl, rfl⟩) ?_
       try go_frame
       refine wpAny_take (i := 7) (oi := ⟨some 26, _, _, _, _, _⟩) (v := undef) rfl (by kernel_rfl) (by kernel_rfl) (by kernel_rfl) (fun _ _ _ h => h) (Or.inr ⟨rfl, rfl⟩) ?_
       try go_frame
       refine wpAny_take (i := 8) (oi := ⟨some 27, _, _, _, _, _⟩) (v := undef) rfl (by kernel_rfl) (by kernel_rfl) (by kernel_rfl) (fun _ _ _ h => h) (Or.inr ⟨rfl, rfl⟩) ?_
       try go_frame
       refine wpAny_take (i := 9) (oi := ⟨some 28, _, _, _, _, _⟩) (v := undef) rfl (by kernel_rfl) (by kernel_rfl) (by kernel_rfl) (fun _ _ _ h => h) (Or.inr ⟨rfl, rfl⟩) ?_
       try go_frame
       refine wpAny_take (i := 10) (oi := ⟨some 29, _, _, _, _, _⟩) (v := undef) rfl (by kernel_rfl) (by kernel_rfl) (by kernel_rfl) (fun _ _ _ h => h) (Or.inr ⟨rfl, rfl⟩) ?_
       try go_frame
       refine wpAny_take (i := 11) (oi := ⟨some 30, _, _, _, _, _⟩) (v := undef) rfl (by kernel_rfl) (by kernel_rfl) (by kernel_rfl) (fun _ _ _ h => h) (Or.inr ⟨rfl, rfl⟩) ?_
       try go_frame
       refine wpAny_take (i := 12) (oi := ⟨some 31, _, _, _, _, _⟩) (v := undef) rfl (by kernel_rfl) (by kernel_rfl) (by kernel_rfl) (fun _ _ _ h => h) (Or.inr ⟨rfl, rfl⟩) ?_
       try go_frame
       refine wpAny_take (i := 13) (oi := ⟨some 32, _, _, _, _, _⟩) (v := undef) rfl (by kernel_rfl) (by kernel_rfl) (by kernel_rfl) (fun _ _ _ h => h) (Or.inr ⟨rfl, rfl⟩) ?_
       try go_frame
       refine wpAny_take (i := 14) (oi := ⟨some 33, _, _, _, _, _⟩) (v := ?_) rfl (by kernel_rfl) (by kernel_rfl) (by kernel_rfl) (fun _ _ _ h => h) (Or.inl ⟨rfl, ?_⟩) ?_
       rotate_left 1
       ·intro W
        go_simp <;> with_reducible rfl
       try go_frame
       refine wpAny_done (by kernel_rfl) ?_ _
       all_goals
        go_wp2
        go_roundw
        case rel => exact ⟨n + 1, by omega, by omega, by go_num, gs_long hn1 HE.out hlen HT.out, hb2⟩
        case measure => simp [intOf]; omega
     ·have E := Lib.hid (tk_zero (gs_end1 hn1 (Nat.lt_of_not_le hnl) HT.out))
      go_wp2
      go_ret2
      exact ⟨E.out, hbw⟩
    ·have E := Lib.hid (tk_zero (gs_end2 (n := n) (by omega) HT.out))
     go_wp2
     go_ret2
     exact ⟨E.out, hbw⟩
end Go.Proofs.YtdfojkbgdoiglaaDoor
