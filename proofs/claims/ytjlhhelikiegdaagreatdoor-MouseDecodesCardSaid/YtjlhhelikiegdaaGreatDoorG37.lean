/-
  Layer 3, walked: the program's Take.
-/
import Derived.Test.YtjlhhelikiegdaaGreatDoorG06
import Derived.Test.YtjlhhelikiegdaaGreatDoorG14
import Derived.Test.YtjlhhelikiegdaaGreatDoorG36
namespace Go.Proofs.YtjlhhelikiegdaaGreatDoor
open Go.RowKit
theorem take_gen (k : Int) (hk : k = 1 ∨ k = 2 ∨ k = 3 ∨ k = 4 ∨ k = 5) (g : Nat) (A : Option Addr) (c : Nat) (l r : List UInt8) (w : World) (hlc : l.length ≤ c) (hl : l.length ≤ 4294967296) (ht : TabIn g w) (h : Rdr w g A c l (.int .i64 k) (.int .u8 0) (.slice none 0 0) (.string ⟨#[]⟩) (.int .u8 0) (.string ⟨#[]⟩) r) :
 Calls Tryz.prog 49 #[.pointer (some ⟨g, 0, none⟩), fmV (formF k)] w (TakePost k g A c l r w) := by
 rcases hk with rfl | rfl | rfl | rfl | rfl
 ·exact take1_any g A c l r w hlc hl ht h
 ·exact take2_any g A c l r w hlc hl ht h
 ·exact take3_any g A c l r w hlc hl ht h
 ·exact take4_any g A c l r w hlc hl ht h
 ·exact take5_any g A c l r w hlc hl ht h
theorem read_bounds (k : Int) (r : List UInt8) : (readF k r).1.kind = k ∧ parOk (readF k r).1.params = true ∧ (readF k r).1.inter.length ≤ 2 := by
 refine ⟨rfl, ?_, ?_⟩
 ·unfold readF rd2
  dsimp only
  split
  ·exact (paramsF_app _).2
  ·rfl
 ·unfold readF rd3
  dsimp only
  split
  ·exact runF_len _ _ _ _
  ·simp
theorem kind_step {l : List UInt8} {k : Int} (hk : k = 1 ∨ k = 2 ∨ k = 3 ∨ k = 4 ∨ k = 5) (h : ∀ j : Int, 1 ≤ j → j < k → skipB (headF j) l = false) (hs : skipB (headF k) l = true) : kindF l = k := by
 have e1 : headF 1 = [27, 91] := rfl
 have e2 : headF 2 = [27, 79] := rfl
 have e3 : headF 3 = [27, 80] := rfl
 have e4 : headF 4 = [27, 93] := rfl
 have e5 : headF 5 = [27] := rfl
 unfold kindF
 rcases hk with rfl | rfl | rfl | rfl | rfl
 ·rw [e1] at hs; rw [if_pos hs]
 ·have h1 := h 1 (by omega) (by omega)
  rw [e1] at h1; rw [e2] at hs
  rw [h1, hs]; rfl
 ·have h1 := h 1 (by omega) (by omega)
  have h2 := h 2 (by omega) (by omega)
  rw [e1] at h1; rw [e2] at h2; rw [e3] at hs
  rw [h1, h2, hs]; rfl
 ·have h1 := h 1 (by omega) (by omega)
  have h2 := h 2 (by omega) (by omega)
  have h3 := h 3 (by omega) (by omega)
  rw [e1] at h1; rw [e2] at h2; rw [e3] at h3; rw [e4] at hs
  rw [h1, h2, h3, hs]; rfl
 ·have h1 := h 1 (by omega) (by omega)
  have h2 := h 2 (by omega) (by omega)
  have h3 := h 3 (by omega) (by omega)
  have h4 := h 4 (by omega) (by omega)
  rw [e1] at h1; rw [e2] at h2; rw [e3] at h3; rw [e4] at h4; rw [e5] at hs
  rw [h1, h2, h3, h4, hs]; rfl
theorem kind_none {l : List UInt8} (h : ∀ j : Int, 1 ≤ j → j < 6 → skipB (headF j) l = false) : kindF l = 0 := by
 have h1 : skipB [27, 91] l = false := h 1 (by omega) (by omega)
 have h2 : skipB [27, 79] l = false := h 2 (by omega) (by omega)
 have h3 : skipB [27, 80] l = false := h 3 (by omega) (by omega)
 have h4 : skipB [27, 93] l = false := h 4 (by omega) (by omega)
 have h5 : skipB [27] l = false := h 5 (by omega) (by omega)
 unfold kindF
 rw [h1, h2, h3, h4, h5]; rfl
def TkP (l : List UInt8) (w : World) (e : Ending) (w' : World) : Prop :=
 (∀ s t, progF l = some (s, t) → ∃ A c, e = .returned (.tuple #[sqV s A c, .int .i64 ((l.length - t.length : Nat) : Int), .int .i64 0]) ∧ RdP w' A s.params) ∧
 (progF l = none → e = .returned (.tuple #[zeroS, .int .i64 0, .int .i64 2])) ∧ Below w.heap.size w w'
theorem tk_none {l : List UInt8} {w w' : World} (h : progF l = none) (hb : Below w.heap.size w w') : TkP l w (.returned (.tuple #[zeroS, .int .i64 0, .int .i64 2])) w' :=
 ⟨fun s t e => (by rw [h] at e; cases e), fun _ => rfl, hb⟩
theorem tk_some {l t : List UInt8} {s : Sq} {w w' : World} {A : Option Addr} {np c n : Nat} (h : progF l = some (s, t)) (hp : s.params.length = np) (hn : l.length - t.length = n) (hr : RdP w' A s.params) (hb : Below w.heap.size w w') :
 TkP l w (.returned (.tuple #[.agg #[.int .i64 s.kind, .int .u8 (s.priv.toNat : Int), .slice A np c, .string ⟨s.inter.toArray⟩, .int .u8 (s.final.toNat : Int), .string ⟨s.data.toArray⟩], .int .i64 (n : Int), .int .i64 0])) w' := by
 subst hp
 subst hn
 refine ⟨fun s' t' e => ?_, fun e => (by rw [h] at e; cases e), hb⟩
 rw [h] at e
 simp only [Option.some.injEq, Prod.mk.injEq] at e
 obtain ⟨rfl, rfl⟩ := e
 exact ⟨A, c, rfl, hr⟩
theorem letter_len (k : Int) : (formF k).letter.length ≤ 1 ∧ (formF k).en.length ≤ 2 := by
 unfold formF
 (repeat' split) <;> simp
set_option maxRecDepth 100000 in
set_option maxHeartbeats 8000000 in
theorem ptake_any (A : Option Addr) (c : Nat) (l : List UInt8) (w : World) (hlc : l.length ≤ c) (hl : l.length ≤ 4294967296) (ht : Tab w) (hr : Rd w A (bs l)) :
 Calls Tryz.prog 23 #[.slice A l.length c] w (TkP l w) := by
 go_enter Tryz.func23, Tryz.ntmps23
 go_wp2_with fail
 have hb0 : Below w.heap.size w ((w.alloc (.cells #[.int .i64 0, .int .u8 0, .slice none 0 0, .string ⟨#[]⟩, .int .u8 0, .string ⟨#[]⟩] 44)).alloc (.cells #[.slice A l.length c, .int .i64 0, .int .i64 0, .int .u8 0, .slice none 0 0, .string ⟨#[]⟩, .int .u8 0, .string ⟨#[]⟩] 64)) := ((Below.refl _ w).alloc (Nat.le_refl _) _).alloc (by simp) _
 have hq0 : Blk ((w.alloc (.cells #[.int .i64 0, .int .u8 0, .slice none 0 0, .string ⟨#[]⟩, .int .u8 0, .string ⟨#[]⟩] 44)).alloc (.cells #[.slice A l.length c, .int .i64 0, .int .i64 0, .int .u8 0, .slice none 0 0, .string ⟨#[]⟩, .int .u8 0, .string ⟨#[]⟩] 64)) w.heap.size 44 #[.int .i64 0, .int .u8 0, .slice none 0 0, .string ⟨#[]⟩, .int .u8 0, .string ⟨#[]⟩] := (Blk.new w _ _).alloc _
 have hk0 := Blk.new (w.alloc (.cells #[.int .i64 0, .int .u8 0, .slice none 0 0, .string ⟨#[]⟩, .int .u8 0, .string ⟨#[]⟩] 44)) 64 #[.slice A l.length c, .int .i64 0, .int .i64 0, .int .u8 0, .slice none 0 0, .string ⟨#[]⟩, .int .u8 0, .string ⟨#[]⟩]
 rw [World.size_alloc] at hk0
 have hb1 : Below w.heap.size w (w.alloc (.cells #[.int .i64 0, .int .u8 0, .slice none 0 0, .string ⟨#[]⟩, .int .u8 0, .string ⟨#[]⟩] 44)) := (Below.refl _ w).alloc (Nat.le_refl _) _
 have ht0 : TabIn (w.heap.size + 1) ((w.alloc (.cells #[.int .i64 0, .int .u8 0, .slice none 0 0, .string ⟨#[]⟩, .int .u8 0, .string ⟨#[]⟩] 44)).alloc (.cells #[.slice A l.length c, .int .i64 0, .int .i64 0, .int .u8 0, .slice none 0 0, .string ⟨#[]⟩, .int .u8 0, .string ⟨#[]⟩] 64)) := by
  have h1 : TabIn (w.alloc (.cells #[.int .i64 0, .int .u8 0, .slice none 0 0, .string ⟨#[]⟩, .int .u8 0, .string ⟨#[]⟩] 44)).heap.size (w.alloc (.cells #[.int .i64 0, .int .u8 0, .slice none 0 0, .string ⟨#[]⟩, .int .u8 0, .string ⟨#[]⟩] 44)) := Lib.tabBelow_of_tabIs (ht.below hb1)
  rw [World.size_alloc] at h1
  exact h1.below ((Below.refl _ _).alloc (by simp) _)
 have hrd0 : RdIn (w.heap.size + 1) ((w.alloc (.cells #[.int .i64 0, .int .u8 0, .slice none 0 0, .string ⟨#[]⟩, .int .u8 0, .string ⟨#[]⟩] 44)).alloc (.cells #[.slice A l.length c, .int .i64 0, .int .i64 0, .int .u8 0, .slice none 0 0, .string ⟨#[]⟩, .int .u8 0, .string ⟨#[]⟩] 64)) A (bs l) := fun hp => by
  obtain ⟨b, o, rfl, hb, hc⟩ := hr hp
  exact ⟨b, o, rfl, by omega, fun k u hu => (hb0.cell (p := ⟨b, o + k, none⟩) hb).trans (hc k u hu)⟩
 have hR0 : Rdr ((w.alloc (.cells #[.int .i64 0, .int .u8 0, .slice none 0 0, .string ⟨#[]⟩, .int .u8 0, .string ⟨#[]⟩] 44)).alloc (.cells #[.slice A l.length c, .int .i64 0, .int .i64 0, .int .u8 0, .slice none 0 0, .string ⟨#[]⟩, .int .u8 0, .string ⟨#[]⟩] 64)) (w.heap.size + 1) A c l (.int .i64 0) (.int .u8 0) (.slice none 0 0) (.string ⟨#[]⟩) (.int .u8 0) (.string ⟨#[]⟩) l := ⟨0, Nat.zero_le _, rfl, hrd0, hk0⟩
 clear hk0 hrd0 hb1 hr ht
 have hgw : w.heap.size < w.heap.size + 1 := Nat.lt_succ_self _
 generalize w.heap.size + 1 = g at *
 generalize (w.alloc (.cells #[.int .i64 0, .int .u8 0, .slice none 0 0, .string ⟨#[]⟩, .int .u8 0, .string ⟨#[]⟩] 44)).alloc (.cells #[.slice A l.length c, .int .i64 0, .int .i64 0, .int .u8 0, .slice none 0 0, .string ⟨#[]⟩, .int .u8 0, .string ⟨#[]⟩] 64) = W0 at *
 have hg0 := World.grownBy.refl W0 (some g)
 have hb0lt : g < W0.heap.size := hR0.lt
 go_loopw [6] (fun i wr => ∃ k : Nat, 1 ≤ k ∧ k ≤ 6 ∧ i = .int .i64 k ∧ Rdr wr g A c l (.int .i64 0) (.int .u8 0) (.slice none 0 0) (.string ⟨#[]⟩) (.int .u8 0) (.string ⟨#[]⟩) l ∧ TabIn g wr ∧ W0.grownBy wr (some g) ∧ Blk wr w.heap.size 44 #[.int .i64 0, .int .u8 0, .slice none 0 0, .string ⟨#[]⟩, .int .u8 0, .string ⟨#[]⟩] ∧ Hid (∀ j : Int, 1 ≤ j → j < (k : Int) → skipB (headF j) l = false)) (fun i _ => 6 - (intOf i).toNat)
 case atStart => exact ⟨1, by omega, by omega, rfl, hR0, ht0, hg0, hq0, Lib.hid fun j h1 h2 => absurd h2 (by omega)⟩
 case round =>
  obtain ⟨k, hk1, hk6, rfl, hR, hT, hG, hq, HK⟩ := hrel
  clear hR0 ht0 hg0 hq0
  by_cases h6 : k = 6
  ·subst h6
   have HN := Lib.hid (show progF l = none by unfold progF; rw [kind_none HK.out]; rfl)
   obtain ⟨c0, c1, c2, c3, c4, c5⟩ := Blk.cells6 hq
   have z0 := hq.frozen 0
   have z1 := hq.frozen 1
   have z2 := hq.frozen 2
   have z3 := hq.frozen 3
   have z4 := hq.frozen 4
   have z5 := hq.frozen 5
   have hbw : Below w.heap.size w wr := hb0.trans (below_grown hG (Nat.le_of_lt hgw) hb0lt)
   go_wp2_with fail
   refine bodyPost_ret (v := .tuple #[zeroS, .int .i64 0, .int .i64 2]) (by simp [results, Tryz.results23, go_sem, zeroS, c0, c1, c2, c3, c4, c5]) rfl (tk_none HN.out ?_)
   exact below_set6 hbw (Nat.le_refl _) _ _ _ _ _ _
  ·have hkk : (k : Int) = 1 ∨ (k : Int) = 2 ∨ (k : Int) = 3 ∨ (k : Int) = 4 ∨ (k : Int) = 5 := by omega
   have HKK := Lib.hid hkk
   have k5 : (k : Int) ≤ 5 := by omega
   have hlf := (letter_len (k : Int)).1
   have hle := (letter_len (k : Int)).2
   have HKB := Lib.hid (show kindB (k : Int) = true from decide_eq_true hkk)
   clear hkk h6
   go_wp2_with fail
   refine (formOf_any (k : Int) _).mono ?_
   rw [HKB.out]
   rintro e w1 ⟨rfl, hbf⟩
   have hR1 := hR.below hbf hR.lt
   have hT1 := hT.below (hbf.mono (Nat.le_of_lt hR.lt))
   have hG1 := grown_trans hG (grown_below (some g) hbf)
   have hq1 := hq.below hbf hq.lt
   clear hR hT hG hq hbf
   obtain ⟨f, hf⟩ : ∃ f, formF (k : Int) = f := ⟨_, rfl⟩
   have HF := Lib.hid hf
   rw [hf] at hlf hle ⊢
   clear hf
   have hFM := Blk.new w1 66 (frmC f)
   have hR2 := hR1.below ((Below.refl _ w1).alloc (Nat.le_refl _) (.cells (frmC f) 66)) hR1.lt
   have hT2 := hT1.below ((Below.refl g w1).alloc (Nat.le_of_lt hR1.lt) (.cells (frmC f) 66))
   have hG2 : W0.grownBy (w1.alloc (.cells (frmC f) 66)) (some g) := grown_trans hG1 (World.grownBy_alloc w1 _ _)
   have hq2 := hq1.alloc (.cells (frmC f) 66)
   have hgf : g < w1.heap.size := hR1.lt
   have hqf : w.heap.size < w1.heap.size := hq1.lt
   clear hR1 hT1 hG1 hq1
   unfold fmV
   go_upto_region 6 with (fail)
   unfold frmC at hR2 hT2 hG2 hq2 hFM
   generalize w1.alloc (.cells #[.string ⟨f.letter.toArray⟩, .bool f.body, .bool f.inter, .int .u8 (f.first.toNat : Int), .string ⟨f.en.toArray⟩] 66) = W2 at *
   obtain ⟨f0, f1, f2, f3, f4⟩ := Blk.cells5 hFM
   have hcat : (⟨#[27]⟩ : ByteArray) ++ (⟨f.letter.toArray⟩ : ByteArray) = ⟨(headF (k : Int)).toArray⟩ := by
    rw [show headF (k : Int) = 27 :: f.letter by unfold headF; rw [HF.out]]
    exact str_cat [27] f.letter _ rfl
   cases hs : skipB (headF (k : Int)) l with
   | false =>
     have HS := Lib.hid hs
     clear hs
     go_wp2_with fail
     refine (skip_no g A c l (headF (k : Int)) l _ _ _ _ _ _ _ HS.out hlc hl (by rw [show headF (k : Int) = 27 :: f.letter by unfold headF; rw [HF.out]]; simp; omega) hR2).mono ?_
     rintro e w3 ⟨rfl, hR3, hg3⟩
     have hT3 := hT2.grown hg3 hR2.lt
     have hG3 := grown_trans hG2 hg3
     have hq3 := hq2.grown hg3 (fun e => by injection e; omega)
     clear hR2 hT2 hG2 hq2 hg3
     go_wp2_with fail
     go_roundw
     case rel =>
      refine ⟨k + 1, by omega, by omega, by go_num, hR3, hT3, hG3, hq3, Lib.hid fun j h1 h2 => ?_⟩
      by_cases e : j = (k : Int)
      ·rw [e]; exact HS.out
      ·exact HK.out j h1 (by omega)
     case measure => simp [intOf]; omega
   | true =>
     have HS := Lib.hid hs
     have HKF := Lib.hid (kind_step HKK.out HK.out hs)
     clear hs HK
     obtain ⟨r, hr⟩ : ∃ r, l.drop (headF (k : Int)).length = r := ⟨_, rfl⟩
     have HRR := Lib.hid hr
     have HPR := Lib.hid (show progF l = endF (k : Int) (readF (k : Int) r) by unfold progF; rw [HKF.out, if_neg (by omega), hr])
     clear hr
     go_wp2_with fail
     refine (skip_yes g A c l (headF (k : Int)) l _ _ _ _ _ _ _ HS.out hlc hl (by rw [show headF (k : Int) = 27 :: f.letter by unfold headF; rw [HF.out]]; simp; omega) hR2).mono ?_
     rw [HRR.out]
     rintro e w3 ⟨rfl, hR3, hg3⟩
     have hT3 := hT2.grown hg3 hR2.lt
     have hG3 := grown_trans hG2 hg3
     have hq3 := hq2.grown hg3 (fun e => by injection e; omega)
     have hF3 := hFM.grown hg3 (fun e => by injection e; omega)
     clear hR2 hT2 hG2 hq2 hg3 hFM f0 f1 f2 f3 f4
     have hs4 := grown_setCell g 2 (Value.int IntKind.i64 (k : Int)) w3
     have hR4 := hR3.set0 (.int .i64 (k : Int))
     have hT4 := hT3.grown hs4 hR3.lt
     have hG4 := grown_trans hG3 hs4
     have hq4 := hq3.grown hs4 (fun e => by injection e; omega)
     have hF4 := hF3.grown hs4 (fun e => by injection e; omega)
     obtain ⟨⟨c2, c3, c4, c5, c6, c7⟩, z2, z3, z4, z5, z6, z7⟩ := hR3.cells
     obtain ⟨f0, f1, f2, f3, f4⟩ := Blk.cells5 hF4
     clear hR3 hT3 hG3 hq3 hF3 hs4
     go_wp2_with fail
     clear c2 c3 c4 c5 c6 c7 z2 z3 z4 z5 z6 z7 f0 f1 f2 f3 f4 hF4
     generalize w3.setCell ⟨g, 2, none⟩ (Value.int IntKind.i64 (k : Int)) = W4 at *
     rw [← show fmV f = .agg #[.string ⟨f.letter.toArray⟩, .bool f.body, .bool f.inter, .int .u8 (f.first.toNat : Int), .string ⟨f.en.toArray⟩] from rfl, ← HF.out]
     refine (take_gen (k : Int) HKK.out g A c l r _ hlc hl hT4 hR4).mono ?_
     rintro e w5 ⟨⟨Ap, cp, hP5, hR5⟩, rfl, hg5⟩
     have hT5 := hT4.grown hg5 hR4.lt
     have hG5 := grown_trans hG4 hg5
     have hq5 := hq4.grown hg5 (fun e => by injection e; omega)
     clear hR4 hT4 hG4 hq4 hg5
     obtain ⟨b1, b2, b3⟩ := read_bounds (k : Int) r
     obtain ⟨s, hs⟩ : ∃ s, (readF (k : Int) r).1 = s := ⟨_, rfl⟩
     obtain ⟨t, htt⟩ : ∃ t, (readF (k : Int) r).2 = t := ⟨_, rfl⟩
     have HPE := Lib.hid (show progF l = endF (k : Int) (s, t) by rw [HPR.out, ← hs, ← htt])
     rw [hs, htt] at hR5
     rw [hs] at hP5 b1 b2 b3
     rw [htt, HF.out]
     rw [HF.out] at hR5
     clear HPR hs htt
     have HB1 := Lib.hid b1
     have HB2 := Lib.hid b2
     clear b1 b2
     cases hsk : skipB f.en t with
     | false =>
       have HN := Lib.hid (show progF l = none by rw [HPE.out]; unfold endF; rw [if_neg]; rw [HF.out, hsk]; simp)
       clear hsk
       have hbw : Below w.heap.size w w5 := hb0.trans (below_grown hG5 (Nat.le_of_lt hgw) hb0lt)
       obtain ⟨c0, c1, c2, c3, c4, c5⟩ := Blk.cells6 hq5
       have z0 := hq5.frozen 0
       have z1 := hq5.frozen 1
       have z2 := hq5.frozen 2
       have z3 := hq5.frozen 3
       have z4 := hq5.frozen 4
       have z5 := hq5.frozen 5
       go_wp2_with fail
       refine bodyPost_ret (v := .tuple #[zeroS, .int .i64 0, .int .i64 2]) (by simp [results, Tryz.results23, go_sem, zeroS, c0, c1, c2, c3, c4, c5]) rfl (tk_none HN.out ?_)
       exact below_set6 hbw (Nat.le_refl _) _ _ _ _ _ _
     | true =>
       rw [hsk, if_pos rfl] at hR5
       have HSK := Lib.hid hsk
       clear hsk
       rw [← HB1.out] at hR5
       obtain ⟨np, hnp⟩ : ∃ np, s.params.length = np := ⟨_, rfl⟩
       have HNP := Lib.hid hnp
       obtain ⟨l16, l8⟩ := parOk_lens HB2.out
       obtain ⟨⟨c2, c3, c4, c5, c6, c7⟩, z2, z3, z4, z5, z6, z7⟩ := hR5.cells
       obtain ⟨m, hm⟩ : ∃ m, mayS s = m := ⟨_, rfl⟩
       have HM := Lib.hid hm
       have hL8 : Hid (∀ p ∈ s.params, p.length ≤ 4294967296) := Lib.hid fun p hp => by have := (l8 p hp).1; omega
       clear hnp hm l8
       go_wp2_with fail
       clear c2 c3 c4 c5 c6 c7 z2 z3 z4 z5 z6 z7
       refine (pmay_any s Ap cp m _ HM.out (by omega) hL8.out (by omega) hP5.rdp).mono ?_
       rintro e w6 ⟨rfl, hb6⟩
       have hR6 := hR5.below hb6 hR5.lt
       have hG6 := grown_trans hG5 (grown_below (some g) hb6)
       have hq6 := hq5.below hb6 hq5.lt
       have hP6 := hP5.grown (grown_below (some g) hb6)
       clear hR5 hG5 hq5 hP5 hT5 hb6
       by_cases h0 : m = 0
       ·subst h0
        have HY := Lib.hid (show progF l = some (s, t.drop f.en.length) by rw [HPE.out]; unfold endF; rw [if_pos ⟨by rw [HF.out]; exact HSK.out, HM.out⟩, HF.out])
        have hbw : Below w.heap.size w w6 := hb0.trans (below_grown hG6 (Nat.le_of_lt hgw) hb0lt)
        obtain ⟨⟨c2, c3, c4, c5, c6, c7⟩, z2, z3, z4, z5, z6, z7⟩ := hR6.cells
        have hR7 := hR6
        obtain ⟨at_, hat, hdr, hrd6, hblk6⟩ := hR7
        have c1 : w6.cell? ⟨g, 1, none⟩ = some (.int .i64 (at_ : Int)) := hblk6.cell 1
        obtain ⟨d0, d1, d2, d3, d4, d5⟩ := Blk.cells6 hq6
        have y0 := hq6.frozen 0
        have y1 := hq6.frozen 1
        have y2 := hq6.frozen 2
        have y3 := hq6.frozen 3
        have y4 := hq6.frozen 4
        have y5 := hq6.frozen 5
        have HLN := Lib.hid (show l.length - (t.drop f.en.length).length = at_ by
         rw [← hdr, List.length_drop]; omega)
        have hLt : at_ = l.length - (t.drop f.en.length).length := HLN.out.symm
        have HLT := Lib.hid hLt
        clear hdr hat hrd6 hblk6 hLt
        go_wp2_with fail
        go_region
        go_wp2_with fail
        refine bodyPost_ret (v := .tuple #[.agg #[.int .i64 s.kind, .int .u8 (s.priv.toNat : Int), .slice Ap s.params.length cp, .string ⟨s.inter.toArray⟩, .int .u8 (s.final.toNat : Int), .string ⟨s.data.toArray⟩], .int .i64 (at_ : Int), .int .i64 0]) (by simp [results, Tryz.results23, go_sem, d0, d1, d2, d3, d4, d5]) rfl (tk_some HY.out rfl HLN.out ?_ ?_)
        ·have g1 := grown_set6 w6 w.heap.size (.int .i64 s.kind) (.int .u8 (s.priv.toNat : Int)) (.slice Ap s.params.length cp) (.string ⟨s.inter.toArray⟩) (.int .u8 (s.final.toNat : Int)) (.string ⟨s.data.toArray⟩)
         have h7 := (hP6.other hq6 (by decide) (by decide) g1).rdp
         exact rdp_drew h7
        ·have h8 := below_set6 hbw (Nat.le_refl _) (.int .i64 s.kind) (.int .u8 (s.priv.toNat : Int)) (.slice Ap s.params.length cp) (.string ⟨s.inter.toArray⟩) (.int .u8 (s.final.toNat : Int)) (.string ⟨s.data.toArray⟩)
         exact h8.drew
       ·have t1 : (m == 0) = false := beq_false_of_ne h0
        have t2 : (m != 0) = true := by simp [bne, t1]
        have HN := Lib.hid (show progF l = none by rw [HPE.out]; unfold endF; rw [if_neg]; exact fun h => h0 (HM.out.symm.trans h.2))
        clear h0
        have hbw : Below w.heap.size w w6 := hb0.trans (below_grown hG6 (Nat.le_of_lt hgw) hb0lt)
        obtain ⟨c0, c1, c2, c3, c4, c5⟩ := Blk.cells6 hq6
        have z0 := hq6.frozen 0
        have z1 := hq6.frozen 1
        have z2 := hq6.frozen 2
        have z3 := hq6.frozen 3
        have z4 := hq6.frozen 4
        have z5 := hq6.frozen 5
        go_wp2_with fail
        refine bodyPost_ret (v := .tuple #[zeroS, .int .i64 0, .int .i64 2]) (by simp [results, Tryz.results23, go_sem, zeroS, c0, c1, c2, c3, c4, c5]) rfl (tk_none HN.out ?_)
        exact below_set6 hbw (Nat.le_refl _) _ _ _ _ _ _
def TkYes (s : Sq) (m : Nat) (w : World) (e : Ending) (w' : World) : Prop := (∃ A c, e = .returned (.tuple #[sqV s A c, .int .i64 (m : Int), .int .i64 0]) ∧ RdP w' A s.params) ∧ Below w.heap.size w w'
theorem ptake_yes (A : Option Addr) (n c : Nat) (l : List UInt8) (s : Sq) (m : Nat) (w : World) (hs : takeS l = some (s, m)) (hn : l.length = n) (hlc : n ≤ c) (hl : n ≤ 4294967296) (ht : Tab w) (hr : Rd w A (bs l)) :
 Calls Tryz.prog 23 #[.slice A n c] w (TkYes s m w) := by
 subst hn
 obtain ⟨h1, h2⟩ := prog_some hs
 refine (ptake_any A c l w hlc hl ht hr).mono ?_
 rintro e w' ⟨hp, _, hb⟩
 obtain ⟨A', c', rfl, hr'⟩ := hp s _ h1
 refine ⟨⟨A', c', ?_, hr'⟩, hb⟩
 rw [List.length_drop, show l.length - (l.length - m) = m by omega]
theorem ptake_no (A : Option Addr) (n c : Nat) (l : List UInt8) (w : World) (hs : takeS l = none) (hn : l.length = n) (hlc : n ≤ c) (hl : n ≤ 4294967296) (ht : Tab w) (hr : Rd w A (bs l)) :
 Calls Tryz.prog 23 #[.slice A n c] w fun e w' => e = .returned (.tuple #[zeroS, .int .i64 0, .int .i64 2]) ∧ Below w.heap.size w w' := by
 subst hn
 refine (ptake_any A c l w hlc hl ht hr).mono ?_
 rintro e w' ⟨_, hp, hb⟩
 exact ⟨hp (prog_none hs), hb⟩
end Go.Proofs.YtjlhhelikiegdaaGreatDoor
