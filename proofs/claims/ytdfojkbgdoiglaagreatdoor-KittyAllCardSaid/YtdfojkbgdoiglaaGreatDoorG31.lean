/-
  Layer 3, walked: the program's Put. Layer 3, walked: the program's taker: parts, params.
-/
import Derived.Test.YtdfojkbgdoiglaaGreatDoorG03
import Derived.Test.YtdfojkbgdoiglaaGreatDoorG09
import Derived.Test.YtdfojkbgdoiglaaGreatDoorG13
import Derived.Test.YtdfojkbgdoiglaaGreatDoorG20
import Derived.Test.YtdfojkbgdoiglaaGreatDoorG21
import Derived.Test.YtdfojkbgdoiglaaGreatDoorG24
import Derived.Test.YtdfojkbgdoiglaaGreatDoorG25
import Derived.Test.YtdfojkbgdoiglaaGreatDoorG28
import Derived.Test.YtdfojkbgdoiglaaGreatDoorG29
import Derived.Test.YtdfojkbgdoiglaaGreatDoorG30
import Derived.Deep.RegionHeld
import Derived.Deep.Cut
namespace Go.Proofs.YtdfojkbgdoiglaaGreatDoor
open Go.RowKit
def pcsL (s : Sq) : List (List UInt8) := [[27], (formF s.kind).letter, privL s.priv, parL s.params, s.inter, privL s.final, s.data, (formF s.kind).en]
theorem pcs_put {s : Sq} (h : mayS s = 0) : Lib.join (pcsL s) [] = putS s := by
 obtain ⟨_, hv, hp, _, hi, hd, hl, hb⟩ := ok_parts h
 obtain ⟨k, pv, ps, it, f, d⟩ := s
 have hne : ∀ n : Nat, 1 ≤ n → btw n 126 f = true → privL f = [f] := fun n hn h => by
  unfold privL
  rw [if_neg]
  intro e
  rw [e, btw_iff] at h
  simp at h
  omega
 have hk : k = 1 ∨ k = 2 ∨ k = 3 ∨ k = 4 ∨ k = 5 := by
  unfold lastOk at hl
  dsimp only at hl
  split at hl
  ·omega
  ·split at hl
   ·omega
   ·simp only [Bool.and_eq_true, decide_eq_true_eq] at hl; omega
 have hj : ∀ l : List (List UInt8), Lib.join l [] = l.flatten := by
  intro l
  match l with
  | [] => rfl
  | [p] => simp [Lib.join]
  | p :: q :: l =>
    rw [join_cons2]
    have : ∀ l : List (List UInt8), Lib.join l [] = l.flatten := by
     intro l
     induction l with
     | nil => rfl
     | cons a l ih =>
       cases l with
       | nil => simp [Lib.join]
       | cons b l => rw [join_cons2, ih]; simp
    rw [this]
    simp
 rw [hj]
 unfold pcsL
 dsimp only at hv hp hi hd ⊢
 rcases hk with rfl | rfl | rfl | rfl | rfl
 ·have hf : btw 64 126 f = true := by simpa [lastOk] using hl
  have hd0 : d = [] := by simpa [bareOk] using hb
  subst hd0
  rw [hne 64 (by omega) hf]
  simp [formF, putS, bodyL]
 ·have h1 : pv = 0 ∧ ps = [] ∧ it = [] ∧ d = [] := by
   simp [bareOk] at hb
   obtain ⟨⟨⟨a, b⟩, c⟩, e⟩ := hb
   exact ⟨a, b, c, e⟩
  obtain ⟨rfl, rfl, rfl, rfl⟩ := h1
  have hf : btw 64 126 f = true := by simpa [lastOk] using hl
  rw [hne 64 (by omega) hf]
  simp [formF, putS, privL, parL]
 ·have hf : btw 64 126 f = true := by simpa [lastOk] using hl
  rw [hne 64 (by omega) hf]
  simp [formF, putS, bodyL]
 ·have h1 : pv = 0 ∧ ps = [] ∧ it = [] := by
   simp [bareOk] at hb
   exact ⟨hb.1.1, hb.1.2, hb.2⟩
  have hf : f = 0 := by simpa [lastOk] using hl
  obtain ⟨rfl, rfl, rfl⟩ := h1
  subst hf
  simp [formF, putS, privL, parL]
 ·have h1 : pv = 0 ∧ ps = [] ∧ d = [] := by
   simp [bareOk] at hb
   exact ⟨hb.1.1, hb.1.2, hb.2⟩
  obtain ⟨rfl, rfl, rfl⟩ := h1
  have hf : btw 48 126 f = true := by simp [lastOk] at hl; exact hl.1
  rw [hne 48 (by omega) hf]
  simp [formF, putS, privL, parL]
set_option maxRecDepth 100000 in
set_option maxHeartbeats 8000000 in
theorem pput_yes (s : Sq) (A : Option Addr) (c : Nat) (w : World) (hm : mayS s = 0) (ht : Tab w) (hr : RdP w A s.params) :
 Calls Tryz.prog 76 #[sqV s A c] w (WYes (putS s) w) := by
 obtain ⟨hdl, hv, hp, hil, hin, hd, hl, hbr⟩ := ok_parts hm
 obtain ⟨s1, s2, s3, s4⟩ := may_small hm
 obtain ⟨l16, l8⟩ := parOk_lens hp
 have hpp : Hid (∀ p ∈ s.params, p.length ≤ 4294967296) := Lib.hid fun p hp => by have := (l8 p hp).1; omega
 have HM := Lib.hid hm
 have HPO := Lib.hid hp
 have HJ := Lib.hid (pcs_put hm)
 have HKB := Lib.hid (show kindB s.kind = true from decide_eq_true s4)
 have hB : Below w.heap.size w (w.alloc (.cells (seqC s A c) 35)) := (Below.refl _ _).alloc (Nat.le_refl _) _
 clear hm hv hp hin hd hl hbr l8 s4
 unfold sqV
 go_enter Tryz.func76, Tryz.ntmps76
 go_wp2_with fail
 refine (pmay_any s A c 0 _ HM.out (by omega) hpp.out (by omega) (hr.below hB)).mono ?_
 rintro e w1 ⟨rfl, hb1⟩
 have hb1w : Below w.heap.size w w1 := hB.trans (hb1.mono (by simp [seqC]))
 have hq1 : Blk w1 w.heap.size 35 (seqC s A c) := (Blk.new w 35 (seqC s A c)).below hb1 (by simp [seqC])
 obtain ⟨c0, c1, c2, c3, c4, c5⟩ := Blk.cells6 hq1
 clear hb1 hB
 go_wp2_with fail
 refine (formOf_any s.kind _).mono ?_
 rw [HKB.out]
 rintro e w2 ⟨rfl, hb2⟩
 obtain ⟨f, hf⟩ : ∃ f, formF s.kind = f := ⟨_, rfl⟩
 have HF := Lib.hid hf
 rw [hf]
 clear hf
 have T1 : Two w (w2.alloc (.cells #[.string ⟨f.letter.toArray⟩, .bool f.body, .bool f.inter, .int .u8 (f.first.toNat : Int), .string ⟨f.en.toArray⟩] 63)) s A c f w2.heap.size :=
  ⟨(hq1.below hb2 hq1.lt).alloc _, Blk.new _ _ _, (hb1w.trans (hb2.mono hb1w.size)).alloc (Nat.le_trans hb1w.size hb2.size) _, Nat.lt_of_lt_of_le hq1.lt hb2.size⟩
 clear hb2 hq1 c0 c1 c2 c3 c4 c5 hb1w
 unfold fmV
 go_upto_region 5 with (fail)
 obtain ⟨⟨c0, c1, c2, c3, c4, c5⟩, f0, f1, f2, f3, f4⟩ := T1.cells
 generalize w2.alloc (.cells #[.string ⟨f.letter.toArray⟩, .bool f.body, .bool f.inter, .int .u8 (f.first.toNat : Int), .string ⟨f.en.toArray⟩] 63) = W1 at *
 have hltW : w2.heap.size < W1.heap.size := T1.fm.lt
 have hwW : w.heap.size ≤ W1.heap.size := T1.be.size
 obtain ⟨T, hT⟩ : ∃ T, putS s = T := ⟨_, rfl⟩
 have HTT := Lib.hid hT
 rw [hT] at s3 HJ
 clear hT
 obtain ⟨C, X, hX⟩ := conv_all Tryz.prog 9 27 5 T Tryz.underlying9 Tryz.underlying27 Tryz.underlying5 (by simp only [maxLen]; omega)
 have hV := fun W => (hX W).1
 have HX := Lib.hid (fun W => (hX W).2.2)
 have HC := Lib.hid (fun W => (hX W).2.1)
 have HS : Hid (∀ W, Below W1.heap.size W1 W → Below W1.heap.size W1 W ∧ W.cell? ⟨w.heap.size, 0, none⟩ = some (.int .i64 s.kind) ∧ W.cell? ⟨w.heap.size, 1, none⟩ = some (.int .u8 (s.priv.toNat : Int)) ∧ W.cell? ⟨w.heap.size, 2, none⟩ = some (.slice A s.params.length c) ∧ W.cell? ⟨w.heap.size, 3, none⟩ = some (.string ⟨s.inter.toArray⟩) ∧ W.cell? ⟨w.heap.size, 4, none⟩ = some (.int .u8 (s.final.toNat : Int)) ∧ W.cell? ⟨w.heap.size, 5, none⟩ = some (.string ⟨s.data.toArray⟩) ∧ W.cell? ⟨w2.heap.size, 0, none⟩ = some (.string ⟨f.letter.toArray⟩) ∧ W.cell? ⟨w2.heap.size, 4, none⟩ = some (.string ⟨f.en.toArray⟩)) := Lib.hid fun W hb =>
  ⟨hb, (hb.cell (p := ⟨w.heap.size, 0, none⟩) T1.sq.lt).trans c0, (hb.cell (p := ⟨w.heap.size, 1, none⟩) T1.sq.lt).trans c1, (hb.cell (p := ⟨w.heap.size, 2, none⟩) T1.sq.lt).trans c2, (hb.cell (p := ⟨w.heap.size, 3, none⟩) T1.sq.lt).trans c3, (hb.cell (p := ⟨w.heap.size, 4, none⟩) T1.sq.lt).trans c4, (hb.cell (p := ⟨w.heap.size, 5, none⟩) T1.sq.lt).trans c5, (hb.cell (p := ⟨w2.heap.size, 0, none⟩) hltW).trans f0, (hb.cell (p := ⟨w2.heap.size, 4, none⟩) hltW).trans f4⟩
 have HTab : Hid (∀ W, Below W1.heap.size W1 W → Tab W) := Lib.hid fun W hb => ht.below (T1.be.trans (hb.mono hwW))
 have HRd : Hid (∀ W, Below W1.heap.size W1 W → RdP W A s.params) := Lib.hid fun W hb => hr.below (T1.be.trans (hb.mono hwW))
 have HJ2 := Lib.hid (show Lib.join [[27], f.letter, privL s.priv, parL s.params, s.inter, privL s.final, s.data, f.en] [] = T by rw [← HJ.out]; unfold pcsL; rw [HF.out])
 clear hX c0 c1 c2 c3 c4 c5 f0 f1 f2 f3 f4
 go_region_held (fun w' => Below W1.heap.size W1 w' ∧ w'.cell? ⟨w.heap.size, 0, none⟩ = some (.int .i64 s.kind) ∧ w'.cell? ⟨w.heap.size, 1, none⟩ = some (.int .u8 (s.priv.toNat : Int)) ∧ w'.cell? ⟨w.heap.size, 2, none⟩ = some (.slice A s.params.length c) ∧ w'.cell? ⟨w.heap.size, 3, none⟩ = some (.string ⟨s.inter.toArray⟩) ∧ w'.cell? ⟨w.heap.size, 4, none⟩ = some (.int .u8 (s.final.toNat : Int)) ∧ w'.cell? ⟨w.heap.size, 5, none⟩ = some (.string ⟨s.data.toArray⟩) ∧ w'.cell? ⟨w2.heap.size, 0, none⟩ = some (.string ⟨f.letter.toArray⟩) ∧ w'.cell? ⟨w2.heap.size, 4, none⟩ = some (.string ⟨f.en.toArray⟩))
  (first | exact HS.out _ (Below.refl _ _).drew | exact HS.out _ ((Below.refl _ _).drew.trans hb3) | exact HS.out _ (((Below.refl _ _).drew.trans hb3).alloc hb3.size _) | exact HS.out _ ((((Below.refl _ _).drew.trans hb3).alloc hb3.size _).trans (hb4.mono (Nat.le_trans (show W1.heap.size ≤ w3.heap.size from hb3.size) (by simp)))) | exact HS.out _ (((((Below.refl _ _).drew.trans hb3).alloc hb3.size _).trans (hb4.mono (Nat.le_trans (show W1.heap.size ≤ w3.heap.size from hb3.size) (by simp)))).trans ((HX.out _).2.mono (Nat.le_trans (show W1.heap.size ≤ w3.heap.size from hb3.size) (Nat.le_trans (by simp) hb4.size)))))
  (first
    | (go_at_call 94; refine (char_any s.priv _ s1).mono ?_; rintro e wc ⟨rfl, rfl⟩)
    | (go_at_call 94; refine (char_any s.final _ s2).mono ?_; rintro e wc ⟨rfl, rfl⟩)
    | (go_at_call 95; refine (ptext_any A c s.params _ HPO.out (HTab.out _ (Below.refl _ _).drew) (HRd.out _ (Below.refl _ _).drew)).mono ?_; rintro e w3 ⟨rfl, hb3⟩)
    | (go_at_call 93; refine (join_any _ 8 8 [[27], f.letter, privL s.priv, parL s.params, s.inter, privL s.final, s.data, f.en] [] T _ rfl HJ2.out (by omega) (Nat.le_refl _) (by omega) (Rd.block (heap_alloc_new _ _) rfl)).mono ?_; rintro e w4 ⟨rfl, hb4⟩))
 have hbX : Below W1.heap.size W1 (X w4) := ((((Below.refl _ _).drew.trans hb3).alloc hb3.size _).trans (hb4.mono (Nat.le_trans (show W1.heap.size ≤ w3.heap.size from hb3.size) (by simp)))).trans ((HX.out _).2.mono (Nat.le_trans (show W1.heap.size ≤ w3.heap.size from hb3.size) (Nat.le_trans (by simp) hb4.size)))
 have hrX := (HX.out w4).1
 have hcX := HC.out w4
 clear hV HX HS HTab HRd hb3 hb4
 generalize X w4 = W5 at *
 go_wp2_with fail
 go_ret2
 rw [HTT.out]
 exact ⟨⟨_, _, rfl, hcX, hrX⟩, T1.be.trans (hbX.mono hwW)⟩
end Go.Proofs.YtdfojkbgdoiglaaGreatDoor
namespace Go.Proofs.YtdfojkbgdoiglaaGreatDoor
open Go.RowKit
theorem rdr_apart {w : World} {g : Nat} {A : Option Addr} {c : Nat} {l r : List UInt8} {x0 x1 x2 x3 x4 x5 : Value} (h : Rdr w g A c l x0 x1 x2 x3 x4 x5 r) {base n : Nat} {e : TypeId} {v : Value} {xs : List Value} (ho : Own w base e 1 v n xs) (hne : e ≠ 61) : v.ownBlock ≠ some g := by
 obtain ⟨_, _, _, _, hb⟩ := h
 exact ho.no_cells hb hne
theorem Rdr.app {w w' : World} {g : Nat} {A : Option Addr} {c : Nat} {l r : List UInt8} {x0 x1 x2 x3 x4 x5 : Value} (h : Rdr w g A c l x0 x1 x2 x3 x4 x5 r) {base n : Nat} {e : TypeId} {v : Value} {xs : List Value} (ho : Own w base e 1 v n xs) (hb : g < base) (hne : e ≠ 61) (hg : w.grownBy w' v.ownBlock) : Rdr w' g A c l x0 x1 x2 x3 x4 x5 r := by
 have hap := rdr_apart h ho hne
 obtain ⟨p, h1, h2, h3, h4⟩ := h
 refine ⟨p, h1, h2, fun hp => ?_, h4.grown hg hap⟩
 obtain ⟨b, o, rfl, hlt, hc⟩ := h3 hp
 exact ⟨b, o, rfl, hlt, fun k u hu => (World.cell?_of_block (w := w) (a := ⟨b, o + k, none⟩) (hg.block b (by have := h4.lt; omega) (fun e => by have := (ho.lt b e.symm).1; omega))).trans (hc k u hu)⟩
theorem TabIn.app {g : Nat} {w w' : World} (h : TabIn g w) {base n : Nat} {e : TypeId} {v : Value} {xs : List Value} (ho : Own w base e 1 v n xs) (hb : g ≤ base) (hw : g ≤ w.heap.size) (hg : w.grownBy w' v.ownBlock) : TabIn g w' :=
 h.below ((Below.refl g w).grown hg hw (fun k hk => Nat.le_trans hb (ho.lt k hk).1))
theorem grown_own {w w1 w2 : World} {g B n : Nat} {e : TypeId} {v : Value} {xs : List Value} (h : w.grownBy w1 (some g)) (ho : Own w1 B e 1 v n xs) (hB : w.heap.size ≤ B) (hg : w1.grownBy w2 v.ownBlock) : w.grownBy w2 (some g) :=
 ⟨hg.os.trans h.os, hg.tape.trans h.tape, hg.output.trans h.output, Nat.le_trans h.size hg.size, fun k hk hr => (hg.block k (Nat.lt_of_lt_of_le hk h.size) (fun e => by have := (ho.lt k e.symm).1; omega)).trans (h.block k hk hr)⟩
def PartsPost (g : Nat) (A : Option Addr) (c : Nat) (l r' : List UInt8) (p : List Int) (x0 x1 x2 x3 x4 x5 : Value) (w : World) (e : Ending) (w' : World) : Prop :=
 (∃ A' c', e = .returned (.slice A' p.length c') ∧ RowI w' w'.heap.size 3 A' p) ∧ Rdr w' g A c l x0 x1 x2 x3 x4 x5 r' ∧ w.grownBy w' (some g)
theorem parts_post {g : Nat} {A : Option Addr} {c n c2 : Nat} {l r' : List UInt8} {p : List Int} {x0 x1 x2 x3 x4 x5 : Value} {w w' : World} {A2 : Option Addr} (hn : p.length = n) (h1 : RowI w' w'.heap.size 3 A2 p) (h2 : Rdr w' g A c l x0 x1 x2 x3 x4 x5 r') (h3 : w.grownBy w' (some g)) :
 PartsPost g A c l r' p x0 x1 x2 x3 x4 x5 w (.returned (.slice A2 n c2)) w' := ⟨⟨A2, c2, by rw [hn], h1⟩, h2, h3⟩
set_option maxRecDepth 100000 in
set_option maxHeartbeats 8000000 in
theorem parts2_any (g : Nat) (A : Option Addr) (c : Nat) (l r r' : List UInt8) (p : List Int) (x0 x1 x2 x3 x4 x5 : Value) (w : World) (hn : partsF r = (p, r')) (hlc : l.length ≤ c) (hl : l.length ≤ 4294967296) (ht : TabIn g w) (h : Rdr w g A c l x0 x1 x2 x3 x4 x5 r) :
 Calls Tryz.prog 85 #[.pointer (some ⟨g, 0, none⟩)] w (PartsPost g A c l r' p x0 x1 x2 x3 x4 x5 w) := by
 obtain ⟨i0, hi, hz0, hz1, hz2⟩ : ∃ i, Tryz.prog.info? 3 = some i ∧ i.zero = some (.int .i64 0) ∧ i.size = 1 ∧ i.bytes = 8 := ⟨_, rfl, rfl, rfl, rfl⟩
 have hlt := h.lt
 obtain ⟨n1, hn1⟩ : ∃ n1, (partF r).1 = n1 := ⟨_, rfl⟩
 obtain ⟨r1, hr1⟩ : ∃ r1, (partF r).2 = r1 := ⟨_, rfl⟩
 have HF := Lib.hid (show partF r = (n1, r1) by rw [← hn1, ← hr1])
 have HP := Lib.hid (show partsGo 7 [n1] r1 = (p, r') by rw [← hn, ← hn1, ← hr1]; rfl)
 clear hn hn1 hr1
 go_enter Tryz.func85, Tryz.ntmps85
 go_wp2_with fail
 refine (part2_any g A c l r r1 n1 x0 x1 x2 x3 x4 x5 _ HF.out hlc hl ht h).mono ?_
 rintro e w1 ⟨rfl, h1, hg1⟩
 have ht1 := ht.grown hg1 hlt
 clear h ht
 go_wp2_with fail
 have ho1 := own_lit (w1.alloc (.cells #[.int .i64 n1] 3)) w1.heap.size 3 w1.heap.size (.int .i64 n1) (Nat.le_refl _) (heap_alloc_new w1 _)
 have h1' := h1.below ((Below.refl _ w1).alloc (Nat.le_refl _) (.cells #[.int .i64 n1] 3)) h1.lt
 have hg1' : w.grownBy (w1.alloc (.cells #[.int .i64 n1] 3)) (some g) := grown_trans hg1 (World.grownBy_alloc w1 _ _)
 have ht1' := ht1.below (((Below.refl g w1).alloc (Nat.le_of_lt h1.lt) (.cells #[.int .i64 n1] 3)))
 have hws : w.heap.size ≤ w1.heap.size := hg1.size
 clear h1 hg1 ht1
 go_loopw [3] (fun v wr => ∃ (acc : List Int) (rr : List UInt8) (f B : Nat), acc.length + f = 8 ∧ Own wr B 3 1 v acc.length (is_ acc) ∧ Rdr wr g A c l x0 x1 x2 x3 x4 x5 rr ∧ TabIn g wr ∧ w.grownBy wr (some g) ∧ (w.heap.size ≤ B ∧ B ≤ wr.heap.size) ∧ Hid (partsGo f acc rr = (p, r'))) (fun v _ => match v with | .slice _ n _ => 8 - n | _ => 0)
 case atStart => exact ⟨[n1], r1, 7, w1.heap.size, rfl, ho1, h1', ht1', hg1', ⟨hws, by simp⟩, HP⟩
 case round =>
  obtain ⟨acc, rr, f, B, hf, ho, hR, hT, hG, ⟨hB, hB2⟩, HE⟩ := hrel
  clear ho1 h1' hg1' ht1' HP
  obtain ⟨n, hn⟩ : ∃ n, acc.length = n := ⟨_, rfl⟩
  rw [hn] at ho hf
  have HN := Lib.hid hn
  clear hn
  obtain ⟨A2, c2, rfl, _⟩ := ho.form
  by_cases h8 : n < 8
  ·obtain ⟨f', rfl⟩ : ∃ f', f = f' + 1 := ⟨f - 1, by omega⟩
   cases hs : skipB [58] rr with
   | true =>
     have HS := Lib.hid hs
     clear hs
     obtain ⟨n2, hn2⟩ : ∃ n2, (partF (rr.drop 1)).1 = n2 := ⟨_, rfl⟩
     obtain ⟨r2, hr2⟩ : ∃ r2, (partF (rr.drop 1)).2 = r2 := ⟨_, rfl⟩
     have HF2 := Lib.hid (show partF (rr.drop 1) = (n2, r2) by rw [← hn2, ← hr2])
     have HE2 := Lib.hid (show partsGo f' (acc ++ [n2]) r2 = (p, r') by
      have := HE.out
      unfold partsGo at this
      rw [if_pos HS.out, hn2, hr2] at this
      exact this)
     clear hn2 hr2 HE
     go_wp2_with fail
     refine (skip_yes g A c l [58] rr x0 x1 x2 x3 x4 x5 _ HS.out hlc hl (by simp) hR).mono ?_
     rintro e w2 ⟨rfl, hR2, hG2⟩
     have hT2 := hT.grown hG2 hR.lt
     have ho2 := ho.kept hG2 (.inr (rdr_apart hR ho (by decide)))
     have hG2' := grown_trans hG hG2
     have hs2 := Nat.le_trans hB2 hG2.size
     clear hR hT ho hG2 hG
     go_wp2_with fail
     refine (part2_any g A c l (rr.drop 1) r2 n2 x0 x1 x2 x3 x4 x5 _ HF2.out hlc hl hT2 hR2).mono ?_
     rintro e w3 ⟨rfl, hR3, hG3⟩
     have hT3 := hT2.grown hG3 hR2.lt
     have ho3 := ho2.kept hG3 (.inr (rdr_apart hR2 ho2 (by decide)))
     have hG3' := grown_trans hG2' hG3
     have hs3 := Nat.le_trans hs2 hG3.size
     clear hR2 hT2 ho2 hG3 hG2'
     have hown4 := ho3.alloc (.cells #[.int .i64 n2] 3)
     have hR4 := hR3.below ((Below.refl _ w3).alloc (Nat.le_refl _) (.cells #[.int .i64 n2] 3)) hR3.lt
     have hT4 := hT3.below (((Below.refl g w3).alloc (Nat.le_of_lt hR3.lt) (.cells #[.int .i64 n2] 3)))
     have hG4 : w.grownBy (w3.alloc (.cells #[.int .i64 n2] 3)) (some g) := grown_trans hG3' (World.grownBy_alloc w3 _ _)
     have hrd4 : Rd (w3.alloc (.cells #[.int .i64 n2] 3)) (some ⟨w3.heap.size, 0, none⟩) [.int .i64 n2] := Rd.block (heap_alloc_new w3 _) (by simp)
     have h63 : n + 1 ≤ maxLen := by simp only [maxLen]; omega
     have hlim : (n + 1) * 8 ≤ 140737488355328 := by omega
     have hbs4 : B ≤ (w3.alloc (.cells #[.int .i64 n2] 3)).heap.size := by simp; omega
     have hone4 : ∀ u ∈ [Value.int IntKind.i64 n2], u.oneCell' = true := fun u hu => by rw [List.mem_singleton] at hu; subst hu; rfl
     clear hR3 hT3 ho3 hG3'
     go_wp2_with (first | (at_builtin; refine list_app _ rfl (.tmp 18) (.tmp 23) 69 rfl B 3 i0 _ 1 8 Tryz.underlying69 hi hz0 hz1 hz2 rfl Nat.one_pos _ _ _ rfl hown4 _ 1 1 [.int .i64 n2] rfl rfl hrd4 hone4 h63 hlim hbs4 ?_; intro v5 w5 hown5 hg5))
     have hR5 := hR4.app hown4 (by omega) (by decide) hg5
     have hT5 := hT4.app hown4 (by omega) (Nat.le_of_lt hR4.lt) hg5
     have hG5 := grown_own hG4 hown4 hB hg5
     rw [← is_snoc] at hown5
     have hnn := HN.out
     obtain ⟨A5, c5, rfl, _⟩ := hown5.form
     have HL5 := Lib.hid (show (acc ++ [n2]).length = n + 1 by rw [List.length_append, hnn]; rfl)
     have hs5 : B ≤ w5.heap.size := Nat.le_trans hbs4 hg5.size
     clear hnn hg5 hown4 hR4 hT4 hG4 hrd4
     go_wp2_with fail
     go_roundw
     case rel => exact ⟨acc ++ [n2], r2, f', B, by rw [HL5.out]; omega, by rw [HL5.out]; exact hown5, hR5, hT5, hG5, ⟨hB, hs5⟩, HE2⟩
     case measure => simp; omega
   | false =>
     have HS := Lib.hid hs
     clear hs
     have hE := HE.out
     unfold partsGo at hE
     rw [if_neg (by rw [HS.out]; simp)] at hE
     injection hE with e1 e2
     subst e1
     subst e2
     clear HE
     go_wp2_with fail
     refine (skip_no g A c l [58] rr x0 x1 x2 x3 x4 x5 _ HS.out hlc hl (by simp) hR).mono ?_
     rintro e w2 ⟨rfl, hR2, hG2⟩
     have ho2 := ho.kept hG2 (.inr (rdr_apart hR ho (by decide)))
     obtain ⟨hnn, A3, c3, h3, hrow⟩ := own_row ho2
     cases h3
     clear hnn
     go_wp2_with fail
     go_ret
     exact parts_post HN.out hrow hR2 (grown_trans hG hG2)
  ·have h8' : 8 ≤ n := by omega
   obtain rfl : f = 0 := by omega
   have hE := HE.out
   unfold partsGo at hE
   injection hE with e1 e2
   subst e1
   subst e2
   clear HE h8
   obtain ⟨hnn, A3, c3, h3, hrow⟩ := own_row ho
   cases h3
   clear hnn
   go_wp2_with fail
   go_ret
   exact parts_post HN.out hrow hR hG
end Go.Proofs.YtdfojkbgdoiglaaGreatDoor
