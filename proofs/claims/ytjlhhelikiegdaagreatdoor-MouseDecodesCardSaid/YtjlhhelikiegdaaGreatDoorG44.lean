/-
  Layer 3, walked: the document's guess, whatever it tells, and its Take.
-/
import Derived.Test.YtjlhhelikiegdaaGreatDoorG17
import Derived.Test.YtjlhhelikiegdaaGreatDoorG18
import Derived.Test.YtjlhhelikiegdaaGreatDoorG23
import Derived.Test.YtjlhhelikiegdaaGreatDoorG43
namespace Go.Proofs.YtjlhhelikiegdaaGreatDoor
open Go.RowKit
theorem guessW_any (l : List UInt8) (w : World) (hl : l.length ≤ 4294967296) :
 Calls Tryz.prog 52 #[.string ⟨l.toArray⟩] w (GuessP l w) := by
 have h : ∀ s : ByteArray, s.size ≤ 4294967296 → Calls Tryz.prog 52 #[.string s] w (GuessP s.data.toList w) := by
  intro s hl
  by_cases h2 : 1 < s.size
  ·by_cases h0 : (s[0]'(by omega)).toNat = 27
   ·by_cases h79 : (s[1]'h2).toNat = 79
    ·by_cases h3 : 2 < s.size
     ·exact guess_x_79s s w h3 h0 h79
     ·exact guess_x_79n s w (by omega) h0 h79
    ·by_cases h93 : (s[1]'h2).toNat = 93
     ·exact guess_x_93 s w hl h2 h0 h93
     ·by_cases h91 : (s[1]'h2).toNat = 91
      ·by_cases hs : 2 < s.size
       ·by_cases ha : (s[2]'hs).toNat < 60
        ·exact guess_1_lo s w hl h2 h0 h91 hs ha
        ·by_cases hb : 63 < (s[2]'hs).toNat
         ·exact guess_1_hi s w hl h2 h0 h91 hs hb
         ·exact guess_1_p s w hl h2 h0 h91 hs (by omega)
       ·exact guess_1_e s w hl h2 h0 h91 (by omega)
      ·by_cases h80 : (s[1]'h2).toNat = 80
       ·by_cases hs : 2 < s.size
        ·by_cases ha : (s[2]'hs).toNat < 60
         ·exact guess_3_lo s w hl h2 h0 h80 hs ha
         ·by_cases hb : 63 < (s[2]'hs).toNat
          ·exact guess_3_hi s w hl h2 h0 h80 hs hb
          ·exact guess_3_p s w hl h2 h0 h80 hs (by omega)
        ·exact guess_3_e s w hl h2 h0 h80 (by omega)
       ·exact guess_x_esc s w hl h2 h0 ⟨h79, h93, h91, h80⟩
   ·exact guess_x_not s w h2 h0
  ·exact guess_x_short s w (by omega)
 exact h ⟨l.toArray⟩ hl
theorem numsGo_len : ∀ (l : List UInt8) (n : Int) (one : List Int), (numsGo n one l).length ≤ l.length + 1
 | [], _, _ => by simp [numsGo]
 | c :: l, n, one => by
   unfold numsGo
   split
   ·have := numsGo_len l (rd 1114112 n c) one; simp only [List.length_cons]; omega
   ·split
    ·have := numsGo_len l (-1) []; simp only [List.length_cons]; omega
    ·have := numsGo_len l (-1) (one ++ [n]); simp only [List.length_cons]; omega
theorem nums_len (l : List UInt8) : (numsL l).length ≤ l.length + 1 := by
 unfold numsL
 split
 ·simp
 ·exact numsGo_len l _ _
theorem tail_len {k : Int} {pv : UInt8} {n m : Nat} {r : List UInt8} {q : Sq} (h : tailS k pv n r = some (q, m)) : q.params.length ≤ r.length + 1 ∧ q.inter.length ≤ r.length := by
 have e1 := (List.takeWhile_sublist (btw 48 59) (l := r)).length_le
 have e2 := (List.takeWhile_sublist (btw 32 47) (l := r.drop (r.takeWhile (btw 48 59)).length)).length_le
 rw [List.length_drop] at e2
 have e3 := nums_len (r.takeWhile (btw 48 59))
 unfold tailS at h
 split at h
 ·cases h
 ·simp only [Option.some.injEq, Prod.mk.injEq] at h
  obtain ⟨rfl, _⟩ := h
  dsimp only
  omega
theorem guess_len {l : List UInt8} {q : Sq} {m : Nat} (h : guessS l = some (q, m)) : q.params.length ≤ l.length + 1 ∧ q.inter.length ≤ l.length := by
 unfold guessS at h
 split at h
 ·rename_i c0 c1 r
  split at h
  ·cases h
  ·split at h
   ·split at h
    ·simp only [Option.some.injEq, Prod.mk.injEq] at h
     obtain ⟨rfl, _⟩ := h
     simp
    ·cases h
   ·split at h
    ·simp only [Option.some.injEq, Prod.mk.injEq] at h
     obtain ⟨rfl, _⟩ := h
     simp
    ·have hs : ∀ k, seqS k r = some (q, m) → q.params.length ≤ (c0 :: c1 :: r).length + 1 ∧ q.inter.length ≤ (c0 :: c1 :: r).length := by
      intro k hk
      unfold seqS at hk
      split at hk
      ·split at hk
       ·have := tail_len hk; simp only [List.length_cons]; omega
       ·have := tail_len hk; simp only [List.length_cons] at this ⊢; omega
      ·have := tail_len hk; simp only [List.length_cons, List.length_nil] at this ⊢; omega
     split at h
     ·exact hs 1 h
     ·split at h
      ·exact hs 3 h
      ·unfold escS at h
       have e2 := (List.takeWhile_sublist (btw 32 47) (l := c1 :: r)).length_le
       split at h
       ·cases h
       ·simp only [Option.some.injEq, Prod.mk.injEq] at h
        obtain ⟨rfl, _⟩ := h
        simp only [List.length_cons, List.length_nil] at e2 ⊢
        omega
 ·cases h
def RTk (l : List UInt8) (w : World) (e : Ending) (w' : World) : Prop :=
 (match takeS l with
  | some (s, m) => ∃ A c, e = .returned (.tuple #[sqV s A c, .int .i64 (m : Nat), .int .i64 0]) ∧ RdP w' A s.params
  | none => e = .returned (.tuple #[zeroS, .int .i64 0, .int .i64 2])) ∧ Below w.heap.size w w'
theorem rt_no {l : List UInt8} {w w' : World} (h : takeS l = none) (hb : Below w.heap.size w w') : RTk l w (.returned (.tuple #[zeroS, .int .i64 0, .int .i64 2])) w' := by
 unfold RTk
 rw [h]
 exact ⟨rfl, hb⟩
theorem rt_yes {l : List UInt8} {w w' : World} {s : Sq} {m : Nat} {A : Option Addr} {c : Nat} (h : takeS l = some (s, m)) (hr : RdP w' A s.params) (hb : Below w.heap.size w w') : RTk l w (.returned (.tuple #[sqV s A c, .int .i64 m, .int .i64 0])) w' := by
 unfold RTk
 rw [h]
 exact ⟨⟨A, c, rfl, hr⟩, hb⟩
set_option maxRecDepth 100000 in
set_option maxHeartbeats 8000000 in
theorem rtakeW_any (A : Option Addr) (n c : Nat) (l : List UInt8) (w : World) (hn : l.length = n) (hlc : n ≤ c) (hl : n ≤ 4294967) (hr : Rd w A (bs l)) :
 Calls Tryz.prog 28 #[.slice A n c] w (RTk l w) := by
 have hzr := Blk.new w 44 #[.int .i64 0, .int .u8 0, .slice none 0 0, .string ⟨#[]⟩, .int .u8 0, .string ⟨#[]⟩]
 have hba : Below w.heap.size w (w.alloc (.cells #[.int .i64 0, .int .u8 0, .slice none 0 0, .string ⟨#[]⟩, .int .u8 0, .string ⟨#[]⟩] 44)) := (Below.refl _ w).alloc (Nat.le_refl _) _
 have hcv0 : (convert 25 9 (.slice A n c)).run Tryz.prog (w.alloc (.cells #[.int .i64 0, .int .u8 0, .slice none 0 0, .string ⟨#[]⟩, .int .u8 0, .string ⟨#[]⟩] 44)) = .ok (.string ⟨l.toArray⟩) (w.alloc (.cells #[.int .i64 0, .int .u8 0, .slice none 0 0, .string ⟨#[]⟩, .int .u8 0, .string ⟨#[]⟩] 44)) := conv_str Tryz.underlying25 Tryz.underlying5 hn (hr.below hba) _ Tryz.underlying9
 have HN := Lib.hid hn
 go_enter Tryz.func28, Tryz.ntmps28
 go_wp2_with fail
 refine (guessW_any l _ (by omega)).mono ?_
 rintro e w1 ⟨he, hb⟩
 clear hn hcv0
 have hzr1 := hzr.below hb hzr.lt
 have hbw1 := hba.trans (hb.mono hba.size)
 clear hzr hba hb
 cases hg : guessS l with
 | none =>
   rw [hg] at he
   obtain ⟨k, b, f, A0, n0, c0, x, y, rfl⟩ := he
   have HT := Lib.hid (show takeS l = none by unfold takeS; rw [hg])
   have hz2 := hzr1.alloc (.cells #[.int .i64 k, .int .u8 b, .slice A0 n0 c0, .string x, .int .u8 f, .string y] 44)
   have hb2 := hbw1.alloc hbw1.size (.cells #[.int .i64 k, .int .u8 b, .slice A0 n0 c0, .string x, .int .u8 f, .string y] 44)
   clear hg hzr1 hbw1
   go_upto_region 2 with (fail)
   generalize w1.alloc (.cells #[.int .i64 k, .int .u8 b, .slice A0 n0 c0, .string x, .int .u8 f, .string y] 44) = W2 at *
   obtain ⟨d0, d1, d2, d3, d4, d5⟩ := Blk.cells6 hz2
   have z0 := hz2.frozen 0
   have z1 := hz2.frozen 1
   have z2 := hz2.frozen 2
   have z3 := hz2.frozen 3
   have z4 := hz2.frozen 4
   have z5 := hz2.frozen 5
   go_wp2_with fail
   refine bodyPost_ret (v := .tuple #[zeroS, .int .i64 0, .int .i64 2]) (by simp [results, Tryz.results28, go_sem, zeroS, d0, d1, d2, d3, d4, d5]) rfl (rt_no HT.out (below_set6 hb2 (Nat.le_refl _) _ _ _ _ _ _))
 | some qm =>
   obtain ⟨q, m⟩ := qm
   rw [hg] at he
   obtain ⟨A1, c1, gg, rfl, hr1⟩ := he
   obtain ⟨p1, p2⟩ := guess_len hg
   rw [HN.out] at p1 p2
   have HQ := Lib.hid hg
   have hbx := Blk.new w1 44 (seqC q A1 c1)
   have hz2 := hzr1.alloc (.cells (seqC q A1 c1) 44)
   have hr2 := hr1.below ((Below.refl _ w1).alloc (Nat.le_refl _) (.cells (seqC q A1 c1) 44))
   have hb2 := hbw1.alloc hbw1.size (.cells (seqC q A1 c1) 44)
   have hg12 : w.heap.size ≠ w1.heap.size := Nat.ne_of_lt hzr1.lt
   unfold seqC at hbx hz2 hr2 hb2
   clear hg hzr1 hr1 hbw1
   unfold sqV
   go_upto_region 2 with (fail)
   generalize hgg : w1.heap.size = g at *
   generalize w1.alloc (.cells #[.int .i64 q.kind, .int .u8 (q.priv.toNat : Int), .slice A1 q.params.length c1, .string ⟨q.inter.toArray⟩, .int .u8 (q.final.toNat : Int), .string ⟨q.data.toArray⟩] 44) = W2 at *
   clear hgg
   have k0 : ¬ (m : Int) < 0 := by omega
   by_cases hmn : m ≤ n
   ·have k1 : ¬ (n : Int) < (m : Int) := by omega
    obtain ⟨mm, hmm⟩ : ∃ x, mayS q = x := ⟨_, rfl⟩
    obtain ⟨T, hT⟩ : ∃ x, putE q = x := ⟨_, rfl⟩
    have HM := Lib.hid hmm
    have HP := Lib.hid hT
    obtain ⟨a0, a1, a2, a3, a4, a5⟩ := Blk.cells6 hbx
    clear hmm hT
    go_wp2_with fail
    refine (rputE_any q A1 c1 mm T _ HM.out HP.out (by omega) (by omega) hr2.rdp).mono ?_
    rintro e w3 ⟨⟨A2, c2, rfl, hc2, hr3⟩, hb⟩
    have hbx3 := hbx.below hb hbx.lt
    have hz3 := hz2.below hb hz2.lt
    have hr23 := hr2.below hb
    have hb3 := hb2.trans (hb.mono hb2.size)
    clear hbx hz2 hr2 hb2 hb a0 a1 a2 a3 a4 a5
    obtain ⟨d0, d1, d2, d3, d4, d5⟩ := Blk.cells6 hz3
    have z0 := hz3.frozen 0
    have z1 := hz3.frozen 1
    have z2 := hz3.frozen 2
    have z3 := hz3.frozen 3
    have z4 := hz3.frozen 4
    have z5 := hz3.frozen 5
    by_cases h0 : mm = 0
    ·subst h0
     have hr3d : Rd w3.drew A2 (bs T) := hr3
     have hcvT : (convert 25 9 (.slice A2 T.length c2)).run Tryz.prog w3.drew = .ok (.string ⟨T.toArray⟩) w3.drew := conv_str (P := Tryz.prog) Tryz.underlying25 Tryz.underlying5 rfl hr3d 9 Tryz.underlying9
     obtain ⟨A8, hcut, hrd⟩ := cut_hi (P := Tryz.prog) (T := 25) (e := 5) (by kernel_rfl) Tryz.underlying25 Tryz.sizeOf5 A n c m hmn hlc
     have hr8 : Rd w3.drew A8 (bs (l.take m)) := hrd w3.drew l HN.out (hr.below hb3.drew)
     obtain ⟨L, hL⟩ : ∃ L, l.take m = L := ⟨_, rfl⟩
     have hLm : L.length = m := by rw [← hL, List.length_take, HN.out]; omega
     have HL := Lib.hid hL
     rw [hL] at hr8
     have hcvL : (convert 25 9 (.slice A8 m c)).run Tryz.prog w3.drew = .ok (.string ⟨L.toArray⟩) w3.drew := conv_str (P := Tryz.prog) Tryz.underlying25 Tryz.underlying5 hLm hr8 9 Tryz.underlying9
     obtain ⟨nT, hnT⟩ : ∃ x, T.length = x := ⟨_, rfl⟩
     rw [hnT] at hcvT hc2 ⊢
     clear hrd hr3 hr3d hr8 hL hLm hnT
     by_cases hE : T = L
     ·subst hE
      have HT := Lib.hid (show takeS l = some (q, m) by
       unfold takeS; rw [HQ.out]; dsimp only
       rw [if_pos ⟨by rw [HN.out]; exact hmn, HM.out, by rw [HL.out, ← HP.out, putE_0 HM.out]⟩])
      obtain ⟨a0, a1, a2, a3, a4, a5⟩ := Blk.cells6 hbx3
      go_wp2_with fail
      go_region
      all_goals
       have h7 := (hr23.other hz3 (by decide) (by decide) (grown_set6 w3 w.heap.size (.int .i64 q.kind) (.int .u8 (q.priv.toNat : Int)) (.slice A1 q.params.length c1) (.string ⟨q.inter.toArray⟩) (.int .u8 (q.final.toNat : Int)) (.string ⟨q.data.toArray⟩))).rdp
       have h8 := below_set6 hb3 (Nat.le_refl w.heap.size) (.int .i64 q.kind) (.int .u8 (q.priv.toNat : Int)) (.slice A1 q.params.length c1) (.string ⟨q.inter.toArray⟩) (.int .u8 (q.final.toNat : Int)) (.string ⟨q.data.toArray⟩)
       go_wp2_with fail
       refine bodyPost_ret (v := .tuple #[sqV q A1 c1, .int .i64 (m : Int), .int .i64 0]) (by simp [results, Tryz.results28, go_sem, sqV, d0, d1, d2, d3, d4, d5]) rfl (rt_yes HT.out (rdp_drew h7) h8.drew)
     ·have HT := Lib.hid (show takeS l = none by
       unfold takeS; rw [HQ.out]; dsimp only
       rw [if_neg]; exact fun h => hE (by rw [← HP.out, putE_0 HM.out, h.2.2, HL.out]))
      have hE2 : (T == L) = false := beq_false_of_ne hE
      clear hE
      go_wp2_with fail
      go_region
      all_goals
       have h8 := below_set6 hb3 (Nat.le_refl w.heap.size) (.int .i64 0) (.int .u8 0) (.slice none 0 0) (.string ⟨#[]⟩) (.int .u8 0) (.string ⟨#[]⟩)
       go_wp2_with fail
       refine bodyPost_ret (v := .tuple #[zeroS, .int .i64 0, .int .i64 2]) (by simp [results, Tryz.results28, go_sem, zeroS, d0, d1, d2, d3, d4, d5]) rfl (rt_no HT.out h8.drew)
    ·have t1 : (mm == 0) = false := beq_false_of_ne h0
     have t2 : (mm != 0) = true := by simp [bne, t1]
     have HT := Lib.hid (show takeS l = none by unfold takeS; rw [HQ.out]; dsimp only; rw [if_neg]; exact fun h => h0 (HM.out.symm.trans h.2.1))
     clear h0
     go_wp2_with fail
     go_region
     all_goals
      have h8 := below_set6 hb3 (Nat.le_refl w.heap.size) (.int .i64 0) (.int .u8 0) (.slice none 0 0) (.string ⟨#[]⟩) (.int .u8 0) (.string ⟨#[]⟩)
      go_wp2_with fail
      refine bodyPost_ret (v := .tuple #[zeroS, .int .i64 0, .int .i64 2]) (by simp [results, Tryz.results28, go_sem, zeroS, d0, d1, d2, d3, d4, d5]) rfl (rt_no HT.out h8.drew)
   ·have k1 : (n : Int) < (m : Int) := by omega
    have HT := Lib.hid (show takeS l = none by unfold takeS; rw [HQ.out]; dsimp only; rw [if_neg]; rw [HN.out]; exact fun h => hmn h.1)
    obtain ⟨d0, d1, d2, d3, d4, d5⟩ := Blk.cells6 hz2
    have z0 := hz2.frozen 0
    have z1 := hz2.frozen 1
    have z2 := hz2.frozen 2
    have z3 := hz2.frozen 3
    have z4 := hz2.frozen 4
    have z5 := hz2.frozen 5
    go_wp2_with fail
    refine bodyPost_ret (v := .tuple #[zeroS, .int .i64 0, .int .i64 2]) (by simp [results, Tryz.results28, go_sem, zeroS, d0, d1, d2, d3, d4, d5]) rfl (rt_no HT.out (below_set6 hb2 (Nat.le_refl _) _ _ _ _ _ _))
end Go.Proofs.YtjlhhelikiegdaaGreatDoor
