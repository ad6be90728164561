/-
  Layer 3, walked: the document's guess, whatever it tells, and its Take. Layer 12, walked: the document's Back. Layer 12, the laws' walks over the bundle: OtherTypes.
-/
import Derived.Test.YtmagokkegadmiaaGreatDoorG07
import Derived.Test.YtmagokkegadmiaaGreatDoorG19
import Derived.Test.YtmagokkegadmiaaGreatDoorG29
import Derived.Test.YtmagokkegadmiaaGreatDoorG30
import Derived.Test.YtmagokkegadmiaaGreatDoorG36
import Derived.Test.YtmagokkegadmiaaGreatDoorG37
import Derived.Test.YtmagokkegadmiaaGreatDoorG38
import Derived.Deep.Cut
namespace Go.Proofs.YtmagokkegadmiaaGreatDoor
open Go.RowKit

theorem guessW_any (l : List UInt8) (w : World) (hl : l.length ≤ 4294967296) :
    Calls Tryz.prog 58 #[.string ⟨l.toArray⟩] w (GuessP l w) := by
  have h : ∀ s : ByteArray, s.size ≤ 4294967296 → Calls Tryz.prog 58 #[.string s] w (GuessP s.data.toList w) := by
    intro s hl
    by_cases h2 : 1 < s.size
    · by_cases h0 : (s[0]'(by omega)).toNat = 27
      · by_cases h79 : (s[1]'h2).toNat = 79
        · by_cases h3 : 2 < s.size
          · exact guess_x_79s s w h3 h0 h79
          · exact guess_x_79n s w (by omega) h0 h79
        · by_cases h93 : (s[1]'h2).toNat = 93
          · exact guess_x_93 s w hl h2 h0 h93
          · by_cases h91 : (s[1]'h2).toNat = 91
            · by_cases hs : 2 < s.size
              · by_cases ha : (s[2]'hs).toNat < 60
                · exact guess_1_lo s w hl h2 h0 h91 hs ha
                · by_cases hb : 63 < (s[2]'hs).toNat
                  · exact guess_1_hi s w hl h2 h0 h91 hs hb
                  · exact guess_1_p s w hl h2 h0 h91 hs (by omega)
              · exact guess_1_e s w hl h2 h0 h91 (by omega)
            · by_cases h80 : (s[1]'h2).toNat = 80
              · by_cases hs : 2 < s.size
                · by_cases ha : (s[2]'hs).toNat < 60
                  · exact guess_3_lo s w hl h2 h0 h80 hs ha
                  · by_cases hb : 63 < (s[2]'hs).toNat
                    · exact guess_3_hi s w hl h2 h0 h80 hs hb
                    · exact guess_3_p s w hl h2 h0 h80 hs (by omega)
                · exact guess_3_e s w hl h2 h0 h80 (by omega)
              · exact guess_x_esc s w hl h2 h0 ⟨h79, h93, h91, h80⟩
      · exact guess_x_not s w h2 h0
    · exact guess_x_short s w (by omega)
  exact h ⟨l.toArray⟩ hl
theorem numsGo_len : ∀ (l : List UInt8) (n : Int) (one : List Int), (numsGo n one l).length ≤ l.length + 1
  | [], _, _ => by simp [numsGo]
  | c :: l, n, one => by
    unfold numsGo
    split
    · have := numsGo_len l (rd 1114112 n c) one; simp only [List.length_cons]; omega
    · split
      · have := numsGo_len l (-1) []; simp only [List.length_cons]; omega
      · have := numsGo_len l (-1) (one ++ [n]); simp only [List.length_cons]; omega
theorem nums_len (l : List UInt8) : (numsL l).length ≤ l.length + 1 := by
  unfold numsL
  split
  · simp
  · exact numsGo_len l _ _
theorem tail_len {k : Int} {pv : UInt8} {n m : Nat} {r : List UInt8} {q : Sq} (h : tailS k pv n r = some (q, m)) : q.params.length ≤ r.length + 1 ∧ q.inter.length ≤ r.length := by
  have e1 := (List.takeWhile_sublist (btw 48 59) (l := r)).length_le
  have e2 := (List.takeWhile_sublist (btw 32 47) (l := r.drop (r.takeWhile (btw 48 59)).length)).length_le
  rw [List.length_drop] at e2
  have e3 := nums_len (r.takeWhile (btw 48 59))
  unfold tailS at h
  split at h
  · cases h
  · simp only [Option.some.injEq, Prod.mk.injEq] at h
    obtain ⟨rfl, _⟩ := h
    dsimp only
    omega
theorem guess_len {l : List UInt8} {q : Sq} {m : Nat} (h : guessS l = some (q, m)) : q.params.length ≤ l.length + 1 ∧ q.inter.length ≤ l.length := by
  unfold guessS at h
  split at h
  · rename_i c0 c1 r
    split at h
    · cases h
    · split at h
      · split at h
        · simp only [Option.some.injEq, Prod.mk.injEq] at h
          obtain ⟨rfl, _⟩ := h
          simp
        · cases h
      · split at h
        · simp only [Option.some.injEq, Prod.mk.injEq] at h
          obtain ⟨rfl, _⟩ := h
          simp
        · have hs : ∀ k, seqS k r = some (q, m) → q.params.length ≤ (c0 :: c1 :: r).length + 1 ∧ q.inter.length ≤ (c0 :: c1 :: r).length := by
            intro k hk
            unfold seqS at hk
            split at hk
            · split at hk
              · have := tail_len hk; simp only [List.length_cons]; omega
              · have := tail_len hk; simp only [List.length_cons] at this ⊢; omega
            · have := tail_len hk; simp only [List.length_cons, List.length_nil] at this ⊢; omega
          split at h
          · exact hs 1 h
          · split at h
            · exact hs 3 h
            · unfold escS at h
              have e2 := (List.takeWhile_sublist (btw 32 47) (l := c1 :: r)).length_le
              split at h
              · cases h
              · simp only [Option.some.injEq, Prod.mk.injEq] at h
                obtain ⟨rfl, _⟩ := h
                simp only [List.length_cons, List.length_nil] at e2 ⊢
                omega
  · cases h
/-- What the document's Take tells. -/
def RTk (l : List UInt8) (w : World) (e : Ending) (w' : World) : Prop :=
  (match takeS l with
   | some (s, m) => ∃ A c, e = .returned (.tuple #[sqV s A c, .int .i64 (m : Nat), .int .i64 0]) ∧ RdP w' A s.params
   | none => e = .returned (.tuple #[zeroS, .int .i64 0, .int .i64 2])) ∧ Below w.heap.size w w'
theorem rt_no {l : List UInt8} {w w' : World} (h : takeS l = none) (hb : Below w.heap.size w w') : RTk l w (.returned (.tuple #[zeroS, .int .i64 0, .int .i64 2])) w' := by
  unfold RTk
  rw [h]
  exact ⟨rfl, hb⟩
theorem rt_yes {l : List UInt8} {w w' : World} {s : Sq} {m : Nat} {A : Option Addr} {c : Nat} (h : takeS l = some (s, m)) (hr : RdP w' A s.params) (hb : Below w.heap.size w w') : RTk l w (.returned (.tuple #[sqV s A c, .int .i64 m, .int .i64 0])) w' := by
  unfold RTk
  rw [h]
  exact ⟨⟨A, c, rfl, hr⟩, hb⟩

set_option maxRecDepth 100000 in
set_option maxHeartbeats 8000000 in
theorem rtakeW_any (A : Option Addr) (n c : Nat) (l : List UInt8) (w : World) (hn : l.length = n) (hlc : n ≤ c) (hl : n ≤ 4294967) (hr : Rd w A (bs l)) :
    Calls Tryz.prog 31 #[.slice A n c] w (RTk l w) := by
  have hzr := Blk.new w 52 #[.int .i64 0, .int .u8 0, .slice none 0 0, .string ⟨#[]⟩, .int .u8 0, .string ⟨#[]⟩]
  have hba : Below w.heap.size w (w.alloc (.cells #[.int .i64 0, .int .u8 0, .slice none 0 0, .string ⟨#[]⟩, .int .u8 0, .string ⟨#[]⟩] 52)) := (Below.refl _ w).alloc (Nat.le_refl _) _
  have hcv0 : (convert 27 9 (.slice A n c)).run Tryz.prog (w.alloc (.cells #[.int .i64 0, .int .u8 0, .slice none 0 0, .string ⟨#[]⟩, .int .u8 0, .string ⟨#[]⟩] 52)) = .ok (.string ⟨l.toArray⟩) (w.alloc (.cells #[.int .i64 0, .int .u8 0, .slice none 0 0, .string ⟨#[]⟩, .int .u8 0, .string ⟨#[]⟩] 52)) := conv_str Tryz.underlying27 Tryz.underlying5 hn (hr.below hba) _ Tryz.underlying9
  have HN := Lib.hid hn
  go_enter Tryz.func31, Tryz.ntmps31
  go_wp2_with fail
  refine (guessW_any l _ (by omega)).mono ?_
  rintro e w1 ⟨he, hb⟩
  clear hn hcv0
  have hzr1 := hzr.below hb hzr.lt
  have hbw1 := hba.trans (hb.mono hba.size)
  clear hzr hba hb
  cases hg : guessS l with
  | none =>
    rw [hg] at he
    obtain ⟨k, b, f, A0, n0, c0, x, y, rfl⟩ := he
    have HT := Lib.hid (show takeS l = none by unfold takeS; rw [hg])
    have hz2 := hzr1.alloc (.cells #[.int .i64 k, .int .u8 b, .slice A0 n0 c0, .string x, .int .u8 f, .string y] 52)
    have hb2 := hbw1.alloc hbw1.size (.cells #[.int .i64 k, .int .u8 b, .slice A0 n0 c0, .string x, .int .u8 f, .string y] 52)
    clear hg hzr1 hbw1
    go_upto_region 2 with (fail)
    generalize w1.alloc (.cells #[.int .i64 k, .int .u8 b, .slice A0 n0 c0, .string x, .int .u8 f, .string y] 52) = W2 at *
    obtain ⟨d0, d1, d2, d3, d4, d5⟩ := Blk.cells6 hz2
    have z0 := hz2.frozen 0
    have z1 := hz2.frozen 1
    have z2 := hz2.frozen 2
    have z3 := hz2.frozen 3
    have z4 := hz2.frozen 4
    have z5 := hz2.frozen 5
    go_wp2_with fail
    refine bodyPost_ret (v := .tuple #[zeroS, .int .i64 0, .int .i64 2]) (by simp [results, Tryz.results31, go_sem, zeroS, d0, d1, d2, d3, d4, d5]) rfl (rt_no HT.out (below_set6 hb2 (Nat.le_refl _) _ _ _ _ _ _))
  | some qm =>
    obtain ⟨q, m⟩ := qm
    rw [hg] at he
    obtain ⟨A1, c1, gg, rfl, hr1⟩ := he
    obtain ⟨p1, p2⟩ := guess_len hg
    rw [HN.out] at p1 p2
    have HQ := Lib.hid hg
    have hbx := Blk.new w1 52 (seqC q A1 c1)
    have hz2 := hzr1.alloc (.cells (seqC q A1 c1) 52)
    have hr2 := hr1.below ((Below.refl _ w1).alloc (Nat.le_refl _) (.cells (seqC q A1 c1) 52))
    have hb2 := hbw1.alloc hbw1.size (.cells (seqC q A1 c1) 52)
    have hg12 : w.heap.size ≠ w1.heap.size := Nat.ne_of_lt hzr1.lt
    unfold seqC at hbx hz2 hr2 hb2
    clear hg hzr1 hr1 hbw1
    unfold sqV
    go_upto_region 2 with (fail)
    generalize hgg : w1.heap.size = g at *
    generalize w1.alloc (.cells #[.int .i64 q.kind, .int .u8 (q.priv.toNat : Int), .slice A1 q.params.length c1, .string ⟨q.inter.toArray⟩, .int .u8 (q.final.toNat : Int), .string ⟨q.data.toArray⟩] 52) = W2 at *
    clear hgg
    have k0 : ¬ (m : Int) < 0 := by omega
    by_cases hmn : m ≤ n
    · have k1 : ¬ (n : Int) < (m : Int) := by omega
      obtain ⟨mm, hmm⟩ : ∃ x, mayS q = x := ⟨_, rfl⟩
      obtain ⟨T, hT⟩ : ∃ x, putE q = x := ⟨_, rfl⟩
      have HM := Lib.hid hmm
      have HP := Lib.hid hT
      obtain ⟨a0, a1, a2, a3, a4, a5⟩ := Blk.cells6 hbx
      clear hmm hT
      go_wp2_with fail
      refine (rputE_any q A1 c1 mm T _ HM.out HP.out (by omega) (by omega) hr2.rdp).mono ?_
      rintro e w3 ⟨⟨A2, c2, rfl, hc2, hr3⟩, hb⟩
      have hbx3 := hbx.below hb hbx.lt
      have hz3 := hz2.below hb hz2.lt
      have hr23 := hr2.below hb
      have hb3 := hb2.trans (hb.mono hb2.size)
      clear hbx hz2 hr2 hb2 hb a0 a1 a2 a3 a4 a5
      obtain ⟨d0, d1, d2, d3, d4, d5⟩ := Blk.cells6 hz3
      have z0 := hz3.frozen 0
      have z1 := hz3.frozen 1
      have z2 := hz3.frozen 2
      have z3 := hz3.frozen 3
      have z4 := hz3.frozen 4
      have z5 := hz3.frozen 5
      by_cases h0 : mm = 0
      · subst h0
        have hr3d : Rd w3.drew A2 (bs T) := hr3
        have hcvT : (convert 27 9 (.slice A2 T.length c2)).run Tryz.prog w3.drew = .ok (.string ⟨T.toArray⟩) w3.drew := conv_str (P := Tryz.prog) Tryz.underlying27 Tryz.underlying5 rfl hr3d 9 Tryz.underlying9
        obtain ⟨A8, hcut, hrd⟩ := cut_hi (P := Tryz.prog) (T := 27) (e := 5) (by kernel_rfl) Tryz.underlying27 Tryz.sizeOf5 A n c m hmn hlc
        have hr8 : Rd w3.drew A8 (bs (l.take m)) := hrd w3.drew l HN.out (hr.below hb3.drew)
        obtain ⟨L, hL⟩ : ∃ L, l.take m = L := ⟨_, rfl⟩
        have hLm : L.length = m := by rw [← hL, List.length_take, HN.out]; omega
        have HL := Lib.hid hL
        rw [hL] at hr8
        have hcvL : (convert 27 9 (.slice A8 m c)).run Tryz.prog w3.drew = .ok (.string ⟨L.toArray⟩) w3.drew := conv_str (P := Tryz.prog) Tryz.underlying27 Tryz.underlying5 hLm hr8 9 Tryz.underlying9
        obtain ⟨nT, hnT⟩ : ∃ x, T.length = x := ⟨_, rfl⟩
        rw [hnT] at hcvT hc2 ⊢
        clear hrd hr3 hr3d hr8 hL hLm hnT
        by_cases hE : T = L
        · subst hE
          have HT := Lib.hid (show takeS l = some (q, m) by
            unfold takeS; rw [HQ.out]; dsimp only
            rw [if_pos ⟨by rw [HN.out]; exact hmn, HM.out, by rw [HL.out, ← HP.out, putE_0 HM.out]⟩])
          obtain ⟨a0, a1, a2, a3, a4, a5⟩ := Blk.cells6 hbx3
          go_wp2_with fail
          go_region
          all_goals
            have h7 := (hr23.other hz3 (by decide) (by decide) (grown_set6 w3 w.heap.size (.int .i64 q.kind) (.int .u8 (q.priv.toNat : Int)) (.slice A1 q.params.length c1) (.string ⟨q.inter.toArray⟩) (.int .u8 (q.final.toNat : Int)) (.string ⟨q.data.toArray⟩))).rdp
            have h8 := below_set6 hb3 (Nat.le_refl w.heap.size) (.int .i64 q.kind) (.int .u8 (q.priv.toNat : Int)) (.slice A1 q.params.length c1) (.string ⟨q.inter.toArray⟩) (.int .u8 (q.final.toNat : Int)) (.string ⟨q.data.toArray⟩)
            go_wp2_with fail
            refine bodyPost_ret (v := .tuple #[sqV q A1 c1, .int .i64 (m : Int), .int .i64 0]) (by simp [results, Tryz.results31, go_sem, sqV, d0, d1, d2, d3, d4, d5]) rfl (rt_yes HT.out (rdp_drew h7) h8.drew)
        · have HT := Lib.hid (show takeS l = none by
            unfold takeS; rw [HQ.out]; dsimp only
            rw [if_neg]; exact fun h => hE (by rw [← HP.out, putE_0 HM.out, h.2.2, HL.out]))
          have hE2 : (T == L) = false := beq_false_of_ne hE
          clear hE
          go_wp2_with fail
          go_region
          all_goals
            have h8 := below_set6 hb3 (Nat.le_refl w.heap.size) (.int .i64 0) (.int .u8 0) (.slice none 0 0) (.string ⟨#[]⟩) (.int .u8 0) (.string ⟨#[]⟩)
            go_wp2_with fail
            refine bodyPost_ret (v := .tuple #[zeroS, .int .i64 0, .int .i64 2]) (by simp [results, Tryz.results31, go_sem, zeroS, d0, d1, d2, d3, d4, d5]) rfl (rt_no HT.out h8.drew)
      · have t1 : (mm == 0) = false := beq_false_of_ne h0
        have t2 : (mm != 0) = true := by simp [bne, t1]
        have HT := Lib.hid (show takeS l = none by unfold takeS; rw [HQ.out]; dsimp only; rw [if_neg]; exact fun h => h0 (HM.out.symm.trans h.2.1))
        clear h0
        go_wp2_with fail
        go_region
        all_goals
          have h8 := below_set6 hb3 (Nat.le_refl w.heap.size) (.int .i64 0) (.int .u8 0) (.slice none 0 0) (.string ⟨#[]⟩) (.int .u8 0) (.string ⟨#[]⟩)
          go_wp2_with fail
          refine bodyPost_ret (v := .tuple #[zeroS, .int .i64 0, .int .i64 2]) (by simp [results, Tryz.results31, go_sem, zeroS, d0, d1, d2, d3, d4, d5]) rfl (rt_no HT.out h8.drew)
    · have k1 : (n : Int) < (m : Int) := by omega
      have HT := Lib.hid (show takeS l = none by unfold takeS; rw [HQ.out]; dsimp only; rw [if_neg]; rw [HN.out]; exact fun h => hmn h.1)
      obtain ⟨d0, d1, d2, d3, d4, d5⟩ := Blk.cells6 hz2
      have z0 := hz2.frozen 0
      have z1 := hz2.frozen 1
      have z2 := hz2.frozen 2
      have z3 := hz2.frozen 3
      have z4 := hz2.frozen 4
      have z5 := hz2.frozen 5
      go_wp2_with fail
      refine bodyPost_ret (v := .tuple #[zeroS, .int .i64 0, .int .i64 2]) (by simp [results, Tryz.results31, go_sem, zeroS, d0, d1, d2, d3, d4, d5]) rfl (rt_no HT.out (below_set6 hb2 (Nat.le_refl _) _ _ _ _ _ _))
end Go.Proofs.YtmagokkegadmiaaGreatDoor
namespace Go.Proofs.YtmagokkegadmiaaGreatDoor
open Go.RowKit

theorem backP_three {l : List (List Int)} (h : l.length ≠ 3) : backP l = (0, 0, false) := by
  unfold backP
  split
  · exact absurd rfl h
  · rfl
theorem backP_one {l : List (List Int)} {i : Nat} {q : List Int} (h : l[i]? = some q) (h1 : q.length ≠ 1) : backP l = (0, 0, false) := by
  unfold backP
  split
  · exfalso
    match i, h with
    | 0, h => simp at h; subst h; exact h1 rfl
    | 1, h => simp at h; subst h; exact h1 rfl
    | 2, h => simp at h; subst h; exact h1 rfl
    | k + 3, h => simp at h
  · rfl
theorem three_of {l : List (List Int)} (h : l.length = 3) (h1 : ∀ i (hi : i < l.length), (l[i]).length = 1) : ∃ a p c, l = [[a], [p], [c]] := by
  match l, h with
  | [x, y, z], _ =>
    have e0 : x.length = 1 := h1 0 (by simp)
    have e1 : y.length = 1 := h1 1 (by simp)
    have e2 : z.length = 1 := h1 2 (by simp)
    match x, y, z, e0, e1, e2 with
    | [a], [p], [c], _, _, _ => exact ⟨a, p, c, rfl⟩
theorem bare_string {l : List UInt8} : (⟨l.toArray⟩ : ByteArray).toList.isEmpty = decide (l = []) := by
  rw [ByteArray.toList_eq]
  cases l <;> simp
theorem backS_no {s : Sq} {m n : Nat} (h : ¬ (m = n ∧ s.kind = 1 ∧ s.final = 126 ∧ s.priv = 0 ∧ s.inter = [])) : backS s m n = (0, 0, false) := if_neg h
theorem backS_yes {s : Sq} {m n : Nat} (h : m = n ∧ s.kind = 1 ∧ s.final = 126 ∧ s.priv = 0 ∧ s.inter = []) : backS s m n = backP s.params := if_pos h
theorem backP_val (a p c : Int) : backP [[a], [p], [c]] = if a = 27 ∧ 2 ≤ p ∧ p ≤ 8 ∧ 0 ≤ c then (c, p - 1, true) else (0, 0, false) := rfl
theorem u8_int {x : UInt8} {k : Nat} (hk : k < 256) : ((x.toNat : Int) == (k : Int)) = decide (x = UInt8.ofNat k) := by
  rw [Bool.eq_iff_iff]
  simp only [beq_iff_eq, decide_eq_true_eq]
  constructor
  · intro h
    have h2 : x.toNat = k := by omega
    rw [← h2]; simp
  · intro h
    subst h
    have : (UInt8.ofNat k).toNat = k := by simp [UInt8.toNat_ofNat']; omega
    omega
set_option maxRecDepth 100000 in
set_option maxHeartbeats 16000000 in
theorem rback_any (A : Option Addr) (n c : Nat) (l : List UInt8) (w : World) (hn : l.length = n) (hlc : n ≤ c) (hl : n ≤ 4294967) (hr : Rd w A (bs l)) :
    Calls Tryz.prog 12 #[.slice A n c] w (BkE (backO l) w) := by
  obtain ⟨R, hR⟩ : ∃ R, backO l = R := ⟨_, rfl⟩
  have htk := rtakeW_any A n c l w hn hlc hl hr
  have HR := Lib.hid hR
  rw [hR]
  have HN := Lib.hid hn
  clear hR hr hl hlc hn
  go_enter Tryz.func12, Tryz.ntmps12
  go_wp2_with fail
  refine htk.mono ?_
  clear htk
  rintro e w1 ⟨he, hb1⟩
  cases ht : takeS l with
  | none =>
    rw [ht] at he
    subst he
    have HE := Lib.hid (show R = (0, 0, false) by rw [← HR.out]; unfold backO; rw [ht])
    have hB1 := hb1.alloc hb1.size (.cells #[.int .i64 0, .int .u8 0, .slice none 0 0, .string ⟨#[]⟩, .int .u8 0, .string ⟨#[]⟩] 52)
    clear HR ht
    unfold zeroS
    go_wp2_with fail
    refine bodyPost_ret (v := .tuple #[.int .i64 0, .int .i64 0, .bool false]) (by simp [results, Tryz.results12, go_sem]) rfl (BkE.no HE.out hB1)
  | some x =>
    obtain ⟨s, m⟩ := x
    rw [ht] at he
    obtain ⟨A1, c1, rfl, hr1⟩ := he
    have HR2 := Lib.hid (show R = backS s m n by rw [← HR.out]; unfold backO; rw [ht, HN.out])
    obtain ⟨kind, priv, ps, inter, fin, data⟩ := s
    simp only at hr1
    unfold sqV
    have k0 := Blk.new w1 52 #[.int .i64 kind, .int .u8 (priv.toNat : Int), .slice A1 ps.length c1, .string ⟨inter.toArray⟩, .int .u8 (fin.toNat : Int), .string ⟨data.toArray⟩]
    have hB1 := hb1.alloc hb1.size (.cells #[.int .i64 kind, .int .u8 (priv.toNat : Int), .slice A1 ps.length c1, .string ⟨inter.toArray⟩, .int .u8 (fin.toNat : Int), .string ⟨data.toArray⟩] 52)
    have hr2 := hr1.alloc (.cells #[.int .i64 kind, .int .u8 (priv.toNat : Int), .slice A1 ps.length c1, .string ⟨inter.toArray⟩, .int .u8 (fin.toNat : Int), .string ⟨data.toArray⟩] 52)
    obtain ⟨P8, hP8⟩ : ∃ x : Int, (priv.toNat : Int) = x := ⟨_, rfl⟩
    obtain ⟨F8, hF8⟩ : ∃ x : Int, (fin.toNat : Int) = x := ⟨_, rfl⟩
    obtain ⟨IT, hIT⟩ : ∃ x : ByteArray, (⟨inter.toArray⟩ : ByteArray) = x := ⟨_, rfl⟩
    obtain ⟨DA, hDA⟩ : ∃ x : ByteArray, (⟨data.toArray⟩ : ByteArray) = x := ⟨_, rfl⟩
    obtain ⟨np, hnp⟩ : ∃ x : Nat, ps.length = x := ⟨_, rfl⟩
    have HI := Lib.hid (show IT.toList.isEmpty = decide (inter = []) by rw [← hIT]; exact bare_string)
    have HP := Lib.hid (show (P8 == 0) = decide (priv = 0) by rw [← hP8]; exact u8_int (k := 0) (by decide))
    have HF := Lib.hid (show (F8 == 126) = decide (fin = 126) by rw [← hF8]; exact u8_int (k := 126) (by decide))
    have HNP := Lib.hid hnp
    rw [hP8, hF8, hIT, hDA, hnp] at k0 hB1 hr2
    rw [hP8, hF8, hIT, hDA, hnp]
    clear hP8 hF8 hIT hDA hnp hr1 hb1 HR ht
    obtain ⟨a0, a1, a2, a3, a4, a5⟩ := Blk.cells6 k0
    by_cases hm : m = n
    rotate_left
    · have t0 : ((m : Int) == (n : Int)) = false := beq_false_of_ne (by omega)
      have t1 : ((m : Int) != (n : Int)) = true := by simp [bne, t0]
      have HM := Lib.hid hm
      clear hm
      have HE := Lib.hid (show R = (0, 0, false) by rw [HR2.out]; exact backS_no (by rintro ⟨h1, h2, h3, h4, h5⟩; exact HM.out h1))
      go_wp2_with fail
      refine bodyPost_ret (v := .tuple #[.int .i64 0, .int .i64 0, .bool false]) (by simp [results, Tryz.results12, go_sem]) rfl (BkE.no HE.out hB1)
    subst hm
    by_cases hk : kind = 1
    rotate_left
    · have t0 : (kind == 1) = false := beq_false_of_ne hk
      have t1 : (kind != 1) = true := by simp [bne, t0]
      have HM := Lib.hid hk
      clear hk
      have HE := Lib.hid (show R = (0, 0, false) by rw [HR2.out]; exact backS_no (by rintro ⟨h1, h2, h3, h4, h5⟩; exact HM.out h2))
      go_wp2_with fail
      refine bodyPost_ret (v := .tuple #[.int .i64 0, .int .i64 0, .bool false]) (by simp [results, Tryz.results12, go_sem]) rfl (BkE.no HE.out hB1)
    subst hk
    by_cases hf : fin = 126
    rotate_left
    · have t0 : (F8 == 126) = false := by rw [HF.out]; exact decide_eq_false hf
      have t1 : (F8 != 126) = true := by simp [bne, t0]
      have HM := Lib.hid hf
      clear hf
      have HE := Lib.hid (show R = (0, 0, false) by rw [HR2.out]; exact backS_no (by rintro ⟨h1, h2, h3, h4, h5⟩; exact HM.out h3))
      go_wp2_with fail
      refine bodyPost_ret (v := .tuple #[.int .i64 0, .int .i64 0, .bool false]) (by simp [results, Tryz.results12, go_sem]) rfl (BkE.no HE.out hB1)
    have tf0 : (F8 == 126) = true := by rw [HF.out]; exact decide_eq_true hf
    have tf1 : (F8 != 126) = false := by simp [bne, tf0]
    by_cases hp : priv = 0
    rotate_left
    · have t0 : (P8 == 0) = false := by rw [HP.out]; exact decide_eq_false hp
      have t1 : (P8 != 0) = true := by simp [bne, t0]
      have HM := Lib.hid hp
      clear hp hf
      have HE := Lib.hid (show R = (0, 0, false) by rw [HR2.out]; exact backS_no (by rintro ⟨h1, h2, h3, h4, h5⟩; exact HM.out h4))
      go_wp2_with fail
      refine bodyPost_ret (v := .tuple #[.int .i64 0, .int .i64 0, .bool false]) (by simp [results, Tryz.results12, go_sem]) rfl (BkE.no HE.out hB1)
    have tp0 : (P8 == 0) = true := by rw [HP.out]; exact decide_eq_true hp
    have tp1 : (P8 != 0) = false := by simp [bne, tp0]
    by_cases hi : inter = []
    rotate_left
    · have t0 : IT.toList.isEmpty = false := by rw [HI.out]; exact decide_eq_false hi
      have HM := Lib.hid hi
      clear hi hp hf
      have HE := Lib.hid (show R = (0, 0, false) by rw [HR2.out]; exact backS_no (by rintro ⟨h1, h2, h3, h4, h5⟩; exact HM.out h5))
      go_wp2_with fail
      refine bodyPost_ret (v := .tuple #[.int .i64 0, .int .i64 0, .bool false]) (by simp [results, Tryz.results12, go_sem]) rfl (BkE.no HE.out hB1)
    have ti0 : IT.toList.isEmpty = true := by rw [HI.out]; exact decide_eq_true hi
    have HR3 := Lib.hid (show R = backP ps by rw [HR2.out]; exact backS_yes ⟨rfl, rfl, hf, hp, hi⟩)
    clear hf hp hi HR2
    by_cases h3 : np = 3
    rotate_left
    · have t0 : ((np : Int) == 3) = false := beq_false_of_ne (by omega)
      have t1 : ((np : Int) != 3) = true := by simp [bne, t0]
      have HE := Lib.hid (show R = (0, 0, false) by rw [HR3.out]; exact backP_three (by rw [HNP.out]; exact h3))
      clear h3
      go_wp2_with fail
      refine bodyPost_ret (v := .tuple #[.int .i64 0, .int .i64 0, .bool false]) (by simp [results, Tryz.results12, go_sem]) rfl (BkE.no HE.out hB1)
    subst h3
    go_wp2_with fail
    generalize w1.alloc (.cells #[.int .i64 1, .int .u8 P8, .slice A1 3 c1, .string IT, .int .u8 F8, .string DA] 52) = W0 at *
    go_loopw [8] (fun z wr => ∃ i : Nat, i ≤ 3 ∧ z = .int .i64 i ∧ (∀ j, j < i → ∀ q, ps[j]? = some q → q.length = 1) ∧ Below W0.heap.size W0 wr) (fun z _ => 3 - (intOf z).toNat)
    case atStart => exact ⟨0, by omega, rfl, fun j hj => absurd hj (Nat.not_lt_zero _), Below.refl _ _⟩
    case round =>
      obtain ⟨i, hi, rfl, hall, hbw⟩ := hrel
      have HA := Lib.hid hall
      have k1 := k0.below hbw k0.lt
      have hB2 := hB1.trans (hbw.mono hB1.size)
      have hbw2 := hbw
      have hr3 := hr2.below hbw
      clear hall a0 a1 a2 a3 a4 a5 k0 hB1 hr2 hbw
      have a2 := k1.cell 2
      by_cases hlt : i < 3
      · have hil : i < ps.length := by rw [HNP.out]; exact hlt
        obtain ⟨b, o, rfl, hbl, hcc⟩ := hr3 (by omega)
        obtain ⟨A', c', hci, hqr⟩ := hcc i hil
        have hg := List.getElem?_eq_getElem hil
        obtain ⟨q, hq⟩ : ∃ q, ps[i]'hil = q := ⟨_, rfl⟩
        rw [hq] at hci hg
        have HG := Lib.hid hg
        obtain ⟨nq, hnq⟩ : ∃ x : Nat, q.length = x := ⟨_, rfl⟩
        rw [hnq] at hci
        have HQ := Lib.hid hnq
        have g0 : (0 : Int) ≤ (i : Int) := by omega
        have g1 : (i : Int) < 3 := by omega
        clear hcc hqr hq hg hnq hil
        by_cases h1 : nq = 1
        · have t0 : ((nq : Int) == 1) = true := by subst h1; rfl
          have t1 : ((nq : Int) != 1) = false := by simp [bne, t0]
          have H1 := Lib.hid h1
          clear h1
          go_wp2_with fail
          go_roundw
          case rel =>
            refine ⟨i + 1, by omega, by go_num, fun j hj q' hq' => ?_, hbw2⟩
            by_cases e : j = i
            · subst e
              rw [HG.out] at hq'
              cases hq'
              rw [HQ.out, H1.out]
            · exact HA.out j (by omega) q' hq'
          case measure => simp [intOf]; omega
        · have t0 : ((nq : Int) == 1) = false := beq_false_of_ne (by omega)
          have t1 : ((nq : Int) != 1) = true := by simp [bne, t0]
          have HE := Lib.hid (show R = (0, 0, false) by rw [HR3.out]; exact backP_one HG.out (by rw [HQ.out]; exact h1))
          clear h1
          go_wp2_with fail
          refine bodyPost_ret (v := .tuple #[.int .i64 0, .int .i64 0, .bool false]) (by simp [results, Tryz.results12, go_sem]) rfl (BkE.no HE.out hB2)
      · obtain ⟨a, pp, cc, rfl⟩ := three_of (l := ps) (by rw [HNP.out]) (fun j hj => HA.out j (by rw [HNP.out] at hj; omega) _ (List.getElem?_eq_getElem hj))
        obtain ⟨b, o, rfl, hbl, hcc⟩ := hr3 (by simp)
        obtain ⟨Aa, ca, hca, hra⟩ := hcc 0 (by simp)
        obtain ⟨Ab, cb, hcb, hrb⟩ := hcc 1 (by simp)
        obtain ⟨Ac, cd, hcd, hrc⟩ := hcc 2 (by simp)
        obtain ⟨b0, o0, rfl, hb0, hv0⟩ := Rd.int_at hra (by simp)
        obtain ⟨b1, o1, rfl, hb1, hv1⟩ := Rd.int_at hrb (by simp)
        obtain ⟨b2, o2, rfl, hb2, hv2⟩ := Rd.int_at hrc (by simp)
        have v0 := hv0 0 (by simp)
        have v1 := hv1 0 (by simp)
        have v2 := hv2 0 (by simp)
        simp only [List.getElem_cons_zero, List.getElem_cons_succ, List.length_cons, List.length_nil, Nat.zero_add, Nat.add_zero] at hca hcb hcd v0 v1 v2
        have HV := Lib.hid (show R = if a = 27 ∧ 2 ≤ pp ∧ pp ≤ 8 ∧ 0 ≤ cc then (cc, pp - 1, true) else (0, 0, false) by rw [HR3.out]; exact backP_val a pp cc)
        clear HR3 HA HNP hr3 hcc hra hrb hrc hv0 hv1 hv2 hi
        have g1 : ¬ (i : Int) < 3 := by omega
        by_cases x1 : a = 27
        rotate_left
        · have t0 : (a == 27) = false := beq_false_of_ne x1
          have t1 : (a != 27) = true := by simp [bne, t0]
          have HE := Lib.hid (show R = (0, 0, false) by rw [HV.out, if_neg (fun h => x1 h.1)])
          clear x1 HV
          go_wp2_with fail
          refine bodyPost_ret (v := .tuple #[.int .i64 0, .int .i64 0, .bool false]) (by simp [results, Tryz.results12, go_sem]) rfl (BkE.no HE.out hB2)
        subst x1
        by_cases x2 : pp < 2
        · have HE := Lib.hid (show R = (0, 0, false) by rw [HV.out, if_neg (fun h => by omega)])
          clear HV
          go_wp2_with fail
          refine bodyPost_ret (v := .tuple #[.int .i64 0, .int .i64 0, .bool false]) (by simp [results, Tryz.results12, go_sem]) rfl (BkE.no HE.out hB2)
        by_cases x3 : 8 < pp
        · have HE := Lib.hid (show R = (0, 0, false) by rw [HV.out, if_neg (fun h => by omega)])
          clear HV
          go_wp2_with fail
          refine bodyPost_ret (v := .tuple #[.int .i64 0, .int .i64 0, .bool false]) (by simp [results, Tryz.results12, go_sem]) rfl (BkE.no HE.out hB2)
        by_cases x4 : cc < 0
        · have HE := Lib.hid (show R = (0, 0, false) by rw [HV.out, if_neg (fun h => by omega)])
          clear HV
          go_wp2_with fail
          refine bodyPost_ret (v := .tuple #[.int .i64 0, .int .i64 0, .bool false]) (by simp [results, Tryz.results12, go_sem]) rfl (BkE.no HE.out hB2)
        have HE := Lib.hid (show R = (cc, pp - 1, true) by rw [HV.out, if_pos ⟨rfl, by omega, by omega, by omega⟩])
        have hw : IntKind.i64.wrap (pp - 1) = pp - 1 := by rw [IntKind.wrap_i64]; omega
        clear HV
        go_wp2_with fail
        refine bodyPost_ret (v := .tuple #[.int .i64 cc, .int .i64 (pp - 1), .bool true]) (by simp [results, Tryz.results12, go_sem]) rfl (BkE.yes HE.out hB2)
end Go.Proofs.YtmagokkegadmiaaGreatDoor
namespace Go.Proofs.YtmagokkegadmiaaGreatDoor
open Go.RowKit

variable {Inv : World → Prop}
set_option maxRecDepth 100000 in
set_option maxHeartbeats 16000000 in
theorem otherTypes_walk (H : OthC Inv) (m : Mo) (_ : okM m) (k : Ky) (hk : okK k) (hs : k.text.size ≤ 4294967296) (more : Int) (l0 : 0 ≤ more) (_l1 : more ≤ 255) (w : World) (hv : Inv w) : Calls Tryz.prog 7 #[moV m, kyV k, .int .u8 more] w fun e w' => e = .returned (.bool true) ∧ Below w.heap.size w w' := by
  obtain ⟨v, hmv⟩ : ∃ v, mayK k = v := ⟨_, rfl⟩
  have HM : Hid (∀ W, Calls Tryz.prog 13 #[kyV k] W fun e w' => e = .returned (.bool v) ∧ Below W.heap.size W w') := Lib.hid fun W => by rw [← hmv]; exact rmay10_any k hs W
  have HX : Hid (v = true → 0 ≤ k.mods ∧ k.mods ≤ 255) := Lib.hid fun h => by
    rw [h] at hmv
    obtain ⟨⟨_, y0, y1, _, _⟩, _⟩ := (may_parts k).1 hmv
    exact ⟨y0, y1⟩
  obtain ⟨L, hL⟩ : ∃ L, othL m.other { k with typ := 1 } = L := ⟨_, rfl⟩
  obtain ⟨q, hq⟩ : ∃ q, isO m.other { k with typ := 1 } = q := ⟨_, rfl⟩
  obtain ⟨n, hn⟩ : ∃ n, L.length = n := ⟨_, rfl⟩
  obtain ⟨a, ha⟩ : ∃ a, k.mods % 8 = a := ⟨_, rfl⟩
  obtain ⟨b, hb⟩ : ∃ b, more % 32 = b := ⟨_, rfl⟩
  have i1 : in10 1 := in_lit12 (by decide)
  have i2 : in10 2 := in_lit12 (by decide)
  have i3 : in10 3 := in_lit12 (by decide)
  have im : in10 (a + 8 * b) := ⟨by omega, by omega⟩
  have HE : Hid (v = true → (isO m.other { k with typ := 2, text := ByteArray.empty, mods := a + 8 * b } = q ∧ othL m.other { k with typ := 2, text := ByteArray.empty, mods := a + 8 * b } = L) ∧ isO m.other { k with typ := 3, text := ByteArray.empty, mods := a + 8 * b } = false) := Lib.hid fun h => by
    rw [h] at hmv
    have := oth_types m.other hmv (j := b) (by omega) (by omega)
    rw [ha, hq, hL] at this
    exact this
  have H1 : Hid (∀ W, Inv W → Calls Tryz.prog 9 #[moV m, kyV { k with typ := 1 }] W (OutC L n q W)) := Lib.hid fun W hW => H.key_at m { k with typ := 1 } rfl hL hn hq ⟨hk.code, hk.mods, i1, hk.shift, hk.base⟩ hs W hW
  have H2 : Hid (v = true → ∀ W, Inv W → Calls Tryz.prog 9 #[moV m, kyV { k with typ := 2, text := ByteArray.empty, mods := a + 8 * b }] W (OutC L n q W)) := Lib.hid fun h W hW => H.key_at m { k with typ := 2, text := ByteArray.empty, mods := a + 8 * b } rfl (HE.out h).1.2 hn (HE.out h).1.1 ⟨hk.code, im, i2, hk.shift, hk.base⟩ (by simp) W hW
  have H3 : Hid (v = true → ∀ W, Inv W → Calls Tryz.prog 9 #[moV m, kyV { k with typ := 3, text := ByteArray.empty, mods := a + 8 * b }] W (OutC [] 0 false W)) := Lib.hid fun h W hW => H.key_at m { k with typ := 3, text := ByteArray.empty, mods := a + 8 * b } rfl (othL_no (HE.out h).2) rfl (HE.out h).2 ⟨hk.code, im, i3, hk.shift, hk.base⟩ (by simp) W hW
  have HN := Lib.hid hn
  have r1 : 0 ≤ a ∧ a < 8 := by omega
  have r2 : 0 ≤ b ∧ b < 32 := by omega
  have q2 : Int.tmod more 32 = b := by rw [← hb]; exact Int.tmod_eq_emod_of_nonneg l0
  have HA := Lib.hid ha
  clear hmv hk hs hL hn hq ha hb im HE
  simp only [moV, kyV] at HM H1 H2 H3 ⊢
  obtain ⟨code, mods, typ, shift, base, text⟩ := k
  obtain ⟨m0, m1, m2, m3, m4, m5, m6, m7, m8, m9⟩ := m
  simp only at HM H1 H2 H3 HX HA
  have hB : Below w.heap.size w ((w.alloc (.cells #[.bool m0, .bool m1, .bool m2, .bool m3, .bool m4, .bool m5, .bool m6, .int .i64 m7, .int .i64 m8, .int .i64 m9] 23)).alloc (.cells #[.int .i64 code, .int .i64 mods, .int .i64 typ, .int .i64 shift, .int .i64 base, .string text] 25)) := ((Below.refl _ w).alloc (Nat.le_refl _) _).alloc (by simp) _
  have a0 := (Blk.new w 23 #[.bool m0, .bool m1, .bool m2, .bool m3, .bool m4, .bool m5, .bool m6, .int .i64 m7, .int .i64 m8, .int .i64 m9]).alloc (.cells #[.int .i64 code, .int .i64 mods, .int .i64 typ, .int .i64 shift, .int .i64 base, .string text] 25)
  have b0 := Blk.new (w.alloc (.cells #[.bool m0, .bool m1, .bool m2, .bool m3, .bool m4, .bool m5, .bool m6, .int .i64 m7, .int .i64 m8, .int .i64 m9] 23)) 25 #[.int .i64 code, .int .i64 mods, .int .i64 typ, .int .i64 shift, .int .i64 base, .string text]
  rw [World.size_alloc] at b0
  have hv0 := H.invB hv hB
  go_enter Tryz.func7, Tryz.ntmps7
  go_wp2_with fail
  refine (othAwake H _ hv0).mono ?_
  rintro e w1 ⟨rfl, hb1⟩
  have a1 := a0.below hb1 a0.lt
  have b1 := b0.below hb1 b0.lt
  have hB1 := hB.trans (hb1.mono hB.size)
  clear hv0 a0 b0 hB hb1
  obtain ⟨a0_, a1_, a2_, a3_, a4_, a5_⟩ := Blk.cells6 b1
  go_wp2_with fail
  refine (HM.out _).mono ?_
  rintro e w2 ⟨rfl, hb2⟩
  have mB0 := a1.below hb2 a1.lt
  have kB0 := b1.below hb2 b1.lt
  have hB0 := hB1.trans (hb2.mono hB1.size)
  clear a1 b1 hB1 hb2 a0_ a1_ a2_ a3_ a4_ a5_ HM
  cases v with
  | false =>
    go_wp2_with fail
    go_ret
    exact ⟨rfl, hB0⟩
  | true =>
  have q1 : Int.tmod mods 8 = a := by rw [← HA.out]; exact Int.tmod_eq_emod_of_nonneg (HX.out rfl).1
  have K2 := Lib.hid (H2.out rfl)
  have K3 := Lib.hid (H3.out rfl)
  clear H2 H3 HX HA
  have z0_2 := kB0.frozen 2
  obtain ⟨a0, a1, a2, a3, a4, a5⟩ := Blk.cells6 kB0
  have kB1 : Blk (w2.setCell ⟨w.heap.size + 1, 2, none⟩ (Value.int .i64 1)) (w.heap.size + 1) 25 #[.int .i64 code, .int .i64 mods, .int .i64 1, .int .i64 shift, .int .i64 base, .string text] := kB0.set 2 (Value.int .i64 1)
  have mB1 := mB0.far (a := ⟨w.heap.size + 1, 2, none⟩) (by show w.heap.size ≠ w.heap.size + 1; omega) (Value.int .i64 1)
  have hB1 := hB0.setCell (p := ⟨w.heap.size + 1, 2, none⟩) (by show _ ≤ w.heap.size + 1; omega) (Value.int .i64 1)
  go_upto_region 5 with (fail)
  generalize hW1 : (w2.setCell ⟨w.heap.size + 1, 2, none⟩ (Value.int .i64 1)) = W1 at *
  clear hW1
  have hv1 := H.invB hv hB1
  obtain ⟨a0, a1, a2, a3, a4, a5⟩ := Blk.cells6 kB1
  obtain ⟨c0, c1, c2, c3, c4, c5, c6, c7, c8, c9⟩ := Blk.cells10 mB1
  go_wp2_with fail
  refine (H1.out _ hv1).mono ?_
  rintro e w3 ⟨Ahr, dhr, rfl, _, hr_, b2⟩
  have kB2 := kB1.below b2 kB1.lt
  have mB2 := mB1.below b2 mB1.lt
  have hB2 := hB1.trans (b2.mono hB1.size)
  have hr2 := hr_.off_key kB2 rfl
  clear hr_
  clear a0 a1 a2 a3 a4 a5 c0 c1 c2 c3 c4 c5 c6 c7 c8 c9 kB1 mB1 hv1
  have z2_2 := kB2.frozen 2
  obtain ⟨a0, a1, a2, a3, a4, a5⟩ := Blk.cells6 kB2
  have kB3 : Blk (w3.setCell ⟨w.heap.size + 1, 2, none⟩ (Value.int .i64 2)) (w.heap.size + 1) 25 #[.int .i64 code, .int .i64 mods, .int .i64 2, .int .i64 shift, .int .i64 base, .string text] := kB2.set 2 (Value.int .i64 2)
  have mB3 := mB2.far (a := ⟨w.heap.size + 1, 2, none⟩) (by show w.heap.size ≠ w.heap.size + 1; omega) (Value.int .i64 2)
  have hr3 := hr2.fr (Fr.setCell _ (w.heap.size + 1) 2 (Value.int .i64 2) _ rfl) (Wid.refl _ _)
  have hB3 := hB2.setCell (p := ⟨w.heap.size + 1, 2, none⟩) (by show _ ≤ w.heap.size + 1; omega) (Value.int .i64 2)
  have z3_5 := kB3.frozen 5
  obtain ⟨a0, a1, a2, a3, a4, a5⟩ := Blk.cells6 kB3
  have kB4 : Blk ((w3.setCell ⟨w.heap.size + 1, 2, none⟩ (Value.int .i64 2)).setCell ⟨w.heap.size + 1, 5, none⟩ (Value.string ⟨#[]⟩)) (w.heap.size + 1) 25 #[.int .i64 code, .int .i64 mods, .int .i64 2, .int .i64 shift, .int .i64 base, .string ⟨#[]⟩] := kB3.set 5 (Value.string ⟨#[]⟩)
  have mB4 := mB3.far (a := ⟨w.heap.size + 1, 5, none⟩) (by show w.heap.size ≠ w.heap.size + 1; omega) (Value.string ⟨#[]⟩)
  have hr4 := hr3.fr (Fr.setCell _ (w.heap.size + 1) 5 (Value.string ⟨#[]⟩) _ rfl) (Wid.refl _ _)
  have hB4 := hB3.setCell (p := ⟨w.heap.size + 1, 5, none⟩) (by show _ ≤ w.heap.size + 1; omega) (Value.string ⟨#[]⟩)
  have z4_1 := kB4.frozen 1
  obtain ⟨a0, a1, a2, a3, a4, a5⟩ := Blk.cells6 kB4
  have kB5 : Blk (((w3.setCell ⟨w.heap.size + 1, 2, none⟩ (Value.int .i64 2)).setCell ⟨w.heap.size + 1, 5, none⟩ (Value.string ⟨#[]⟩)).setCell ⟨w.heap.size + 1, 1, none⟩ (Value.int .i64 (a + 8 * b))) (w.heap.size + 1) 25 #[.int .i64 code, .int .i64 (a + 8 * b), .int .i64 2, .int .i64 shift, .int .i64 base, .string ⟨#[]⟩] := kB4.set 1 (Value.int .i64 (a + 8 * b))
  have mB5 := mB4.far (a := ⟨w.heap.size + 1, 1, none⟩) (by show w.heap.size ≠ w.heap.size + 1; omega) (Value.int .i64 (a + 8 * b))
  have hr5 := hr4.fr (Fr.setCell _ (w.heap.size + 1) 1 (Value.int .i64 (a + 8 * b)) _ rfl) (Wid.refl _ _)
  have hB5 := hB4.setCell (p := ⟨w.heap.size + 1, 1, none⟩) (by show _ ≤ w.heap.size + 1; omega) (Value.int .i64 (a + 8 * b))
  go_upto_region 9 with (fail)
  generalize hW5 : (((w3.setCell ⟨w.heap.size + 1, 2, none⟩ (Value.int .i64 2)).setCell ⟨w.heap.size + 1, 5, none⟩ (Value.string ⟨#[]⟩)).setCell ⟨w.heap.size + 1, 1, none⟩ (Value.int .i64 (a + 8 * b))) = W5 at *
  clear hW5
  have hv5 := H.invB hv hB5
  obtain ⟨a0, a1, a2, a3, a4, a5⟩ := Blk.cells6 kB5
  obtain ⟨c0, c1, c2, c3, c4, c5, c6, c7, c8, c9⟩ := Blk.cells10 mB5
  go_wp2_with fail
  refine (K2.out _ hv5).mono ?_
  rintro e w4 ⟨Ahs, dhs, rfl, _, hs_, b6⟩
  have kB6 := kB5.below b6 kB5.lt
  have mB6 := mB5.below b6 mB5.lt
  have hB6 := hB5.trans (b6.mono hB5.size)
  have hr6 := hr5.below' b6
  have hs6 := hs_.off_key kB6 rfl
  clear hs_
  clear a0 a1 a2 a3 a4 a5 c0 c1 c2 c3 c4 c5 c6 c7 c8 c9 kB5 mB5 hv5
  have z6_2 := kB6.frozen 2
  obtain ⟨a0, a1, a2, a3, a4, a5⟩ := Blk.cells6 kB6
  have kB7 : Blk (w4.setCell ⟨w.heap.size + 1, 2, none⟩ (Value.int .i64 3)) (w.heap.size + 1) 25 #[.int .i64 code, .int .i64 (a + 8 * b), .int .i64 3, .int .i64 shift, .int .i64 base, .string ⟨#[]⟩] := kB6.set 2 (Value.int .i64 3)
  have mB7 := mB6.far (a := ⟨w.heap.size + 1, 2, none⟩) (by show w.heap.size ≠ w.heap.size + 1; omega) (Value.int .i64 3)
  have hr7 := hr6.fr (Fr.setCell _ (w.heap.size + 1) 2 (Value.int .i64 3) _ rfl) (Wid.refl _ _)
  have hs7 := hs6.fr (Fr.setCell _ (w.heap.size + 1) 2 (Value.int .i64 3) _ rfl) (Wid.refl _ _)
  have hB7 := hB6.setCell (p := ⟨w.heap.size + 1, 2, none⟩) (by show _ ≤ w.heap.size + 1; omega) (Value.int .i64 3)
  go_upto_region 11 with (fail)
  generalize hW7 : (w4.setCell ⟨w.heap.size + 1, 2, none⟩ (Value.int .i64 3)) = W7 at *
  clear hW7
  have hv7 := H.invB hv hB7
  obtain ⟨a0, a1, a2, a3, a4, a5⟩ := Blk.cells6 kB7
  obtain ⟨c0, c1, c2, c3, c4, c5, c6, c7, c8, c9⟩ := Blk.cells10 mB7
  go_wp2_with fail
  refine (K3.out _ hv7).mono ?_
  rintro e w5 ⟨Ahu, dhu, rfl, _, hu_, b8⟩
  have kB8 := kB7.below b8 kB7.lt
  have mB8 := mB7.below b8 mB7.lt
  have hB8 := hB7.trans (b8.mono hB7.size)
  have hr8 := hr7.below' b8
  have hs8 := hs7.below' b8
  have hu8 := hu_.off_key kB8 rfl
  clear hu_
  clear a0 a1 a2 a3 a4 a5 c0 c1 c2 c3 c4 c5 c6 c7 c8 c9 kB7 mB7 hv7
  have s1 := str_bs (c := dhr) HN.out hr8.rd
  have s2 := str_bs (c := dhs) HN.out hs8.rd
  go_wp2_with fail
  go_ret
  exact ⟨ret_b (by simp), hB8⟩
end Go.Proofs.YtmagokkegadmiaaGreatDoor
