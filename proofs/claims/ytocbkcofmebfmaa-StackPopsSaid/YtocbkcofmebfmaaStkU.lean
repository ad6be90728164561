/-
  Layer 8, the document's Put, walked.
-/
import Derived.Test.YtocbkcofmebfmaaStkQ
namespace Go.Proofs.Ytocbkcofmebfmaa
open Go.RowKit

def bN (i : Nat) : Int := ([1, 2, 4, 8, 16, 32] : List Int).getD i 0
theorem bN_in : ∀ i : Nat, i < 5 → 0 < bN i ∧ bN i ≤ 16 ∧ bN (i + 1) = bN i * 2 := by decide
def putP (now f how : Int) (i : Nat) : Int := putL now f how (([1, 2, 4, 8, 16] : List Int).take i)
theorem putP_step (now f how : Int) : ∀ i : Nat, i < 5 → putP now f how (i + 1) = putP now f how i + (if putB now f how (bN i) = true then bN i else 0)
  | 0, _ => by simp [putP, putL, bN]
  | 1, _ => by simp [putP, putL, bN]
  | 2, _ => by simp [putP, putL, bN]; omega
  | 3, _ => by simp [putP, putL, bN]; omega
  | 4, _ => by simp [putP, putL, bN]; omega
theorem putP_rng (now f how : Int) : ∀ i : Nat, i ≤ 5 → 0 ≤ putP now f how i ∧ putP now f how i < bN i
  | 0, _ => ⟨by simp [putP, putL], by simp [putP, putL, bN]⟩
  | i + 1, h => by
    have h1 := putP_rng now f how i (by omega)
    have h2 := putP_step now f how i (by omega)
    have h3 := bN_in i (by omega)
    rw [h2, h3.2.2]
    split <;> omega
section
variable {S : Nat → Prop}
set_option maxRecDepth 100000 in
set_option maxHeartbeats 16000000 in
theorem rsput_any (s : St) (A : Option Addr) (n c : Nat) (fl how : Int) (w : World) (hok : okF s.now) (hn : s.kept.length = n) (hnc : n ≤ c) (hr : RdOff w S A (is_ s.kept)) :
    Calls Try.prog 18 #[stV s.now A n c, .int .i64 fl, .int .i64 how] w (StkE S (putS s fl how) w) := by
  obtain ⟨now, kept⟩ := s
  simp only at hn hr hok
  have HN := Lib.hid hn
  have HR := Lib.hid hr
  obtain ⟨f, hf⟩ : ∃ f, flg fl = f := ⟨_, rfl⟩
  have hff : okF f := by rw [← hf]; exact flg_rng fl
  have HP := Lib.hid (show putS ⟨now, kept⟩ fl how = if 1 ≤ how ∧ how ≤ 3 then ⟨putP now f how 5, kept⟩ else ⟨now, kept⟩ by rw [← hf]; rfl)
  have hfl := rflags_any fl (((w.alloc (.cells #[.int .i64 now, .slice A n c] 24)).alloc (.cells #[.int .i64 0, .slice none 0 0] 24)))
  rw [hf] at hfl
  have hx0 : Blk ((w.alloc (.cells #[.int .i64 now, .slice A n c] 24)).alloc (.cells #[.int .i64 0, .slice none 0 0] 24)) w.heap.size 24 #[.int .i64 now, .slice A n c] := (Blk.new w _ _).alloc _
  have hy0 : Blk ((w.alloc (.cells #[.int .i64 now, .slice A n c] 24)).alloc (.cells #[.int .i64 0, .slice none 0 0] 24)) (w.heap.size + 1) 24 #[.int .i64 0, .slice none 0 0] := by
    have := Blk.new (w.alloc (.cells #[.int .i64 now, .slice A n c] 24)) 24 #[.int .i64 0, .slice none 0 0]
    rwa [World.size_alloc] at this
  have hB0 : Below w.heap.size w ((w.alloc (.cells #[.int .i64 now, .slice A n c] 24)).alloc (.cells #[.int .i64 0, .slice none 0 0] 24)) := ((Below.refl _ w).alloc (Nat.le_refl _) _).alloc (by simp) _
  have HQN := Lib.hid hok
  have HQF := Lib.hid hff
  clear hf hn hr hok hff
  rw [stV]
  go_enter Try.func18, Try.ntmps18
  go_wp2_with fail
  refine hfl.mono ?_
  rintro e w1 ⟨rfl, hb1⟩
  have kx1 := hx0.below hb1 hx0.lt
  have ky1 := hy0.below hb1 hy0.lt
  have hbw1 := below_step8 hB0 hb1 hB0.size
  clear hfl hx0 hy0 hB0 hb1
  go_wp2_with fail
  go_loopw [8, 9] (fun s8 s9 wr => ∃ i : Nat, i ≤ 5 ∧ s9 = .int .i64 (bN i) ∧ s8 = .int .i64 (putP now f how i) ∧ Blk wr w.heap.size 24 #[.int .i64 now, .slice A n c] ∧ Blk wr (w.heap.size + 1) 24 #[.int .i64 0, .slice none 0 0] ∧ Below w.heap.size w wr) (fun _ s9 _ => 32 - (intOf s9).toNat)
  case atStart => exact ⟨0, by omega, rfl, rfl, kx1, ky1, hbw1⟩
  case round =>
    clear kx1 ky1 hbw1
    obtain ⟨i, hi, rfl, rfl, kx, ky, hbw⟩ := hrel
    have c0 := kx.cell 0
    by_cases hlt : i < 5
    · obtain ⟨hb0, hb1, hb2⟩ := bN_in i hlt
      have hst := putP_step now f how i hlt
      obtain ⟨hp0, hp1⟩ := putP_rng now f how i (by omega)
      obtain ⟨b, hb⟩ : ∃ b, bN i = b := ⟨_, rfl⟩
      obtain ⟨p, hp⟩ : ∃ p, putP now f how i = p := ⟨_, rfl⟩
      rw [hb] at hb0 hb1 hb2 hst hp1 ⊢
      rw [hp] at hst hp0 hp1 ⊢
      have HST := Lib.hid hst
      clear hst hb hp
      obtain ⟨x, hx⟩ : ∃ x, bitF now b = x := ⟨_, rfl⟩
      obtain ⟨y, hy⟩ : ∃ y, bitF f b = y := ⟨_, rfl⟩
      have hN : ∀ W, Calls Try.prog 26 #[.int .i64 now, .int .i64 b] W fun e w' => e = .returned (.bool x) ∧ Below W.heap.size W w' := fun W => by
        have := rhas_any now b HQN.out.1 HQN.out.2 hb0 hb1 W
        rwa [hx] at this
      have hFf : ∀ W, Calls Try.prog 26 #[.int .i64 f, .int .i64 b] W fun e w' => e = .returned (.bool y) ∧ Below W.heap.size W w' := fun W => by
        have := rhas_any f b HQF.out.1 HQF.out.2 hb0 hb1 W
        rwa [hy] at this
      have hpv : putB now f how b = (how == 2 && (x || y) || how == 3 && x && !y || how == 1 && y) := by
        unfold putB
        rw [hx, hy]
      have t32 : b < 32 := by omega
      clear hx hy
      by_cases k2 : how = 2
      · have hq2 : (how == 2) = true := by simp; omega
        have hq3 : (how == 3) = false := by simp; omega
        have hq1 : (how == 1) = false := by simp; omega
        clear k2
        cases x with
        | true =>
          have HV := Lib.hid (show putB now f how b = true by rw [hpv]; simp [hq2, hq3, hq1])
          clear hpv
          go_wp2_with fail
          refine (hN _).mono ?_
          rintro e w1 ⟨rfl, hk1⟩
          have kx1 := kx.below hk1 kx.lt
          have ky1 := ky.below hk1 ky.lt
          have hbw1 := below_step8 hbw hk1 hbw.size
          go_wp2_with fail
          go_roundw
          case rel => exact ⟨i + 1, by omega, by rw [hb2], by rw [HST.out, if_pos HV.out], kx1, ky1, hbw1⟩
          case measure => simp [intOf]; omega
        | false =>
          cases y with
          | true =>
            have HV := Lib.hid (show putB now f how b = true by rw [hpv]; simp [hq2, hq3, hq1])
            clear hpv
            go_wp2_with fail
            refine (hN _).mono ?_
            rintro e w1 ⟨rfl, hk1⟩
            have kx1 := kx.below hk1 kx.lt
            have ky1 := ky.below hk1 ky.lt
            have hbw1 := below_step8 hbw hk1 hbw.size
            go_wp2_with fail
            refine (hFf _).mono ?_
            rintro e w2 ⟨rfl, hk2⟩
            have kx2 := kx1.below hk2 kx1.lt
            have ky2 := ky1.below hk2 ky1.lt
            have hbw2 := below_step8 hbw1 hk2 hbw1.size
            go_wp2_with fail
            go_roundw
            case rel => exact ⟨i + 1, by omega, by rw [hb2], by rw [HST.out, if_pos HV.out], kx2, ky2, hbw2⟩
            case measure => simp [intOf]; omega
          | false =>
            have HV := Lib.hid (show putB now f how b = false by rw [hpv]; simp [hq2, hq3, hq1])
            clear hpv
            go_wp2_with fail
            refine (hN _).mono ?_
            rintro e w1 ⟨rfl, hk1⟩
            have kx1 := kx.below hk1 kx.lt
            have ky1 := ky.below hk1 ky.lt
            have hbw1 := below_step8 hbw hk1 hbw.size
            go_wp2_with fail
            refine (hFf _).mono ?_
            rintro e w2 ⟨rfl, hk2⟩
            have kx2 := kx1.below hk2 kx1.lt
            have ky2 := ky1.below hk2 ky1.lt
            have hbw2 := below_step8 hbw1 hk2 hbw1.size
            go_wp2_with fail
            go_roundw
            case rel => exact ⟨i + 1, by omega, by rw [hb2], by rw [HST.out, if_neg (by rw [HV.out]; decide)]; simp, kx2, ky2, hbw2⟩
            case measure => simp [intOf]; omega
      · by_cases k3 : how = 3
        · have hq2 : (how == 2) = false := by simp; omega
          have hq3 : (how == 3) = true := by simp; omega
          have hq1 : (how == 1) = false := by simp; omega
          clear k2 k3
          cases x with
          | true =>
            cases y with
            | true =>
              have HV := Lib.hid (show putB now f how b = false by rw [hpv]; simp [hq2, hq3, hq1])
              clear hpv
              go_wp2_with fail
              refine (hN _).mono ?_
              rintro e w1 ⟨rfl, hk1⟩
              have kx1 := kx.below hk1 kx.lt
              have ky1 := ky.below hk1 ky.lt
              have hbw1 := below_step8 hbw hk1 hbw.size
              go_wp2_with fail
              refine (hFf _).mono ?_
              rintro e w2 ⟨rfl, hk2⟩
              have kx2 := kx1.below hk2 kx1.lt
              have ky2 := ky1.below hk2 ky1.lt
              have hbw2 := below_step8 hbw1 hk2 hbw1.size
              go_wp2_with fail
              go_roundw
              case rel => exact ⟨i + 1, by omega, by rw [hb2], by rw [HST.out, if_neg (by rw [HV.out]; decide)]; simp, kx2, ky2, hbw2⟩
              case measure => simp [intOf]; omega
            | false =>
              have HV := Lib.hid (show putB now f how b = true by rw [hpv]; simp [hq2, hq3, hq1])
              clear hpv
              go_wp2_with fail
              refine (hN _).mono ?_
              rintro e w1 ⟨rfl, hk1⟩
              have kx1 := kx.below hk1 kx.lt
              have ky1 := ky.below hk1 ky.lt
              have hbw1 := below_step8 hbw hk1 hbw.size
              go_wp2_with fail
              refine (hFf _).mono ?_
              rintro e w2 ⟨rfl, hk2⟩
              have kx2 := kx1.below hk2 kx1.lt
              have ky2 := ky1.below hk2 ky1.lt
              have hbw2 := below_step8 hbw1 hk2 hbw1.size
              go_wp2_with fail
              go_roundw
              case rel => exact ⟨i + 1, by omega, by rw [hb2], by rw [HST.out, if_pos HV.out], kx2, ky2, hbw2⟩
              case measure => simp [intOf]; omega
          | false =>
            have HV := Lib.hid (show putB now f how b = false by rw [hpv]; simp [hq2, hq3, hq1])
            clear hpv
            go_wp2_with fail
            refine (hN _).mono ?_
            rintro e w1 ⟨rfl, hk1⟩
            have kx1 := kx.below hk1 kx.lt
            have ky1 := ky.below hk1 ky.lt
            have hbw1 := below_step8 hbw hk1 hbw.size
            go_wp2_with fail
            go_roundw
            case rel => exact ⟨i + 1, by omega, by rw [hb2], by rw [HST.out, if_neg (by rw [HV.out]; decide)]; simp, kx1, ky1, hbw1⟩
            case measure => simp [intOf]; omega
        · by_cases k1 : how = 1
          · have hq2 : (how == 2) = false := by simp; omega
            have hq3 : (how == 3) = false := by simp; omega
            have hq1 : (how == 1) = true := by simp; omega
            clear k2 k3 k1
            cases y with
            | true =>
              have HV := Lib.hid (show putB now f how b = true by rw [hpv]; simp [hq2, hq3, hq1])
              clear hpv
              go_wp2_with fail
              refine (hFf _).mono ?_
              rintro e w1 ⟨rfl, hk1⟩
              have kx1 := kx.below hk1 kx.lt
              have ky1 := ky.below hk1 ky.lt
              have hbw1 := below_step8 hbw hk1 hbw.size
              go_wp2_with fail
              go_roundw
              case rel => exact ⟨i + 1, by omega, by rw [hb2], by rw [HST.out, if_pos HV.out], kx1, ky1, hbw1⟩
              case measure => simp [intOf]; omega
            | false =>
              have HV := Lib.hid (show putB now f how b = false by rw [hpv]; simp [hq2, hq3, hq1])
              clear hpv
              go_wp2_with fail
              refine (hFf _).mono ?_
              rintro e w1 ⟨rfl, hk1⟩
              have kx1 := kx.below hk1 kx.lt
              have ky1 := ky.below hk1 ky.lt
              have hbw1 := below_step8 hbw hk1 hbw.size
              go_wp2_with fail
              go_roundw
              case rel => exact ⟨i + 1, by omega, by rw [hb2], by rw [HST.out, if_neg (by rw [HV.out]; decide)]; simp, kx1, ky1, hbw1⟩
              case measure => simp [intOf]; omega
          · have hq2 : (how == 2) = false := by simp; omega
            have hq3 : (how == 3) = false := by simp; omega
            have hq1 : (how == 1) = false := by simp; omega
            clear k2 k3 k1
            have HV := Lib.hid (show putB now f how b = false by rw [hpv]; simp [hq2, hq3, hq1])
            clear hpv
            go_wp2_with fail
            go_roundw
            case rel => exact ⟨i + 1, by omega, by rw [hb2], by rw [HST.out, if_neg (by rw [HV.out]; decide)]; simp, kx, ky, hbw⟩
            case measure => simp [intOf]; omega
    · obtain rfl : i = 5 := by omega
      obtain ⟨hp0, hp1⟩ := putP_rng now f how 5 (by omega)
      rw [show bN 5 = 32 from rfl] at hp1 ⊢
      obtain ⟨p, hp⟩ : ∃ p, putP now f how 5 = p := ⟨_, rfl⟩
      rw [hp] at hp0 hp1 ⊢
      have HPP := Lib.hid hp
      clear hp
      have zx := kx.frozen 0
      have c1 := kx.cell 1
      have zy0 := ky.frozen 0
      have zy1 := ky.frozen 1
      have y0 := ky.cell 0
      have y1 := ky.cell 1
      by_cases hw : 1 ≤ how ∧ how ≤ 3
      · obtain ⟨q1, q2⟩ := hw
        have HE := Lib.hid (show putS ⟨now, kept⟩ fl how = ⟨p, kept⟩ by rw [HP.out, if_pos ⟨q1, q2⟩, HPP.out])
        have xE := kx.set 0 (.int .i64 p)
        have e0 : (wr.setCell ⟨w.heap.size, 0, none⟩ (.int .i64 p)).cell? ⟨w.heap.size, 0, none⟩ = some (.int .i64 p) := xE.cell 0
        have e1 : (wr.setCell ⟨w.heap.size, 0, none⟩ (.int .i64 p)).cell? ⟨w.heap.size, 1, none⟩ = some (.slice A n c) := xE.cell 1
        have yE0 := ky.far (a := ⟨w.heap.size, 0, none⟩) (by show w.heap.size + 1 ≠ w.heap.size; omega) (.int .i64 p)
        have g0 := yE0.frozen 0
        have g1 := yE0.frozen 1
        have g2 := yE0.cell 0
        have g3 := yE0.cell 1
        have yE1 := yE0.set 0 (.int .i64 p)
        have g4 := yE1.cell 0
        have yE2 := yE1.set 1 (.slice A n c)
        have g5 := yE2.cell 0
        have g6 := yE2.cell 1
        have hBE := ((hbw.setCell (p := ⟨w.heap.size, 0, none⟩) (Nat.le_refl _) (.int .i64 p)).setCell (p := ⟨w.heap.size + 1, 0, none⟩) (by simp) (.int .i64 p)).setCell (p := ⟨w.heap.size + 1, 1, none⟩) (by simp) (.slice A n c)
        clear kx ky hbw yE0 yE1 yE2 xE
        go_wp2_with fail
        refine bodyPost_ret (v := stV p A n c) (by simp [results, Try.results18, go_sem, stV, g5, g6]) rfl ?_
        rw [HE.out]
        exact ⟨A, n, c, rfl, ⟨HN.out, hnc⟩, HR.out.fr (Fr.of_below hBE S) (Wid.refl _ _), hBE⟩
      · have HE := Lib.hid (show putS ⟨now, kept⟩ fl how = ⟨now, kept⟩ by rw [HP.out, if_neg hw])
        have yE1 := ky.set 0 (.int .i64 now)
        have g4 := yE1.cell 0
        have yE2 := yE1.set 1 (.slice A n c)
        have g5 := yE2.cell 0
        have g6 := yE2.cell 1
        have hBE := (hbw.setCell (p := ⟨w.heap.size + 1, 0, none⟩) (by simp) (.int .i64 now)).setCell (p := ⟨w.heap.size + 1, 1, none⟩) (by simp) (.slice A n c)
        clear kx ky hbw yE1 yE2
        by_cases hq : 1 ≤ how
        · have hq2 : 3 < how := by omega
          clear hw
          go_wp2_with fail
          refine bodyPost_ret (v := stV now A n c) (by simp [results, Try.results18, go_sem, stV, g5, g6]) rfl ?_
          rw [HE.out]
          exact ⟨A, n, c, rfl, ⟨HN.out, hnc⟩, HR.out.fr (Fr.of_below hBE S) (Wid.refl _ _), hBE⟩
        · have hq2 : how < 1 := by omega
          clear hw hq
          go_wp2_with fail
          refine bodyPost_ret (v := stV now A n c) (by simp [results, Try.results18, go_sem, stV, g5, g6]) rfl ?_
          rw [HE.out]
          exact ⟨A, n, c, rfl, ⟨HN.out, hnc⟩, HR.out.fr (Fr.of_below hBE S) (Wid.refl _ _), hBE⟩
end
end Go.Proofs.Ytocbkcofmebfmaa
