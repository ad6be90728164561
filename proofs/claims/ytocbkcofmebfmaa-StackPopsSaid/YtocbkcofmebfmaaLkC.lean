/-
  Layer 8: the laws' word both, walked.
-/
import Derived.Test.YtocbkcofmebfmaaLkB
namespace Go.Proofs.Ytocbkcofmebfmaa
open Go.RowKit

def bothP (a b : Int) (i : Nat) : Int := ((([1, 2, 4, 8, 16] : List Int).take i).map fun k => if bitF a k && bitF b k then k else 0).sum
theorem bothP_step (a b : Int) : ∀ i : Nat, i < 5 → bothP a b (i + 1) = bothP a b i + (if (bitF a (bN i) && bitF b (bN i)) = true then bN i else 0)
  | 0, _ => by simp [bothP, bN]
  | 1, _ => by simp [bothP, bN]
  | 2, _ => by simp [bothP, bN]; omega
  | 3, _ => by simp [bothP, bN]; omega
  | 4, _ => by simp [bothP, bN]; omega
theorem bothP_rng (a b : Int) : ∀ i : Nat, i ≤ 5 → 0 ≤ bothP a b i ∧ bothP a b i < bN i
  | 0, _ => ⟨by simp [bothP], by simp [bothP, bN]⟩
  | i + 1, h => by
    have h1 := bothP_rng a b i (by omega)
    have h2 := bothP_step a b i (by omega)
    have h3 := bN_in i (by omega)
    rw [h2, h3.2.2]
    split <;> omega
set_option maxRecDepth 100000 in
set_option maxHeartbeats 8000000 in
theorem both_any (a b : Int) (ha : okF a) (hb : okF b) (w : World) : Calls Try.prog 21 #[.int .i64 a, .int .i64 b] w fun e w' => e = .returned (.int .i64 (bothN a b)) ∧ Below w.heap.size w w' := by
  have HA := Lib.hid ha
  have HB := Lib.hid hb
  have HE := Lib.hid (show bothN a b = bothP a b 5 from rfl)
  clear ha hb
  go_enter Try.func21, Try.ntmps21
  go_wp2
  go_loopw [5, 6] (fun s5 s6 wr => ∃ i : Nat, i ≤ 5 ∧ s6 = .int .i64 (bN i) ∧ s5 = .int .i64 (bothP a b i) ∧ Below w.heap.size w wr) (fun _ s6 _ => 32 - (intOf s6).toNat)
  case atStart => exact ⟨0, by omega, rfl, rfl, Below.refl _ _⟩
  case round =>
    obtain ⟨i, hi, rfl, rfl, hbw⟩ := hrel
    by_cases hlt : i < 5
    · obtain ⟨hb0, hb1, hb2⟩ := bN_in i hlt
      have hst := bothP_step a b i hlt
      obtain ⟨hp0, hp1⟩ := bothP_rng a b i (by omega)
      obtain ⟨k, hk⟩ : ∃ k, bN i = k := ⟨_, rfl⟩
      obtain ⟨p, hp⟩ : ∃ p, bothP a b i = p := ⟨_, rfl⟩
      rw [hk] at hb0 hb1 hb2 hst hp1 ⊢
      rw [hp] at hst hp0 hp1 ⊢
      have HST := Lib.hid hst
      clear hst hk hp
      have hbe : (k == 0) = false := by simp; omega
      have hk0 : k ≠ 0 := by omega
      have t32 : k < 32 := by omega
      obtain ⟨qa, hqa⟩ : ∃ q, a / k = q := ⟨_, rfl⟩
      obtain ⟨qb, hqb⟩ : ∃ q, b / k = q := ⟨_, rfl⟩
      have hda : Int.tdiv a k = qa := by rw [← hqa]; exact (has_arith HA.out.1 hb0).1
      have hdb : Int.tdiv b k = qb := by rw [← hqb]; exact (has_arith HB.out.1 hb0).1
      have hq0 : 0 ≤ qa := by rw [← hqa]; exact Int.ediv_nonneg HA.out.1 (by omega)
      have hq1 : qa < 32 := by rw [← hqa]; exact Int.lt_of_le_of_lt (Int.ediv_le_self k HA.out.1) HA.out.2
      have hq2 : 0 ≤ qb := by rw [← hqb]; exact Int.ediv_nonneg HB.out.1 (by omega)
      have hq3 : qb < 32 := by rw [← hqb]; exact Int.lt_of_le_of_lt (Int.ediv_le_self k HB.out.1) HB.out.2
      obtain ⟨ra, hra⟩ : ∃ r, qa % 2 = r := ⟨_, rfl⟩
      obtain ⟨rb, hrb⟩ : ∃ r, qb % 2 = r := ⟨_, rfl⟩
      have hma : Int.tmod qa 2 = ra := by rw [← hra]; exact Int.tmod_eq_emod_of_nonneg hq0
      have hmb : Int.tmod qb 2 = rb := by rw [← hrb]; exact Int.tmod_eq_emod_of_nonneg hq2
      obtain ⟨x, hx⟩ : ∃ v, (ra == 1) = v := ⟨_, rfl⟩
      obtain ⟨y, hy⟩ : ∃ v, (rb == 1) = v := ⟨_, rfl⟩
      have HX := Lib.hid (show bitF a k = x by unfold bitF; rw [hqa, hra, hx])
      have HY := Lib.hid (show bitF b k = y by unfold bitF; rw [hqb, hrb, hy])
      clear hqa hqb hra hrb
      cases x with
      | false =>
        go_wp2_with fail
        go_roundw
        case rel => exact ⟨i + 1, by omega, by rw [hb2], by rw [HST.out, HX.out]; simp, hbw⟩
        case measure => simp [intOf]; omega
      | true =>
        cases y with
        | false =>
          go_wp2_with fail
          go_roundw
          case rel => exact ⟨i + 1, by omega, by rw [hb2], by rw [HST.out, HX.out, HY.out]; simp, hbw⟩
          case measure => simp [intOf]; omega
        | true =>
          go_wp2_with fail
          go_roundw
          case rel => exact ⟨i + 1, by omega, by rw [hb2], by rw [HST.out, HX.out, HY.out]; simp, hbw⟩
          case measure => simp [intOf]; omega
    · obtain rfl : i = 5 := by omega
      rw [show bN 5 = 32 from rfl, ← HE.out]
      go_wp2_with fail
      go_ret
      exact ⟨rfl, hbw⟩
end Go.Proofs.Ytocbkcofmebfmaa
