/-
  Layer 3, walked: few, as each of the layer's statements asks.
-/
import Derived.Test.YtmmbfidnbdckmaaDoorWpM
namespace Go.Proofs.YtmmbfidnbdckmaaDoor
open Go.RowKit

def fewB (s : Sq) : Bool := decide (s.params.length ≤ 30) && s.params.all (fun p => decide (p.length ≤ 20)) && decide (s.inter.length ≤ 10) && decide (s.data.length ≤ 200)
theorem few_parts {s : Sq} (h : fewB s = true) : s.params.length ≤ 30 ∧ (∀ p ∈ s.params, p.length ≤ 20) ∧ s.inter.length ≤ 10 ∧ s.data.length ≤ 200 := by
  simp only [fewB, Bool.and_eq_true, decide_eq_true_eq, List.all_eq_true] at h
  exact ⟨h.1.1.1, h.1.1.2, h.1.2, h.2⟩

set_option maxRecDepth 100000 in
set_option maxHeartbeats 4000000 in
theorem few_any (s : Sq) (A : Option Addr) (c : Nat) (q : Bool) (w : World) (hq : fewB s = q) (hl : s.params.length ≤ maxLen) (hr : RdP w A s.params) :
    Calls Tryd.prog 10 #[sqV s A c] w fun e w' => e = .returned (.bool q) ∧ Below w.heap.size w w' := by
  unfold maxLen at hl
  have hB : Below w.heap.size w (w.alloc (.cells (seqC s A c) 24)) := (Below.refl _ w).alloc (Nat.le_refl _) _
  have hr2 := hr.alloc (.cells (seqC s A c) 24)
  unfold seqC at hr2 hB
  obtain ⟨np, hnp⟩ : ∃ np, s.params.length = np := ⟨_, rfl⟩
  have HNP := Lib.hid hnp
  rw [hnp] at hl hr2 hB
  have HQ := Lib.hid hq
  clear hq hr
  unfold sqV
  rw [hnp]
  clear hnp
  go_enter Tryd.func10, Tryd.ntmps10
  go_wp2_with fail
  go_loop [3] (fun i => ∃ k : Nat, k ≤ np ∧ k ≤ 31 ∧ i = .int .i64 k ∧ (s.params.take k).all (fun p => decide (p.length ≤ 20)) = true) (fun i => 31 - (intOf i).toNat)
  case atStart => exact ⟨0, by omega, by omega, rfl, rfl⟩
  case round =>
    obtain ⟨k, hk, hk31, rfl, hall⟩ := hrel
    have HA := Lib.hid hall
    clear hall
    by_cases hlt : k < np ∧ k < 31
    · obtain ⟨hlt, h31⟩ := hlt
      have hkp : k < s.params.length := by rw [HNP.out]; exact hlt
      obtain ⟨b, o, hA, hb, hcc⟩ := hr2 (by rw [HNP.out]; omega)
      obtain ⟨A', c', hck, hrk⟩ := hcc k hkp
      cases hA
      obtain ⟨m, hm⟩ : ∃ m, (s.params[k]'hkp).length = m := ⟨_, rfl⟩
      rw [hm] at hck
      have HM := Lib.hid hm
      clear hm hcc hrk
      by_cases h20 : m ≤ 20
      · have E := Lib.hid (show (s.params.take (k + 1)).all (fun p => decide (p.length ≤ 20)) = true by
          rw [List.take_succ_eq_append_getElem hkp, List.all_append, HA.out]
          simp [HM.out, h20])
        go_wp2_with fail
        go_round
        case rel => exact ⟨k + 1, by omega, by omega, by go_num, E.out⟩
        case measure => simp [intOf]; omega
      · have E := Lib.hid (show false = q by
          rw [← HQ.out]
          have : s.params.all (fun p => decide (p.length ≤ 20)) = false := List.all_eq_false.2 ⟨_, List.getElem_mem hkp, by simp [HM.out]; omega⟩
          simp [fewB, this])
        go_wp2_with fail
        go_ret
        exact ⟨ret_b E.out, hB⟩
    · have key : k = np ∧ np < 31 ∨ k = 31 ∧ 30 < np := by omega
      clear hlt
      rcases key with ⟨rfl, h31⟩ | ⟨rfl, h31⟩
      · have E := Lib.hid (show (decide (s.inter.length ≤ 10) && decide (s.data.length ≤ 200)) = q by
          have h1 := HA.out
          rw [List.take_of_length_le (by rw [HNP.out]; omega)] at h1
          rw [← HQ.out]
          unfold fewB
          rw [h1, HNP.out, decide_eq_true (show k ≤ 30 by omega)]
          simp)
        have h30 : k ≤ 30 := by omega
        by_cases hi : s.inter.length ≤ 10
        · have E2 := Lib.hid (show decide ((s.data.length : Int) ≤ 200) = q by rw [← E.out, Bool.eq_iff_iff]; simp [hi]; omega)
          go_wp2_with fail
          go_ret
          exact ⟨ret_b E2.out, hB⟩
        · have E2 := Lib.hid (show false = q by rw [← E.out]; simp [hi])
          go_wp2_with fail
          go_ret
          exact ⟨ret_b E2.out, hB⟩
      · have E := Lib.hid (show false = q by rw [← HQ.out]; unfold fewB; rw [HNP.out, decide_eq_false (by omega)]; rfl)
        go_wp2_with fail
        all_goals go_ret
        all_goals exact ⟨ret_b E.out, hB⟩
end Go.Proofs.YtmmbfidnbdckmaaDoor
