/-
  Layer 5, walked: law05.great.
-/
import Derived.Test.YtdpdgdidfikphaaDoorHosC
namespace Go.Proofs.YtdpdgdidfikphaaDoor
open Go.RowKit

/-- Some part is more than 65535. -/
def greatB (ps : List (List Int)) : Bool := !ps.all fun p => p.all fun n => decide (n ≤ 65535)
def lowB (p : List Int) : Bool := p.all fun n => decide (n ≤ 65535)
theorem great_yes {ps : List (List Int)} {k j : Nat} (hk : k < ps.length) (hj : j < ps[k].length) (h : 65535 < ps[k][j]) : greatB ps = true := by
  unfold greatB
  rw [Bool.not_eq_true', List.all_eq_false]
  refine ⟨_, List.getElem_mem hk, ?_⟩
  rw [Bool.not_eq_true, List.all_eq_false]
  exact ⟨_, List.getElem_mem hj, by simp; omega⟩
theorem great_no {ps : List (List Int)} (h : ps.all lowB = true) : greatB ps = false := by
  unfold greatB
  show (!ps.all lowB) = false
  rw [h]; rfl
theorem great_small {ps : List (List Int)} (h : greatB ps = false) : smallP ps := by
  unfold greatB at h
  rw [Bool.not_eq_false'] at h
  intro p hp n hn
  exact of_decide_eq_true (List.all_eq_true.1 (List.all_eq_true.1 h p hp) n hn)

set_option maxRecDepth 100000 in
set_option maxHeartbeats 4000000 in
theorem great_any (s : Sq) (A : Option Addr) (c : Nat) (q : Bool) (w : World) (hq : greatB s.params = q) (hn : s.params.length ≤ 4294967296) (hl : ∀ p ∈ s.params, p.length ≤ maxLen) (hr : RdP w A s.params) :
    Calls Tryd.prog 12 #[sqV s A c] w fun e w' => e = .returned (.bool q) ∧ Below w.heap.size w w' := by
  have HQ := Lib.hid hq
  clear hq
  have hB : Below w.heap.size w (w.alloc (.cells #[.int .i64 s.kind, .int .u8 (s.priv.toNat : Int), .slice A s.params.length c, .string ⟨s.inter.toArray⟩, .int .u8 (s.final.toNat : Int), .string ⟨s.data.toArray⟩] 32)) := (Below.refl _ _).alloc (Nat.le_refl _) _
  have hrb := hr.below hB
  unfold sqV
  go_enter Tryd.func12, Tryd.ntmps12
  go_wp2
  go_loop [3] (fun i => ∃ k : Nat, k ≤ s.params.length ∧ i = .int .i64 k ∧ (s.params.take k).all lowB = true) (fun i => s.params.length - (intOf i).toNat)
  case atStart => exact ⟨0, Nat.zero_le _, rfl, rfl⟩
  case round =>
    obtain ⟨k, hk, rfl, hall⟩ := hrel
    have HA := Lib.hid hall
    clear hall
    by_cases hlt : k < s.params.length
    · obtain ⟨b, o, hA, hb, hcc⟩ := hrb (by omega)
      cases hA
      obtain ⟨A', c', hck, hrk⟩ := hcc k hlt
      have hnl := hl _ (List.getElem_mem hlt)
      obtain ⟨n, hn⟩ : ∃ n, (s.params[k]'hlt).length = n := ⟨_, rfl⟩
      rw [hn] at hck hnl
      have HN := Lib.hid hn
      simp only [maxLen] at hnl
      clear hn hcc
      go_wp2
      go_loop [4] (fun i => ∃ j : Nat, j ≤ n ∧ i = .int .i64 j ∧ ((s.params[k]'hlt).take j).all (fun n => decide (n ≤ 65535)) = true) (fun i => n - (intOf i).toNat)
      case atStart => exact ⟨0, Nat.zero_le _, rfl, rfl⟩
      case round =>
        obtain ⟨j, hj, rfl, hall⟩ := hrel
        have HJ := Lib.hid hall
        clear hall
        by_cases hjl : j < n
        · have hjl2 : j < (s.params[k]'hlt).length := by rw [HN.out]; exact hjl
          obtain ⟨b2, o2, rfl, hb2, hc2⟩ := hrk.int_at (by omega)
          have hcj := hc2 j hjl2
          obtain ⟨x, hx⟩ : ∃ x, (s.params[k]'hlt)[j]'hjl2 = x := ⟨_, rfl⟩
          rw [hx] at hcj
          have HX := Lib.hid hx
          clear hx hc2
          by_cases x0 : 65535 < x
          · have E := Lib.hid (HQ.out.symm.trans (great_yes hlt hjl2 (by rw [HX.out]; exact x0)))
            go_wp2
            go_ret
            exact ⟨ret_b E.out.symm, hB⟩
          · have E := Lib.hid (show ((s.params[k]'hlt).take (j + 1)).all (fun n => decide (n ≤ 65535)) = true by rw [List.take_succ_eq_append_getElem hjl2, List.all_append, HJ.out, HX.out]; simp; omega)
            go_wp2
            go_round
            case rel => exact ⟨j + 1, by omega, by go_num, E.out⟩
            case measure => simp [intOf]; omega
        · have hP : lowB (s.params[k]'hlt) = true := by have := HJ.out; rwa [List.take_of_length_le (by rw [HN.out]; omega)] at this
          have E := Lib.hid (show (s.params.take (k + 1)).all lowB = true by rw [List.take_succ_eq_append_getElem hlt, List.all_append, HA.out]; simp [hP])
          clear hP
          go_wp2
          go_round
          case rel => exact ⟨k + 1, by omega, by go_num, E.out⟩
          case measure => simp [intOf]; omega
    · have E := Lib.hid (HQ.out.symm.trans (great_no (by have := HA.out; rwa [List.take_of_length_le (by omega)] at this)))
      go_wp2
      go_ret
      exact ⟨ret_b E.out.symm, hB⟩
end Go.Proofs.YtdpdgdidfikphaaDoor
