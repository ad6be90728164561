/-
  Layer 4, walked: the steps of a script, as they are read; Few, as each of the layer's statements asks.
-/
import Derived.Test.YthilpfgmbikhfaaSep
namespace Go.Proofs.Ythilpfgmbikhfaa
open Go.RowKit

abbrev St := List UInt8 × Int
/-- A slice of steps that reads as ls. -/
def RdSt (w : World) (A : Option Addr) (ls : List St) : Prop :=
  0 < ls.length → ∃ b o, A = some ⟨b, o, none⟩ ∧ b < w.heap.size ∧ ∀ k (hk : k < ls.length), ∃ A' c', RdIn w.heap.size w A' (bs (ls[k]'hk).1) ∧ (ls[k]'hk).1.length ≤ maxLen ∧ (-9223372036854775808 ≤ (ls[k]'hk).2 ∧ (ls[k]'hk).2 ≤ 9223372036854775807) ∧
    w.cell? ⟨b, o + k * 2, none⟩ = some (.slice A' (ls[k]'hk).1.length c') ∧ w.cell? ⟨b, o + k * 2 + 1, none⟩ = some (.int .i64 (ls[k]'hk).2)
/-- The same, below a block. -/
def RdStIn (n₁ : Nat) (w : World) (A : Option Addr) (ls : List St) : Prop :=
  0 < ls.length → ∃ b o, A = some ⟨b, o, none⟩ ∧ b < n₁ ∧ ∀ k (hk : k < ls.length), ∃ A' c', RdIn n₁ w A' (bs (ls[k]'hk).1) ∧ (ls[k]'hk).1.length ≤ maxLen ∧ (-9223372036854775808 ≤ (ls[k]'hk).2 ∧ (ls[k]'hk).2 ≤ 9223372036854775807) ∧
    w.cell? ⟨b, o + k * 2, none⟩ = some (.slice A' (ls[k]'hk).1.length c') ∧ w.cell? ⟨b, o + k * 2 + 1, none⟩ = some (.int .i64 (ls[k]'hk).2)
theorem RdSt.in_ {w : World} {A : Option Addr} {ls : List St} (h : RdSt w A ls) : RdStIn w.heap.size w A ls := h
theorem RdStIn.below {n₁ : Nat} {w w' : World} {A : Option Addr} {ls : List St} (h : RdStIn n₁ w A ls) (hb : Below n₁ w w') : RdStIn n₁ w' A ls := fun hp => by
  obtain ⟨b, o, rfl, hlt, hc⟩ := h hp
  refine ⟨b, o, rfl, hlt, fun k hk => ?_⟩
  obtain ⟨A', c', h1, h2, h3, h4, h5⟩ := hc k hk
  exact ⟨A', c', h1.below hb, h2, h3, (hb.cell (p := ⟨b, o + k * 2, none⟩) hlt).trans h4, (hb.cell (p := ⟨b, o + k * 2 + 1, none⟩) hlt).trans h5⟩
/-- What a round reads. -/
theorem RdStIn.at_ {n₁ : Nat} {w : World} {A : Option Addr} {ls : List St} (h : RdStIn n₁ w A ls) (k : Nat) (hk : k < ls.length) (x : List UInt8) (n : Int) (hx : ls[k]'hk = (x, n)) :
    ∃ b o A' c', A = some ⟨b, o, none⟩ ∧ b < n₁ ∧ RdIn n₁ w A' (bs x) ∧ x.length ≤ maxLen ∧ (-9223372036854775808 ≤ n ∧ n ≤ 9223372036854775807) ∧
      w.cell? ⟨b, o + k * 2, none⟩ = some (.slice A' x.length c') ∧ w.cell? ⟨b, o + k * 2 + 1, none⟩ = some (.int .i64 n) := by
  obtain ⟨b, o, rfl, hlt, hc⟩ := h (by omega)
  obtain ⟨A', c', h1, h2, h3, h4, h5⟩ := hc k hk
  rw [hx] at h1 h2 h3 h4 h5
  exact ⟨b, o, A', c', rfl, hlt, h1, h2, h3, h4, h5⟩

def fewB (ls : List St) : Bool := (ls.take 31).all (fun s => decide (s.1.length ≤ 200)) && decide (ls.length ≤ 30)
theorem few_parts {ls : List St} (h : fewB ls = true) : ls.length ≤ 30 ∧ ∀ s ∈ ls, s.1.length ≤ 200 := by
  simp only [fewB, Bool.and_eq_true, decide_eq_true_eq, List.all_eq_true] at h
  rw [List.take_of_length_le (by omega)] at h
  exact ⟨h.2, h.1⟩

set_option maxRecDepth 100000 in
set_option maxHeartbeats 4000000 in
theorem few_any (ls : List St) (A : Option Addr) (n c : Nat) (q : Bool) (w : World) (hn : ls.length = n) (hl : n ≤ maxLen) (hq : fewB ls = q) {n₁ : Nat} (hr : RdStIn n₁ w A ls) :
    Calls Try.prog 10 #[.slice A n c] w fun e w' => e = .returned (.bool q) ∧ w = w' := by
  unfold maxLen at hl
  have HQ := Lib.hid hq
  have HN := Lib.hid hn
  clear hq hn
  go_enter Try.func10, Try.ntmps10
  go_wp2_with fail
  go_loop [3] (fun i => ∃ k : Nat, k ≤ n ∧ k ≤ 31 ∧ i = .int .i64 k ∧ (ls.take k).all (fun s => decide (s.1.length ≤ 200)) = true) (fun i => 31 - (intOf i).toNat)
  case atStart => exact ⟨0, by omega, by omega, rfl, rfl⟩
  case round =>
    obtain ⟨k, hk, hk31, rfl, hall⟩ := hrel
    have HA := Lib.hid hall
    clear hall
    by_cases hlt : k < n ∧ k < 31
    · obtain ⟨hlt, h31⟩ := hlt
      have hkp : k < ls.length := by rw [HN.out]; exact hlt
      obtain ⟨⟨x, nn⟩, hxn⟩ : ∃ s, ls[k]'hkp = s := ⟨_, rfl⟩
      obtain ⟨b, o, A', c', hA, hb, _, hx, _, hck, _⟩ := hr.at_ k hkp x nn hxn
      cases hA
      obtain ⟨m, hm⟩ : ∃ m, (ls[k]'hkp).1.length = m := ⟨_, rfl⟩
      rw [show x.length = m by rw [← hm, hxn]] at hck hx
      unfold maxLen at hx
      have HM := Lib.hid hm
      clear hm hxn
      by_cases h200 : m ≤ 200
      · have E := Lib.hid (show (ls.take (k + 1)).all (fun s => decide (s.1.length ≤ 200)) = true by
          rw [List.take_succ_eq_append_getElem hkp, List.all_append, HA.out]
          simp [HM.out, h200])
        go_wp2_with fail
        go_round
        case rel => exact ⟨k + 1, by omega, by omega, by go_num, E.out⟩
        case measure => simp [intOf]; omega
      · have E := Lib.hid (show false = q by
          rw [← HQ.out]
          have : (ls.take 31).all (fun s => decide (s.1.length ≤ 200)) = false := List.all_eq_false.2 ⟨ls[k]'hkp, by
            have : (ls.take 31)[k]'(by rw [List.length_take]; omega) = ls[k]'hkp := List.getElem_take
            rw [← this]
            exact List.getElem_mem _, by simp [HM.out]; omega⟩
          simp [fewB, this])
        go_wp2_with fail
        go_ret
        exact ⟨ret_b E.out, rfl⟩
    · have E := Lib.hid (show decide (n ≤ 30) = q by
        rw [← HQ.out]
        unfold fewB
        rw [HN.out]
        have key : k = n ∨ k = 31 := by omega
        rcases key with rfl | rfl
        · have h1 := HA.out
          rw [List.take_of_length_le (by rw [HN.out]; omega)] at h1
          rw [List.take_of_length_le (by rw [HN.out]; omega), h1]
          simp
        · rw [HA.out]; simp)
      have key : k = n ∧ n < 31 ∨ k = 31 ∧ 30 < n := by omega
      clear hlt
      rcases key with ⟨rfl, h31⟩ | ⟨rfl, h31⟩
      · have h30 : k ≤ 30 := by omega
        go_wp2_with fail
        go_ret
        exact ⟨ret_b (by rw [← E.out, Bool.eq_iff_iff]; simp only [decide_eq_true_eq]; omega), rfl⟩
      · go_wp2_with fail
        all_goals go_ret
        all_goals exact ⟨ret_b (by rw [← E.out]; first | (rw [Bool.eq_iff_iff]; simp only [decide_eq_true_eq]; omega) | (simp; omega)), rfl⟩
end Go.Proofs.Ythilpfgmbikhfaa
