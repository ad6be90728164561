/-
  Layer 7: the document's place, walked.
-/
import Derived.Test.YtokhchejkfhmmaaSavM
import Derived.Test.YtokhchejkfhmmaaModV
namespace Go.Proofs.Ytokhchejkfhmmaa
open Go.RowKit

/-- A place as a number: -1 where there is none. -/
def placeI (n : Int) : Int := if placeN n < 12 then (placeN n : Int) else -1
theorem placeI_yes {n : Int} (h : placeN n < 12) : placeI n = (placeN n : Int) := if_pos h
theorem placeI_no {n : Int} (h : ¬ placeN n < 12) : placeI n = -1 := if_neg h
theorem place_first {n : Int} {k : Nat} (hk : k < 12) (hb : ∀ j (h : j < 12), j < k → ownM[j]'h ≠ n) (he : ownM[k]'hk = n) : placeN n = k := by
  unfold placeN
  rw [List.findIdx_eq (by exact hk)]
  refine ⟨by simp [he], fun j hj => ?_⟩
  exact beq_false_of_ne (hb j (by omega) hj)
theorem place_none {n : Int} (hb : ∀ j (h : j < 12), ownM[j]'h ≠ n) : ¬ placeN n < 12 := fun h => hb _ h (place_get h)
set_option maxRecDepth 100000 in
set_option maxHeartbeats 4000000 in
theorem rplace_any (n : Int) (w : World) : Calls Try.prog 19 #[.int .i64 n] w (ValE (.int .i64 (placeI n)) w) := by
  go_enter Try.func19, Try.ntmps19
  go_wp2_with fail
  refine (rown_any w).mono ?_
  rintro e w1 ⟨A, c, rfl, hc12, hr, hb1⟩
  obtain ⟨b, o, rfl, hbl, hcell⟩ := hr.int_at (by decide)
  clear hr
  go_wp2_with fail
  go_loop [4] (fun i => ∃ k : Nat, k ≤ 12 ∧ i = .int .i64 k ∧ Hid (∀ j (h : j < 12), j < k → ownM[j]'h ≠ n)) (fun i => 12 - (intOf i).toNat)
  case atStart => exact ⟨0, Nat.zero_le _, rfl, Lib.hid fun j _ h => absurd h (by omega)⟩
  case round =>
    obtain ⟨k, hk, rfl, HB⟩ := hrel
    by_cases hlt : k < 12
    · have hck := hcell k hlt
      by_cases he : ownM[k]'hlt = n
      · have HP := Lib.hid (place_first hlt (fun j h hj => HB.out j h hj) he)
        rw [he] at hck
        clear he
        go_wp2
        go_ret
        exact ⟨ret_i (by rw [placeI_yes (by rw [HP.out]; exact hlt), HP.out]), hb1⟩
      · have HB2 : Hid (∀ j (h : j < 12), j < k + 1 → ownM[j]'h ≠ n) := Lib.hid fun j h hj => by
          rcases Nat.lt_succ_iff_lt_or_eq.1 hj with h1 | rfl
          · exact HB.out j h h1
          · exact he
        obtain ⟨x, hx⟩ : ∃ x, ownM[k]'hlt = x := ⟨_, rfl⟩
        have hck2 : w1.cell? ⟨b, o + k, none⟩ = some (.int .i64 x) := by rw [← hx]; exact hck
        rw [hx] at he
        have t1 : (x == n) = false := beq_false_of_ne he
        clear he hx hck
        go_wp2
        go_round
        case rel => exact ⟨k + 1, by omega, by go_num, HB2⟩
        case measure => simp [intOf]; omega
    · have HP := Lib.hid (place_none (n := n) (fun j h => HB.out j h (by omega)))
      go_wp2
      go_ret
      exact ⟨ret_i (placeI_no HP.out).symm, hb1⟩
end Go.Proofs.Ytokhchejkfhmmaa
