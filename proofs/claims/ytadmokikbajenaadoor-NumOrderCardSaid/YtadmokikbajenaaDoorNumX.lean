/-
  Layer 1, walked: Text, the program's and the document's.
-/
import Derived.Test.YtadmokikbajenaaDoorNumL
import Derived.Test.YtadmokikbajenaaDoorShelf
import Derived.RegionCalls
import Derived.Deep.RegionWith
import Derived.Lib.ItoaLen
namespace Go.Proofs.YtadmokikbajenaaDoor
open Go.RowKit

/-- A number in figures. -/
def textL (n : Int) : List UInt8 := if n < 0 then [] else Lib.decDigits n.toNat

set_option maxHeartbeats 400000 in
theorem text_any (n : Int) (w : World) (h0 : -9223372036854775808 ≤ n) (h1 : n ≤ 9223372036854775807) (htab : Lib.TabIs Tryd.prog w "internal/strconv.uint64pow10" .u64 Lib.pow10Tab) :
    Calls Tryd.prog 12 #[.int .i64 n] w fun e w' => e = .returned (.string ⟨(textL n).toArray⟩) ∧ Below w.heap.size w w' := by
  by_cases hn : n < 0
  · have HE := Lib.hid (show textL n = [] from if_pos hn)
    go_enter Tryd.func12, Tryd.ntmps12
    go_wp2
    go_ret
    exact ⟨ret_s HE.out.symm, Below.refl _ _⟩
  · have HE := Lib.hid (show textL n = Lib.itoa n by unfold textL Lib.itoa; rw [if_neg hn, if_neg hn])
    go_enter Tryd.func12, Tryd.ntmps12
    go_wp2_with (go_at_call 19; refine (Tryd.strconv_Itoa n h0 h1 w htab).mono ?_; rintro e w' ⟨rfl, k, os, rfl⟩)
    go_ret
    exact ⟨ret_s HE.out.symm, below_grow (below_drewN (Below.refl _ _) k) (by simp) os⟩

theorem textL_neg (n : Int) (h : n < 0) : textL n = [] := if_pos h
theorem textL_small (n : Int) (h0 : 0 ≤ n) (h : n < 10) : textL n = [UInt8.ofNat (48 + n.toNat)] := by
  unfold textL; rw [if_neg (by omega), Lib.decDigits, dif_pos (by omega)]
theorem textL_big (n : Int) (h : 10 ≤ n) : textL n = textL (n / 10) ++ [UInt8.ofNat (48 + (n % 10).toNat)] := by
  unfold textL
  rw [if_neg (by omega), if_neg (by omega), Lib.decDigits, dif_neg (by omega)]
  rw [show (n / 10).toNat = n.toNat / 10 by omega, show (n % 10).toNat = n.toNat % 10 by omega]

theorem textL_length (n : Int) (h1 : n ≤ 9223372036854775807) : (textL n).length ≤ 21 := by
  by_cases h : n < 0
  · rw [textL_neg n h]; simp
  · rw [show textL n = Lib.itoa n by unfold textL Lib.itoa; rw [if_neg h, if_neg h]]
    exact Lib.itoa_length_le n (by omega) h1

set_option maxHeartbeats 1000000 in
theorem rtext_any (k : Nat) : ∀ (n : Int) (w : World), n < k → n ≤ 9223372036854775807 → -9223372036854775808 ≤ n →
    Calls Tryd.prog 13 #[.int .i64 n] w fun e w' => e = .returned (.string ⟨(textL n).toArray⟩) ∧ Below w.heap.size w w' := by
  induction k with
  | zero =>
    intro n w hk h1 h0
    have hn : n < 0 := by omega
    have HE := Lib.hid (textL_neg n hn)
    go_enter Tryd.func13, Tryd.ntmps13
    go_wp2_with fail
    go_ret
    exact ⟨ret_s HE.out.symm, Below.refl _ _⟩
  | succ k ih =>
    intro n w hk h1 h0
    have IH := Lib.hid ih
    clear ih
    by_cases hn : n < 0
    · have HE := Lib.hid (textL_neg n hn)
      go_enter Tryd.func13, Tryd.ntmps13
      go_wp2_with fail
      go_ret
      exact ⟨ret_s HE.out.symm, Below.refl _ _⟩
    · by_cases h10 : n < 10
      · have HE := Lib.hid (textL_small n (by omega) h10)
        have hcv := conv_one (P := Tryd.prog) Tryd.underlying22 Tryd.underlying5 Tryd.underlying9 (48 + n) (by omega) (by omega)
        go_enter Tryd.func13, Tryd.ntmps13
        go_wp2_with fail
        go_ret
        exact ⟨ret_s (by rw [HE.out, show (48 + n).toNat = 48 + n.toNat by omega]), (Below.refl _ _).alloc (Nat.le_refl _) _⟩
      · have HE := Lib.hid (textL_big n (by omega))
        have hcv := conv_one (P := Tryd.prog) Tryd.underlying22 Tryd.underlying5 Tryd.underlying9 (48 + n % 10) (by omega) (by omega)
        go_enter Tryd.func13, Tryd.ntmps13
        go_wp2_with fail
        have b1 : n / 10 < k := by omega
        have b2 : n / 10 ≤ 9223372036854775807 := by omega
        have b4 := textL_length (n / 10) b2
        have b3 : -9223372036854775808 ≤ n / 10 := by omega
        have e1 : IntKind.i64.wrap (n.tdiv 10) = n / 10 := by
          rw [Int.tdiv_eq_ediv_of_nonneg (by omega)]; exact IntWalk.i64_in _ (by omega)
        have e2 : n.tmod 10 = n % 10 := Int.tmod_eq_emod_of_nonneg (by omega)
        have e3 : IntKind.i64.wrap (48 + n % 10) = 48 + n % 10 := IntWalk.i64_in _ (by omega)
        have e4 : IntKind.u8.wrap (48 + n % 10) = 48 + n % 10 := by rw [IntKind.wrap_u8]; omega
        go_region_with (first | (go_at_call 13; refine (IH.out (n / 10) _ b1 b2 b3).mono ?_; rintro e w' ⟨rfl, hb⟩; obtain ⟨hbc, hbf⟩ := below_cells hb))
        all_goals clear e1 e2 e3 e4
        all_goals go_wp2
        all_goals go_ret
        all_goals refine ⟨ret_s (q := textL n) (by rw [HE.out, show (48 + n % 10).toNat = 48 + (n % 10).toNat by omega]), ?_⟩
        all_goals first
          | exact ((Below.refl _ w).drew.trans hb).alloc hb.size _
          | exact (((Below.refl _ w).alloc (Nat.le_refl _) _).drew).trans (hb.mono (by simp))
end Go.Proofs.YtadmokikbajenaaDoor
