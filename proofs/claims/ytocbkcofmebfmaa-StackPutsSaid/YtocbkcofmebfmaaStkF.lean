/-
  Layer 8, the landed flagsOf, slices.Clone, Same, walked.
-/
import Derived.Test.YtocbkcofmebfmaaStkP
import Derived.Test.YtocbkcofmebfmaaEqI
import Derived.Laws.Cover3
namespace Go.Proofs.Ytocbkcofmebfmaa
open Go.RowKit

set_option maxRecDepth 100000 in
set_option maxHeartbeats 2000000 in
theorem pflags_any (n : Int) (w : World) : Calls Try.prog 23 #[.int .i64 n] w fun e w' => e = .returned (.int .i64 (flg n)) ∧ Below w.heap.size w w' := by
  obtain ⟨N, hN⟩ : ∃ N, max n 0 = N := ⟨_, rfl⟩
  have hmax := maxZ n N hN (P := Try.prog)
  obtain ⟨F, hF⟩ : ∃ F, flg n = F := ⟨_, rfl⟩
  have hm : Int.tmod N 32 = F := by
    rw [Int.tmod_eq_emod_of_nonneg (by omega), ← hF, ← hN]
    rfl
  rw [hF]
  clear hF hN
  go_enter Try.func23, Try.ntmps23
  go_wp2
  go_ret
  exact ⟨rfl, by first | exact Below.refl _ _ | exact below_drewN (Below.refl _ _) _⟩
/-- What a clone tells: a row that reads the same, outside S. -/
def CloE (S : Nat → Prop) (n : Nat) (xs : List Value) (w : World) (e : Ending) (w' : World) : Prop := ∃ A c, e = .returned (.slice A n c) ∧ n ≤ c ∧ RdOff w' S A xs ∧ Below w.heap.size w w'
set_option maxRecDepth 100000 in
set_option maxHeartbeats 4000000 in
theorem clone_any (S : Nat → Prop) (A : Option Addr) (n c : Nat) (xs : List Value) (w : World) (hS : ∀ k, S k → k < w.heap.size) (hn : xs.length = n) (hn2 : n ≤ 65536) (hr : Rd w A xs) (h1 : ∀ u ∈ xs, u.oneCell' = true) :
    Calls Try.prog 24 #[.slice A n c] w (CloE S n xs w) := by
  obtain ⟨i0, hi, hz0, hz1, hz2⟩ := info_parts Try.intinfo8
  have hq : ∀ (w : World) (a : Option Addr) (n c : Nat), (binOp .eql 22 (.slice a n c) (.slice none 0 0)).run Try.prog w = .ok (.bool a.isNone) w := fun w a n c => by
    simp only [binOp]
    simp [run_equal_slice_nil w _ _ a n c Try.underlying22]
  cases A with
  | none =>
    have h0 : n = 0 := by
      rcases Nat.eq_zero_or_pos n with h | h
      · exact h
      · obtain ⟨b, o, hA, _⟩ := hr (by omega)
        cases hA
    subst h0
    have hx : xs = [] := List.eq_nil_of_length_eq_zero hn
    subst hx
    clear hr h1 hn
    go_enter Try.func24, Try.ntmps24
    go_wp2_with fail
    refine bodyPost_ret (v := .slice none 0 0) (by simp [results, Try.results24, go_sem]) rfl ?_
    exact ⟨none, 0, rfl, Nat.le_refl _, RdOff.nil _ _ _, Below.refl _ _⟩
  | some a =>
    have g1 : 0 + n ≤ maxLen := by simp only [maxLen]; omega
    have g2 : (0 + n) * 8 ≤ 140737488355328 := by omega
    have hB0 : Below w.heap.size w (w.alloc (.cells #[] 3)) := (Below.refl _ w).alloc (Nat.le_refl _) _
    have hown0 : Own (w.alloc (.cells #[] 3)) w.heap.size 3 1 (.slice (some ⟨w.heap.size, 0, none⟩) 0 0) 0 [] := Own.made w w.heap.size 3 0 [] rfl (Nat.le_refl _) (Nat.zero_le _)
    have hr1 := hr.below hB0
    have hs0 := hB0.size
    have HS := Lib.hid hS
    have HN := Lib.hid hn
    clear hr hS hn
    go_enter Try.func24, Try.ntmps24
    go_wp2_with (first
      | (at_builtin; refine list_app _ rfl (.tmp 5) (.tmp 6) 22 rfl w.heap.size 3 i0 _ 1 8 Try.underlying22 hi hz0 hz1 hz2 rfl Nat.one_pos (.slice (some ⟨w.heap.size, 0, none⟩) 0 0) 0 [] rfl hown0 (some a) n c xs rfl (by rw [HN.out, Nat.mul_one]) hr1 h1 g1 g2 hs0 ?_; intro v1 w1 hown1 hg1
         have hB1 : Below w.heap.size w w1 := hB0.grown hg1 hs0 (fun g hg => (hown0.lt g hg).1)
         rw [Nat.zero_add, List.nil_append] at hown1
         obtain ⟨A2, c2, rfl, hf2⟩ := hown1.form
         have hcc := hown1.cap.1))
    refine bodyPost_ret (v := .slice A2 n c2) (by simp [results, Try.results24, go_sem]) rfl ?_
    exact ⟨A2, c2, rfl, hcc, RdOff.of_own hown1 (fun k hk hs => by have := (hown1.lt k hk).1; have := HS.out k hs; omega), hB1⟩
set_option maxRecDepth 100000 in
set_option maxHeartbeats 4000000 in
theorem psame8_any (a b : St) (A B : Option Addr) (n m c d : Nat) (w : World) (hn : a.kept.length = n) (hm : b.kept.length = m) (hn2 : n ≤ 65536) (hm2 : m ≤ 65536) (hra : Rd w A (is_ a.kept)) (hrb : Rd w B (is_ b.kept)) :
    Calls Try.prog 20 #[stV a.now A n c, stV b.now B m d] w fun e w' => e = .returned (.bool (sameS a b)) ∧ Below w.heap.size w w' := by
  obtain ⟨x, k⟩ := a
  obtain ⟨y, l⟩ := b
  simp only at hn hm hra hrb
  rw [stV, stV]
  have hbe : Below w.heap.size w ((w.alloc (.cells #[.int .i64 x, .slice A n c] 27)).alloc (.cells #[.int .i64 y, .slice B m d] 27)) := ((Below.refl _ w).alloc (Nat.le_refl _) _).alloc (by simp) _
  have ra := hra.below hbe
  have rb := hrb.below hbe
  obtain ⟨v, hv⟩ : ∃ v, decide (k = l) = v := ⟨_, rfl⟩
  have HS := Lib.hid (show sameS ⟨x, k⟩ ⟨y, l⟩ = (decide (x = y) && v) by rw [← hv]; rfl)
  rw [HS.out]
  clear HS
  go_enter Try.func20, Try.ntmps20
  have hc := eq_any A B c d k l _ (by omega) (by omega) ra rb
  rw [hv, hn, hm] at hc
  by_cases h : x = y
  · have t1 : (x == y) = true := by simp [h]
    rw [decide_eq_true h, Bool.true_and]
    clear h
    go_wp2_with fail
    refine hc.mono ?_
    rintro e w2 ⟨rfl, hb2⟩
    go_wp2_with fail
    go_ret
    exact ⟨rfl, hbe.trans (hb2.mono hbe.size)⟩
  · have t1 : (x == y) = false := by simp [h]
    rw [decide_eq_false h, Bool.false_and]
    clear h
    go_wp2_with fail
    go_ret
    exact ⟨rfl, hbe⟩
end Go.Proofs.Ytocbkcofmebfmaa
