/-
  Layer 6's mathematics: what modes leave of each other.
-/
import Derived.Test.YtokhchejkfhmmaaModM
namespace Go.Proofs.Ytokhchejkfhmmaa

/-- A mode leaves all others as they were, but those of the mouse each other, and its codings, too. -/
theorem set_other (m : Mo) {n k : Int} (on : Bool) (hk : k ≠ n) (hm : mouseN k = false) (hc : codingN k = false) : getM (setM m true n on).1 true k = getM m true k := by
  by_cases h : canM true k = true
  · rw [get_is h, get_is h]
    have key : isM (setM m true n on).1 true k = isM m true k := by
      have hx : k = 1 ∨ k = 66 ∨ k = 67 ∨ k = 1004 ∨ k = 2004 := by simpa [canM, hm, hc] using h
      unfold isM setM
      simp only [Bool.true_eq_false, if_false]
      rcases hx with rfl | rfl | rfl | rfl | rfl
      all_goals
        simp only [if_true, show ¬ ((66 : Int) = 1) by decide, show ¬ ((67 : Int) = 1) by decide, show ¬ ((67 : Int) = 66) by decide, show ¬ ((1004 : Int) = 1) by decide, show ¬ ((1004 : Int) = 66) by decide, show ¬ ((1004 : Int) = 67) by decide, show ¬ ((2004 : Int) = 1) by decide, show ¬ ((2004 : Int) = 66) by decide, show ¬ ((2004 : Int) = 67) by decide, show ¬ ((2004 : Int) = 1004) by decide, if_false]
        (repeat' split) <;> first | rfl | (exfalso; omega)
    rw [key]
  · have h' : canM true k = false := by simpa using h
    rw [get_no h', get_no h']
theorem set_plain (m : Mo) (n k : Int) (on : Bool) : getM (setM m true n on).1 false k = getM m false k := by
  by_cases h : canM false k = true
  · rw [get_is h, get_is h]
    have key : isM (setM m true n on).1 false k = isM m false k := by
      unfold isM setM
      simp only [Bool.true_eq_false, if_false, if_true]
      (repeat' split) <;> rfl
    rw [key]
  · have h' : canM false k = false := by simpa using h
    rw [get_no h', get_no h']
theorem set_keeps (m : Mo) (p : Bool) (n : Int) (on : Bool) : (setM m p n on).1.other = m.other := by
  unfold setM plainM
  (repeat' split) <;> rfl
theorem set_priv (m : Mo) (n : Int) (on : Bool) : (setM m true n on).1.lock = m.lock ∧ (setM m true n on).1.line = m.line := by
  unfold setM
  simp only [Bool.true_eq_false, if_false]
  (repeat' split) <;> exact ⟨rfl, rfl⟩
/-- Two modes, the first of neither the mouse's nor of its codings, in either turn. -/
theorem set_turns (m : Mo) {n k : Int} (a b : Bool) (hk : n ≠ k) (hm : mouseN n = false) (hc : codingN n = false) : (setM (setM m true n a).1 true k b).1 = (setM (setM m true k b).1 true n a).1 := by
  by_cases h : canM true n = true
  · have hx : n = 1 ∨ n = 66 ∨ n = 67 ∨ n = 1004 ∨ n = 2004 := by simpa [canM, hm, hc] using h
    unfold setM
    simp only [Bool.true_eq_false, if_false]
    rcases hx with rfl | rfl | rfl | rfl | rfl
    all_goals
      simp only [if_true, show ¬ ((66 : Int) = 1) by decide, show ¬ ((67 : Int) = 1) by decide, show ¬ ((67 : Int) = 66) by decide, show ¬ ((1004 : Int) = 1) by decide, show ¬ ((1004 : Int) = 66) by decide, show ¬ ((1004 : Int) = 67) by decide, show ¬ ((2004 : Int) = 1) by decide, show ¬ ((2004 : Int) = 66) by decide, show ¬ ((2004 : Int) = 67) by decide, show ¬ ((2004 : Int) = 1004) by decide, if_false]
      (repeat' split) <;> first | rfl | (exfalso; omega) | (exfalso; simp_all; done)
  · have h' : canM true n = false := by simpa using h
    rw [set_no h', set_no h']
/-- A list's modes set in turn. -/
def setsM (m : Mo) : List (Int × Bool) → Mo
  | [] => m
  | (n, on) :: l => setsM (setM m true n on).1 l
theorem sets_snoc (m : Mo) (l : List (Int × Bool)) (n : Int) (on : Bool) : setsM m (l ++ [(n, on)]) = (setM (setsM m l) true n on).1 := by
  induction l generalizing m with
  | nil => rfl
  | cons x l ih => exact ih _
theorem may_sets (m : Mo) (l : List (Int × Bool)) (h : mayM m = true) : mayM (setsM m l) = true := by
  induction l generalizing m with
  | nil => exact h
  | cons x l ih => exact ih _ (may_set m true x.1 x.2 h)
theorem may_mo0 : mayM mo0 = true := by decide
/-- How many of the mouse's modes, and of its codings, are set, of the first of those that may be. -/
def mouseT (m : Mo) (x : Int) : Bool := decide (getM m true x = 1) && (decide (x = 9) || (decide (1000 ≤ x) && decide (x ≤ 1003)))
def codingT (m : Mo) (x : Int) : Bool := decide (getM m true x = 1) && (decide (1005 ≤ x) && decide (x ≤ 1015))
def miceM (m : Mo) (i : Nat) : Nat := ((ownM.take i).filter (mouseT m)).length
def codsM (m : Mo) (i : Nat) : Nat := ((ownM.take i).filter (codingT m)).length
theorem take_step (i : Nat) (h : i < 12) : ownM.take (i + 1) = ownM.take i ++ [ownM[i]] := List.take_succ_eq_append_getElem (l := ownM) h
theorem mice_step (m : Mo) (i : Nat) (h : i < 12) : miceM m (i + 1) = miceM m i + (if mouseT m (ownM[i]'h) = true then 1 else 0) := by
  unfold miceM
  rw [take_step i h, List.filter_append, List.length_append]
  congr 1
  by_cases hh : mouseT m (ownM[i]'h) = true
  · rw [if_pos hh, List.filter_cons_of_pos hh]; rfl
  · rw [if_neg hh, List.filter_cons_of_neg hh]; rfl
theorem cods_step (m : Mo) (i : Nat) (h : i < 12) : codsM m (i + 1) = codsM m i + (if codingT m (ownM[i]'h) = true then 1 else 0) := by
  unfold codsM
  rw [take_step i h, List.filter_append, List.length_append]
  congr 1
  by_cases hh : codingT m (ownM[i]'h) = true
  · rw [if_pos hh, List.filter_cons_of_pos hh]; rfl
  · rw [if_neg hh, List.filter_cons_of_neg hh]; rfl
theorem own_can {x : Int} (h : x ∈ ownM) : canM true x = true := by
  simp only [ownM, List.mem_cons, List.mem_nil_iff, or_false] at h
  rcases h with rfl | rfl | rfl | rfl | rfl | rfl | rfl | rfl | rfl | rfl | rfl | rfl <;> decide
theorem mouse_is {m : Mo} {x : Int} (hx : x ∈ ownM) (h : mouseT m x = true) : x = m.mouse := by
  simp only [mouseT, Bool.and_eq_true, Bool.or_eq_true, decide_eq_true_eq] at h
  have h1 := h.1
  rw [get_is (own_can hx)] at h1
  have h2 : isM m true x = true := by
    by_cases hh : isM m true x = true
    · exact hh
    · rw [if_neg hh] at h1; omega
  simp only [ownM, List.mem_cons, List.mem_nil_iff, or_false] at hx
  have hm : mouseN x = true := by rw [mouseN_iff]; omega
  unfold isM at h2
  rw [if_neg (by decide), if_neg (by omega), if_neg (by omega), if_neg (by omega), if_neg (by omega), if_neg (by omega), if_pos hm] at h2
  exact (of_decide_eq_true h2).symm
theorem coding_is {m : Mo} {x : Int} (hx : x ∈ ownM) (h : codingT m x = true) : x = m.coding := by
  simp only [codingT, Bool.and_eq_true, decide_eq_true_eq] at h
  have h1 := h.1
  rw [get_is (own_can hx)] at h1
  have h2 : isM m true x = true := by
    by_cases hh : isM m true x = true
    · exact hh
    · rw [if_neg hh] at h1; omega
  simp only [ownM, List.mem_cons, List.mem_nil_iff, or_false] at hx
  have hm : ¬ mouseN x = true := by rw [mouseN_iff]; omega
  unfold isM at h2
  rw [if_neg (by decide), if_neg (by omega), if_neg (by omega), if_neg (by omega), if_neg (by omega), if_neg (by omega), if_neg hm] at h2
  exact (of_decide_eq_true h2).symm
theorem filter_one (p : Int → Bool) (y : Int) : ∀ (l : List Int), l.Nodup → (∀ x ∈ l, p x = true → x = y) → (l.filter p).length ≤ 1
  | [], _, _ => by simp
  | x :: l, hn, h => by
    obtain ⟨h1, h2⟩ := List.nodup_cons.1 hn
    by_cases hx : p x = true
    · rw [List.filter_cons_of_pos hx]
      have e : l.filter p = [] := by
        rw [List.filter_eq_nil_iff]
        intro z hz hpz
        have := h z (List.mem_cons_of_mem _ hz) hpz
        have := h x (List.mem_cons_self ..) hx
        exact h1 (by rw [this, ← ‹z = y›]; exact hz)
      rw [e]; simp
    · rw [List.filter_cons_of_neg hx]
      exact filter_one p y l h2 fun z hz => h z (List.mem_cons_of_mem _ hz)
theorem own_nodup : ownM.Nodup := by decide
theorem mice_one (m : Mo) (i : Nat) : miceM m i ≤ 1 :=
  filter_one _ m.mouse _ (own_nodup.sublist (List.take_sublist _ _)) fun _ hx h => mouse_is (List.mem_of_mem_take hx) h
theorem cods_one (m : Mo) (i : Nat) : codsM m i ≤ 1 :=
  filter_one _ m.coding _ (own_nodup.sublist (List.take_sublist _ _)) fun _ hx h => coding_is (List.mem_of_mem_take hx) h
theorem can_own (n : Int) : canM true n = ownM.contains n := by
  rw [Bool.eq_iff_iff, List.contains_iff_mem]
  constructor
  · intro h
    have hx : (n = 1 ∨ n = 66 ∨ n = 67 ∨ n = 1004 ∨ n = 2004) ∨ (n = 9 ∨ n = 1000 ∨ n = 1002 ∨ n = 1003) ∨ (n = 1005 ∨ n = 1006 ∨ n = 1015) := by simpa [canM, mouseN, codingN] using h
    simp only [ownM, List.mem_cons, List.mem_nil_iff, or_false]
    omega
  · exact own_can
end Go.Proofs.Ytokhchejkfhmmaa
