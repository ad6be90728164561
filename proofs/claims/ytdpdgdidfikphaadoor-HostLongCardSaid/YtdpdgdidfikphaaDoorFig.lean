/-
  Numbers in figures, plainly: no program is named here. (Later layers' texts take this in the place of layer 1's own.)
-/
import Derived.Lib.ItoaLen
namespace Go.Proofs.YtdpdgdidfikphaaDoor

/-- A number in figures. -/
def textL (n : Int) : List UInt8 := if n < 0 then [] else Lib.decDigits n.toNat
theorem textL_neg (n : Int) (h : n < 0) : textL n = [] := if_pos h
theorem textL_small (n : Int) (h0 : 0 ≤ n) (h : n < 10) : textL n = [UInt8.ofNat (48 + n.toNat)] := by
  unfold textL; rw [if_neg (by omega), Lib.decDigits, dif_pos (by omega)]
theorem textL_big (n : Int) (h : 10 ≤ n) : textL n = textL (n / 10) ++ [UInt8.ofNat (48 + (n % 10).toNat)] := by
  unfold textL
  rw [if_neg (by omega), if_neg (by omega), Lib.decDigits, dif_neg (by omega)]
  rw [show (n / 10).toNat = n.toNat / 10 by omega, show (n % 10).toNat = n.toNat % 10 by omega]
theorem textL_length (n : Int) (h1 : n ≤ 9223372036854775807) : (textL n).length ≤ 21 := by
  by_cases h : n < 0
  · rw [textL_neg n h]; simp
  · rw [show textL n = Lib.itoa n by unfold textL Lib.itoa; rw [if_neg h, if_neg h]]
    exact Lib.itoa_length_le n (by omega) h1

def isD (c : UInt8) : Bool := decide (48 ≤ c.toNat ∧ c.toNat ≤ 57)
theorem digit_isD (k : Nat) (h : k < 10) : isD (UInt8.ofNat (48 + k)) = true ∧ (UInt8.ofNat (48 + k)).toNat = 48 + k := by
  have e : (UInt8.ofNat (48 + k)).toNat = 48 + k := UInt8.toNat_ofNat_of_lt' (by show 48 + k < 256; omega)
  unfold isD
  rw [e]
  exact ⟨decide_eq_true (by omega), rfl⟩
theorem dec_step (u : Nat) (h : ¬ u < 10) : Lib.decDigits u = Lib.decDigits (u / 10) ++ [UInt8.ofNat (48 + u % 10)] := by rw [Lib.decDigits, dif_neg h]
theorem dec_small (u : Nat) (h : u < 10) : Lib.decDigits u = [UInt8.ofNat (48 + u)] := by rw [Lib.decDigits, dif_pos h]
theorem dec_all (u : Nat) : ∀ c ∈ Lib.decDigits u, isD c = true := by
  induction u using Nat.strongRecOn with
  | _ u ih =>
    by_cases h : u < 10
    · rw [dec_small u h]
      intro c hc
      rw [List.mem_singleton] at hc
      subst hc
      exact (digit_isD u h).1
    · rw [dec_step u h]
      intro c hc
      rcases List.mem_append.1 hc with hc | hc
      · exact ih (u / 10) (by omega) c hc
      · rw [List.mem_singleton] at hc
        subst hc
        exact (digit_isD (u % 10) (by omega)).1
theorem dec_ne (u : Nat) : Lib.decDigits u ≠ [] := by
  by_cases h : u < 10
  · rw [dec_small u h]; simp
  · rw [dec_step u h]; simp
/-- Figures read on, held down at a greatest number. -/
def rd (M : Int) (n : Int) (c : UInt8) : Int := min (10 * max n 0 + ((c.toNat : Int) - 48)) M
theorem dec_read (M : Int) (u : Nat) (hM : 9 ≤ M) : (Lib.decDigits u).foldl (rd M) (-1) = min (u : Int) M := by
  induction u using Nat.strongRecOn with
  | _ u ih =>
    by_cases h : u < 10
    · rw [dec_small u h, List.foldl_cons, List.foldl_nil, rd, (digit_isD u h).2]; omega
    · rw [dec_step u h, List.foldl_append, ih (u / 10) (by omega), List.foldl_cons, List.foldl_nil, rd, (digit_isD (u % 10) (by omega)).2]; omega
theorem text_read (M n : Int) (hM : 9 ≤ M) (h : 0 ≤ n) : (textL n).foldl (rd M) (-1) = min n M := by
  unfold textL
  rw [if_neg (by omega), dec_read M _ hM]
  omega
theorem text_all_isD (n : Int) : ∀ c ∈ textL n, isD c = true := by
  unfold textL
  split
  · intro c hc; cases hc
  · exact dec_all _
theorem text_ne (n : Int) (h : 0 ≤ n) : textL n ≠ [] := by
  unfold textL
  rw [if_neg (by omega)]
  exact dec_ne _
end Go.Proofs.YtdpdgdidfikphaaDoor
