/-
  Layer 9: what keys are: mathematics.
-/
import Derived.Test.YtdhpbihooeckoaaDoorBase
namespace Go.Proofs.YtdhpbihooeckoaaDoor

structure En where
  kind : Int
  fin : Int
  num : Int
  char : Int
  keys : Bool
deriving DecidableEq
def letterN (c : Int) : Int :=
  if c = 57350 ∨ c = 57417 then 68 else if c = 57351 ∨ c = 57418 then 67 else if c = 57352 ∨ c = 57419 then 65 else if c = 57353 ∨ c = 57420 then 66
  else if c = 57356 ∨ c = 57423 then 72 else if c = 57357 ∨ c = 57424 then 70 else if c = 57427 then 69 else if 57364 ≤ c ∧ c ≤ 57367 then 80 + c - 57364 else 0
def numberN (c : Int) : Int :=
  if c = 57348 ∨ c = 57425 then 2 else if c = 57349 ∨ c = 57426 then 3 else if c = 57354 ∨ c = 57421 then 5 else if c = 57355 ∨ c = 57422 then 6
  else if c = 57368 then 15 else if 57369 ≤ c ∧ c ≤ 57373 then 17 + c - 57369 else if 57374 ≤ c ∧ c ≤ 57375 then 23 + c - 57374 else if c = 57363 then 29 else 0
def padE (c : Int) : En :=
  if c ≤ 57408 then ⟨5, 112 + c - 57399, 0, 48 + c - 57399, true⟩
  else ⟨5, [110, 111, 106, 109, 107, 77, 88, 108].getD (c - 57409).toNat 0, 0, [46, 47, 42, 45, 43, 13, 61, 44].getD (c - 57409).toNat 0, true⟩
def isPtK (c : Int) : Bool := decide (0 ≤ c ∧ c ≤ 1114111 ∧ ¬ (55296 ≤ c ∧ c ≤ 57343))
def restN (c : Int) : Int :=
  if c = 9 ∨ c = 13 ∨ c = 27 ∨ c = 127 then 2
  else if 57358 ≤ c ∧ c ≤ 57362 ∨ 57376 ≤ c ∧ c ≤ 57398 ∨ 57428 ≤ c ∧ c ≤ 57440 then 6
  else if 57441 ≤ c ∧ c ≤ 57454 then 7
  else if isPtK c = false ∨ c < 32 ∨ 127 ≤ c ∧ c ≤ 159 ∨ 57344 ≤ c ∧ c ≤ 63743 then 0 else 1
def lookE (c : Int) : En :=
  if letterN c ≠ 0 then ⟨3, letterN c, 0, 0, decide (57399 ≤ c)⟩
  else if numberN c ≠ 0 then ⟨4, 0, numberN c, 0, decide (57399 ≤ c)⟩
  else if 57399 ≤ c ∧ c ≤ 57416 then padE c else ⟨restN c, 0, 0, 0, false⟩
/-- Whether a code has a form. -/
def hasE (f n c : Int) : Bool := (lookE c).kind == 3 && (lookE c).fin == f || (lookE c).kind == 4 && f == 126 && (lookE c).num == n
def findK (f n : Int) : Nat → Int → Int × Bool
  | 0, _ => (0, false)
  | k + 1, c => if hasE f n c then (c, true) else findK f n k (c + 1)
def findE (f n : Int) : Int × Bool := findK f n 55 57344
theorem letter_out {c : Int} (h : c < 57344 ∨ 57455 ≤ c) : letterN c = 0 := by
  unfold letterN
  repeat' split
  all_goals omega
theorem number_out {c : Int} (h : c < 57344 ∨ 57455 ≤ c) : numberN c = 0 := by
  unfold numberN
  repeat' split
  all_goals omega
/-- What has no code of its own. -/
theorem look_out {c : Int} (h : c < 57344 ∨ 57455 ≤ c) : lookE c = ⟨restN c, 0, 0, 0, false⟩ := by
  unfold lookE
  rw [letter_out h, number_out h, if_neg (by decide), if_neg (by decide), if_neg (by omega)]
theorem find_hit (f n : Int) : ∀ (k : Nat) (c : Int), (findK f n k c).2 = true → hasE f n (findK f n k c).1 = true ∧ c ≤ (findK f n k c).1 ∧ (findK f n k c).1 < c + k
  | 0, _, h => by cases h
  | k + 1, c, h => by
    unfold findK at h ⊢
    split
    next hc => exact ⟨hc, Int.le_refl _, by simp; omega⟩
    next hc =>
      rw [if_neg hc] at h
      have := find_hit f n k (c + 1) h
      exact ⟨this.1, by omega, by simp; omega⟩
theorem find_none (f n : Int) : ∀ (k : Nat) (c : Int), (findK f n k c).2 = false → (findK f n k c).1 = 0 ∧ ∀ d, c ≤ d → d < c + k → hasE f n d = false
  | 0, c, _ => ⟨rfl, fun d h1 h2 => by simp at h2; omega⟩
  | k + 1, c, h => by
    unfold findK at h ⊢
    split
    next hc => rw [if_pos hc] at h; cases h
    next hc =>
      rw [if_neg hc] at h
      have ih := find_none f n k (c + 1) h
      refine ⟨ih.1, fun d h1 h2 => ?_⟩
      by_cases hd : d = c
      · subst hd; simpa using hc
      · exact ih.2 d (by omega) (by push_cast at h2; omega)
/-- The codes of the main board, one by one: each with a form is found by it. -/
theorem main_all : ∀ k : Fin 111, ((lookE (57344 + k.1)).kind == 3 || (lookE (57344 + k.1)).kind == 4) && !(lookE (57344 + k.1)).keys → findE (if (lookE (57344 + k.1)).kind = 4 then 126 else (lookE (57344 + k.1)).fin) (lookE (57344 + k.1)).num = (57344 + (k.1 : Int), true) := by decide +kernel
theorem rest_rng (c : Int) : restN c = 0 ∨ restN c = 1 ∨ restN c = 2 ∨ restN c = 6 ∨ restN c = 7 := by
  unfold restN
  repeat' split
  all_goals simp
theorem main_found {c : Int} (hk : (lookE c).kind = 3 ∨ (lookE c).kind = 4) (hm : (lookE c).keys = false) : findE (if (lookE c).kind = 4 then 126 else (lookE c).fin) (lookE c).num = (c, true) := by
  by_cases h : c < 57344 ∨ 57455 ≤ c
  · rw [look_out h] at hk
    have := rest_rng c
    simp only at hk
    omega
  · obtain ⟨k, hk2⟩ : ∃ k : Fin 111, c = 57344 + k.1 := ⟨⟨(c - 57344).toNat, by omega⟩, by simp; omega⟩
    subst hk2
    exact main_all k (by rw [hm]; rcases hk with e | e <;> rw [e] <;> rfl)
theorem code_all : ∀ k : Fin 111, (lookE (57344 + k.1)).kind = 0 ∨ (lookE (57344 + k.1)).kind = 3 ∨ (lookE (57344 + k.1)).kind = 4 ∨ (lookE (57344 + k.1)).kind = 5 ∨ (lookE (57344 + k.1)).kind = 6 ∨ (lookE (57344 + k.1)).kind = 7 := by decide +kernel
/-- No code of the main board stands on the pad. -/
theorem main_keys : ∀ k : Fin 55, (lookE (57344 + k.1)).keys = false := by decide +kernel
theorem found_right {f n : Int} (h : (findE f n).2 = true) : hasE f n (findE f n).1 = true ∧ (lookE (findE f n).1).keys = false := by
  obtain ⟨h1, h2, h3⟩ := find_hit f n 55 57344 h
  refine ⟨h1, ?_⟩
  have hb : 57344 ≤ (findE f n).1 ∧ (findE f n).1 < 57344 + 55 := ⟨h2, h3⟩
  obtain ⟨c, hc⟩ : ∃ c, (findE f n).1 = c := ⟨_, rfl⟩
  rw [hc] at hb ⊢
  obtain ⟨k, rfl⟩ : ∃ k : Fin 55, c = 57344 + k.1 := ⟨⟨(c - 57344).toNat, by omega⟩, by simp; omega⟩
  exact main_keys k
end Go.Proofs.YtdhpbihooeckoaaDoor
