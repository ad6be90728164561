/-
  Layer 10's mathematics: events of keys, and their modifiers.
-/
import Derived.Test.YtdhpbihooeckoaaDoorKeyM
import Derived.Test.YtdhpbihooeckoaaDoorUtfM
namespace Go.Proofs.YtdhpbihooeckoaaDoor

/-- A key's event. -/
structure Ky where
  code : Int
  mods : Int
  typ : Int
  shift : Int
  base : Int
  text : ByteArray
def in10 (n : Int) : Prop := -9223372036854775808 ≤ n ∧ n ≤ 9223372036854775807
/-- Its numbers are numbers of 64 bits. -/
structure okK (k : Ky) : Prop where
  code : in10 k.code
  mods : in10 k.mods
  typ : in10 k.typ
  shift : in10 k.shift
  base : in10 k.base
def textK (c : Int) : Bool := (lookE c).kind == 1
def cleanP (ks : List Int) : Bool := ks.all fun r => !(decide (r < 32) || decide (127 ≤ r) && decide (r ≤ 159))
def cleanO : Option (List Int) → Bool
  | some ks => decide (ks.length ≤ 8) && cleanP ks
  | none => false
def cleanL (l : List UInt8) : Bool := cleanO (allL l)
def cleanB (s : ByteArray) : Bool := cleanL s.data.toList
def mayK (k : Ky) : Bool := !((lookE k.code).kind == 0 || decide (k.mods < 0) || decide (255 < k.mods) || decide (k.typ < 1) || decide (3 < k.typ)) && ((k.shift == 0 || textK k.shift) && (k.base == 0 || textK k.base) && cleanB k.text)
def hasN (n one : Int) : Bool := max n 0 / one % 2 == 1
def oldN (n : Int) : Int := max n 0 % 8
def paramN (n : Int) : Int := if n < 0 ∨ 255 < n then 1 else n + 1
def ofN (p : Int) : Int × Bool := if p < 1 ∨ 256 < p then (0, false) else (p - 1, true)
def shownK (k : Ky) : Int := if hasN k.mods 1 = false then k.code else if k.shift ≠ 0 then k.shift else if 97 ≤ k.code ∧ k.code ≤ 122 then k.code - 32 else k.code
def foldN (c : Int) : Int × Bool :=
  if c = 32 ∨ c = 50 ∨ c = 64 then (0, true) else if 97 ≤ c ∧ c ≤ 122 then (c - 96, true) else if 65 ≤ c ∧ c ≤ 95 then (c - 64, true) else if 51 ≤ c ∧ c ≤ 55 then (27 + c - 51, true) else if c = 47 then (31, true) else if c = 56 ∨ c = 63 then (127, true) else (0, false)

theorem of_param {n : Int} (h : 0 ≤ n) (h2 : n ≤ 255) : ofN (paramN n) = (n, true) := by
  unfold paramN
  rw [if_neg (by omega)]
  unfold ofN
  rw [if_neg (by omega), Int.add_sub_cancel]
theorem param_at {n : Int} (h : 0 ≤ n) (h2 : n ≤ 255) : paramN n = n + 1 := if_neg (by omega)
theorem old_at {n : Int} (h : 0 ≤ n) : oldN n = n % 8 := by
  unfold oldN
  rw [Int.max_eq_left h]
theorem fold_small {c : Int} (h : 0 ≤ c) (h2 : c < 26) : foldN (97 + c) = (c + 1, true) := by
  unfold foldN
  rw [if_neg (by omega), if_pos (by omega)]
  congr 1
  omega
theorem fold_large {c : Int} (h : 0 ≤ c) (h2 : c < 26) : foldN (97 + c - 32) = (c + 1, true) := by
  unfold foldN
  rw [if_neg (by omega), if_neg (by omega), if_pos (by omega)]
  congr 1
  omega
/-- What a character folds to. -/
theorem fold_rng (c : Int) : ((foldN c).2 = true → 0 ≤ (foldN c).1 ∧ ((foldN c).1 < 32 ∨ (foldN c).1 = 127)) ∧ ((foldN c).2 = false → (foldN c).1 = 0) := by
  unfold foldN
  repeat' split
  all_goals simp
  all_goals omega
theorem shown_even {k : Ky} {m : Int} (h : m % 2 = 0) : shownK { k with mods := m } = k.code := by
  unfold shownK
  rw [if_pos]
  show hasN m 1 = false
  unfold hasN
  rw [Int.ediv_one]
  have : max m 0 % 2 = 0 := by omega
  rw [this]
  rfl
theorem clean_nil : cleanB ByteArray.empty = true := by decide
theorem may_parts (k : Ky) : mayK k = true ↔ ((lookE k.code).kind ≠ 0 ∧ 0 ≤ k.mods ∧ k.mods ≤ 255 ∧ 1 ≤ k.typ ∧ k.typ ≤ 3) ∧ (k.shift = 0 ∨ textK k.shift = true) ∧ (k.base = 0 ∨ textK k.base = true) ∧ cleanB k.text = true := by
  unfold mayK
  simp only [Bool.and_eq_true, Bool.not_eq_true', Bool.or_eq_false_iff, Bool.or_eq_true, beq_iff_eq, beq_eq_false_iff_ne, decide_eq_false_iff_not, and_assoc, ne_eq]
  constructor <;> (rintro ⟨h1, h2, h3, h4, h5, h6, h7, h8⟩; exact ⟨h1, by omega, by omega, by omega, by omega, h6, h7, h8⟩)
/-- Less may still be. -/
theorem may_bare {k : Ky} (h : mayK k = true) : mayK { k with shift := 0, base := 0 } = true := by
  rw [may_parts] at h ⊢
  exact ⟨h.1, .inl rfl, .inl rfl, h.2.2.2⟩
theorem may_mute {k : Ky} (h : mayK k = true) : mayK { k with text := ByteArray.empty } = true := by
  rw [may_parts] at h ⊢
  exact ⟨h.1, h.2.1, h.2.2.1, clean_nil⟩
theorem may_fewer {k : Ky} (h : mayK k = true) {f : Int} (hf : 0 ≤ f) : mayK { k with mods := k.mods % (1 + f) } = true := by
  rw [may_parts] at h ⊢
  have h1 := Int.emod_nonneg k.mods (show 1 + f ≠ 0 by omega)
  have h2 : k.mods % (1 + f) ≤ k.mods := by
    by_cases h3 : k.mods < 1 + f
    · rw [Int.emod_eq_of_lt h.1.2.1 h3]
      exact Int.le_refl _
    · have := Int.emod_lt_of_pos k.mods (show 0 < 1 + f by omega)
      omega
  exact ⟨⟨h.1.1, h1, by have := h.1.2.2.1; show k.mods % (1 + f) ≤ 255; omega, h.1.2.2.2⟩, h.2⟩
end Go.Proofs.YtdhpbihooeckoaaDoor
