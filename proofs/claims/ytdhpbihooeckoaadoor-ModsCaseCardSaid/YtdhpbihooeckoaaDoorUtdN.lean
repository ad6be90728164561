/-
  Layer 2, the mathematics of following bytes.
-/
import Derived.Test.YtdhpbihooeckoaaDoorBase
import Derived.Test.YtdhpbihooeckoaaDoorUtfM
namespace Go.Proofs.YtdhpbihooeckoaaDoor

def accL (x : Int) : List UInt8 → Option Int
  | [] => some x
  | c :: t => if fol c = true then accL (x * 64 + ((c.toNat : Int) - 128)) t else none
theorem accL_append (x : Int) (t u : List UInt8) : accL x (t ++ u) = (accL x t).bind fun y => accL y u := by
  induction t generalizing x with
  | nil => rfl
  | cons c t ih =>
    by_cases hf : fol c = true
    · have e1 : ∀ t, accL x (c :: t) = accL (x * 64 + ((c.toNat : Int) - 128)) t := fun t => if_pos hf
      rw [List.cons_append, e1, e1]
      exact ih _
    · have e1 : ∀ t, accL x (c :: t) = none := fun t => if_neg hf
      rw [List.cons_append, e1, e1]
      rfl
theorem accL_step (x : Int) (l : List UInt8) (k : Nat) (h : k < l.length) (y : Int) (hy : accL x (l.take k) = some y) :
    accL x (l.take (k + 1)) = if fol l[k] = true then some (y * 64 + ((l[k].toNat : Int) - 128)) else none := by
  rw [List.take_succ_eq_append_getElem h, accL_append, hy]
  rfl
theorem accL_none (x : Int) (l : List UInt8) (k j : Nat) (hk : k ≤ j) (h : accL x (l.take k) = none) : accL x (l.take j) = none := by
  have e : l.take j = l.take k ++ (l.drop k).take (j - k) := by
    rw [← List.take_add, show k + (j - k) = j by omega]
  rw [e, accL_append, h]; rfl
theorem accL_bd : ∀ (t : List UInt8) (x y : Int), 0 ≤ x → accL x t = some y → 0 ≤ y := by
  intro t
  induction t with
  | nil => intro x y h0 h; injection h with h; omega
  | cons c t ih =>
    intro x y h0 h
    unfold accL at h
    split at h
    · rename_i hf
      have := (fol_iff c).1 hf
      exact ih _ y (by omega) h
    · cases h
theorem accL_up (x : Int) (l : List UInt8) (k : Nat) (hk : k ≤ 3) (h0 : 0 ≤ x) (h1 : x < 256) (y : Int) (h : accL x (l.take k) = some y) : 0 ≤ y ∧ y < 67108864 := by
  refine ⟨accL_bd _ _ _ h0 h, ?_⟩
  have step : ∀ (t : List UInt8) (x y B : Int), x < B → accL x t = some y → y < B * 64 ^ t.length := by
    intro t
    induction t with
    | nil => intro x y B hB h; injection h with h; simp; omega
    | cons c t ih =>
      intro x y B hB h
      unfold accL at h
      split at h
      · rename_i hf
        have := (fol_iff c).1 hf
        have h2 := ih _ y (B * 64) (by omega) h
        rw [List.length_cons, show B * 64 ^ (t.length + 1) = B * 64 * 64 ^ t.length by rw [Int.pow_succ]; simp only [Int.mul_assoc]; rw [Int.mul_comm (64 ^ t.length)]]
        exact h2
      · cases h
  have hs := step _ x y 256 h1 h
  have hl : (l.take k).length ≤ 3 := Nat.le_trans (List.length_take_le _ _) hk
  have : (l.take k).length = 0 ∨ (l.take k).length = 1 ∨ (l.take k).length = 2 ∨ (l.take k).length = 3 := by omega
  rcases this with e | e | e | e <;> (rw [e] at hs; simp at hs; omega)

end Go.Proofs.YtdhpbihooeckoaaDoor
