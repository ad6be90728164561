/-
  Layer 1's plain mathematics: figures with which bytes begin; figures of sixteen, there and back. No program is named here.
-/
import Derived.Test.YtadmokikbajenaaDoorBase
namespace Go.Proofs.YtadmokikbajenaaDoor
open Go.RowKit

def isD (c : UInt8) : Bool := decide (48 ≤ c.toNat ∧ c.toNat ≤ 57)
def dstep (n : Nat) (c : UInt8) : Nat := min (n * 10 + (c.toNat - 48)) 1114111
/-- How many figures bytes begin with, and the number that they are. -/
def digs (l : List UInt8) : Nat := (l.takeWhile isD).length
def satv (l : List UInt8) : Nat := (l.takeWhile isD).foldl dstep 0
def satk (l : List UInt8) (k : Nat) : Nat := (l.take k).foldl dstep 0

theorem take_snoc (l : List UInt8) (k : Nat) (h : k < l.length) : l.take (k + 1) = l.take k ++ [l[k]] := by
  rw [List.take_succ_eq_append_getElem h]
theorem satk_zero (l : List UInt8) : satk l 0 = 0 := rfl
theorem satk_succ (l : List UInt8) (k : Nat) (h : k < l.length) : satk l (k + 1) = dstep (satk l k) l[k] := by
  unfold satk; rw [take_snoc l k h, List.foldl_append]; rfl
theorem dstep_le (n : Nat) (c : UInt8) : dstep n c ≤ 1114111 := Nat.min_le_right _ _
theorem satk_le (l : List UInt8) : ∀ k, satk l k ≤ 1114111 := by
  intro k
  unfold satk
  generalize l.take k = t
  cases ht : t.reverse with
  | nil => rw [List.reverse_eq_nil_iff] at ht; subst ht; simp
  | cons c r =>
    have : t = r.reverse ++ [c] := by rw [← List.reverse_reverse t, ht]; simp
    rw [this, List.foldl_append]
    exact dstep_le _ _

theorem takeWhile_of_all {p : UInt8 → Bool} : ∀ (l : List UInt8) (k : Nat), k ≤ l.length → (∀ j (h : j < l.length), j < k → p l[j] = true) → (∀ h : k < l.length, p l[k] = false) → l.takeWhile p = l.take k
  | [], k, hk, _, _ => by simp at hk; subst hk; rfl
  | c :: r, 0, _, _, hn => by
    have := hn (by simp)
    simp at this
    simp [this]
  | c :: r, k + 1, hk, ha, hn => by
    have h0 := ha 0 (by simp) (by omega)
    simp at h0
    rw [List.takeWhile_cons_of_pos h0, List.take_succ_cons]
    congr 1
    refine takeWhile_of_all r k (by simpa using hk) (fun j h hj => ?_) (fun h => ?_)
    · exact ha (j + 1) (by rw [List.length_cons]; omega) (by omega)
    · exact hn (by rw [List.length_cons]; omega)
theorem digs_at (l : List UInt8) (k : Nat) (hk : k ≤ l.length) (ha : ∀ j (h : j < l.length), j < k → isD l[j] = true) (hn : ∀ h : k < l.length, isD l[k] = false) : digs l = k ∧ satv l = satk l k := by
  unfold digs satv satk
  rw [takeWhile_of_all l k hk ha hn]
  exact ⟨by rw [List.length_take]; omega, rfl⟩
end Go.Proofs.YtadmokikbajenaaDoor
