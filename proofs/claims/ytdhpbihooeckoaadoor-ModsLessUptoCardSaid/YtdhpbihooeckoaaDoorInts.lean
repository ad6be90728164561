/-
  Lists of numbers, read in memory; the document's comparison of two of them. (For layers that don't load layer 2's own texts.)
-/
import Derived.Test.YtdhpbihooeckoaaDoorBase
import Derived.BigQuiet
import Derived.Deep.QuietTactic
namespace Go.Proofs.YtdhpbihooeckoaaDoor
open Go.RowKit

/-- Numbers as values. -/
def is_ (l : List Int) : List Value := l.map (Value.int .i64)
theorem is_length (l : List Int) : (is_ l).length = l.length := by simp [is_]
theorem Rd.int_at {w : World} {A : Option Addr} {l : List Int} (h : Rd w A (is_ l)) (hp : 0 < l.length) :
    ∃ b o, A = some ⟨b, o, none⟩ ∧ b < w.heap.size ∧ ∀ k (hk : k < l.length), w.cell? ⟨b, o + k, none⟩ = some (.int .i64 l[k]) := by
  obtain ⟨b, o, rfl, hb, hc⟩ := h (by rw [is_length]; exact hp)
  exact ⟨b, o, rfl, hb, fun k hk => hc k _ (by simp [is_, hk])⟩

/-- A slice of slices of numbers. -/
def RdP (w : World) (A : Option Addr) (ps : List (List Int)) : Prop :=
  0 < ps.length → ∃ b o, A = some ⟨b, o, none⟩ ∧ b < w.heap.size ∧ ∀ k (hk : k < ps.length), ∃ A' c', w.cell? ⟨b, o + k, none⟩ = some (.slice A' (ps[k]).length c') ∧ Rd w A' (is_ ps[k])
theorem RdP.nil (w : World) (A : Option Addr) : RdP w A [] := fun h => absurd h (by simp)
theorem RdP.below {w w' : World} {A : Option Addr} {ps : List (List Int)} (h : RdP w A ps) (hb : Below w.heap.size w w') : RdP w' A ps := fun hp => by
  obtain ⟨b, o, rfl, hlt, hc⟩ := h hp
  refine ⟨b, o, rfl, Nat.lt_of_lt_of_le hlt hb.size, fun k hk => ?_⟩
  obtain ⟨A', c', h1, h2⟩ := hc k hk
  exact ⟨A', c', (hb.cell (p := ⟨b, o + k, none⟩) hlt).trans h1, h2.below hb⟩
theorem RdP.drewN {w : World} {A : Option Addr} {ps : List (List Int)} (h : RdP w A ps) (n : Nat) : RdP (w.drewN n) A ps := h
theorem RdP.alloc {w : World} {A : Option Addr} {ps : List (List Int)} (h : RdP w A ps) (o : Obj) : RdP (w.alloc o) A ps := h.below ((Below.refl _ _).alloc (Nat.le_refl _) o)
end Go.Proofs.YtdhpbihooeckoaaDoor
