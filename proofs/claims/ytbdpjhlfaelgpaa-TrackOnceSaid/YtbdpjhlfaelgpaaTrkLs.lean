/-
  From layer 15's walks on: a slice of a mouse's events that came in.
-/
import Derived.Test.YtbdpjhlfaelgpaaTrkL
import Derived.Test.YtbdpjhlfaelgpaaTrkO
namespace Go.Proofs.Ytbdpjhlfaelgpaa
open Go.RowKit Go.WideShapes Go.ChangeShapes Go.ChangeAt Go.ChangeMaps Go.Deep

section
variable {H : Type} {enc : TypeId × Value → H}
theorem addr_at_ms (b o n : Nat) : (⟨b, o, none⟩ : Addr).add n = ⟨b, o + n, none⟩ := by unfold Addr.add; split <;> simp_all
set_option maxRecDepth 100000 in
theorem open_mss {r : Reach} {b0 : Nat} {W : World} {v : Value} {d : DataW H} {ps : List MemPlace} (hval : Value.okWide Try.prog W r b0 36 v) (h : DataW.Trod enc Try.prog W 0 (fun _ => true) true 36 v d ps) :
    ∃ A ls c, v = .slice A (ls : List Ms).length c ∧ ls.length ≤ maxLen ∧ RdMs W A ls := by
  obtain ⟨a0, len, cap, rfl⟩ := okWide_slice Try.underlying36 hval
  obtain ⟨fuel, hf⟩ := h
  have c2 : Try.prog.cellsOf 25 = 5 := by kernel_rfl
  rcases open_slice Try.underlying36 hf with ⟨hcs, _⟩ | ⟨a, len', cap', m, n, D, Pl, hcs, _, hl, hcm, hm, _, hi⟩
  · simp [Value.cells] at hcs
    obtain ⟨rfl, rfl, rfl⟩ := hcs
    exact ⟨none, [], 0, rfl, Nat.zero_le _, fun h => absurd h (by simp)⟩
  · simp [Value.cells] at hcs
    obtain ⟨rfl, rfl, rfl⟩ := hcs
    simp only [if_true] at hm
    rw [c2] at hi
    have each : ∀ i, i < len → ∃ e : Ms, ∀ j u, (msC e)[j]? = some u → W.cell? (a.add (i * 5 + j)) = some u := fun i hil => by
      obtain ⟨cs', h1, h2⟩ := hi i (by omega)
      obtain ⟨e, rfl⟩ := ms_in h2
      refine ⟨e, fun j u hu => ?_⟩
      obtain ⟨_, hcl, hat⟩ := World.cells?_some h1
      have hj : j < 5 := by
        have := (Array.getElem?_eq_some_iff.1 hu).1
        exact this
      rw [← Go.Deep.add_add, hat j hj, ← hu, Array.getElem?_toList]
    refine ⟨some a, (List.range len).map fun i => if h : i < len then (each i h).choose else ⟨0, 0, 0, 0, 0⟩, cap, by simp, by simp; omega, fun hp => ?_⟩
    simp only [List.length_map, List.length_range] at hp
    obtain ⟨b, o, sp⟩ := a
    have h00 := (each 0 (by omega)).choose_spec 0 _ rfl
    obtain rfl : sp = none := by simpa [Addr.add] using World.cell?_spot h00
    rw [addr_at_ms] at h00
    refine ⟨b, o, rfl, World.block_lt_of_cell? W _ h00, fun k hk => ?_⟩
    simp only [List.length_map, List.length_range] at hk
    have e : ((List.range len).map fun i => if h : i < len then (each i h).choose else ⟨0, 0, 0, 0, 0⟩)[k]'(by simpa using hk) = (each k hk).choose := by
      rw [List.getElem_map, List.getElem_range, dif_pos hk]
    rw [e]
    intro j u hu
    have h4 := (each k hk).choose_spec j u (by rw [← Array.getElem?_toList]; exact hu)
    rw [addr_at_ms] at h4
    rw [Nat.add_assoc]
    exact h4
end
end Go.Proofs.Ytbdpjhlfaelgpaa
