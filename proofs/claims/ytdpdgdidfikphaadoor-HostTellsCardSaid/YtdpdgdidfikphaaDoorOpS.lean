/-
  From walks to a law's row: a slice of sequences that came in.
-/
import Derived.Test.YtdpdgdidfikphaaDoorWpL
namespace Go.Proofs.YtdpdgdidfikphaaDoor
open Go.RowKit Go.WideShapes Go.ChangeShapes Go.ChangeAt Go.ChangeMaps Go.Deep

section
variable {H : Type} {enc : TypeId × Value → H}
set_option maxRecDepth 100000 in
theorem open_sqs {r : Reach} {b0 : Nat} {W : World} {v : Value} {d : DataW H} {ps : List MemPlace} (hval : Value.okWide Tryd.prog W r b0 26 v) (h : DataW.Trod enc Tryd.prog W 0 (fun _ => true) true 26 v d ps) :
    ∃ A ls c, v = .slice A (ls : List Sq).length c ∧ RdQ W A ls := by
  obtain ⟨a0, len, cap, rfl⟩ := okWide_slice Tryd.underlying26 hval
  obtain ⟨fuel, hf⟩ := h
  have c6 : Tryd.prog.cellsOf 32 = 6 := by kernel_rfl
  rcases open_slice Tryd.underlying26 hf with ⟨hcs, _⟩ | ⟨a, len', cap', m, n, D, Pl, hcs, _, hl, _, hm, _, hi⟩
  · simp [Value.cells] at hcs
    obtain ⟨rfl, rfl, rfl⟩ := hcs
    exact ⟨none, [], 0, rfl, fun h => absurd h (by simp)⟩
  · simp [Value.cells] at hcs
    obtain ⟨rfl, rfl, rfl⟩ := hcs
    simp only [if_true] at hm
    rw [c6] at hi
    have each : ∀ i, i < len → ∃ s A c, SqIn W s A c ∧ ∀ j u, (sqC s A c)[j]? = some u → W.cell? (a.add (i * 6 + j)) = some u := fun i hil => by
      obtain ⟨cs', h1, h2⟩ := hi i (by omega)
      obtain ⟨s, A, c, rfl, hs⟩ := sq_in h2
      refine ⟨s, A, c, hs, fun j u hu => ?_⟩
      obtain ⟨_, hcl, hat⟩ := World.cells?_some h1
      have hj : j < 6 := by
        have := (List.getElem?_eq_some_iff.1 hu).1
        rw [hcl] at this
        exact this
      rw [← Go.Deep.add_add, hat j hj, hu]
    refine ⟨some a, (List.range len).map fun i => if h : i < len then (each i h).choose else ⟨0, 0, [], [], 0, []⟩, cap, by simp, fun hp => ?_⟩
    simp only [List.length_map, List.length_range] at hp
    obtain ⟨b, o, sp⟩ := a
    have h00 := (each 0 (by omega)).choose_spec.choose_spec.choose_spec.2 0 _ rfl
    obtain rfl : sp = none := by simpa [Addr.add] using World.cell?_spot h00
    rw [addr_add_at] at h00
    refine ⟨b, o, rfl, World.block_lt_of_cell? W _ h00, fun k hk => ?_⟩
    simp only [List.length_map, List.length_range] at hk
    have e : ((List.range len).map fun i => if h : i < len then (each i h).choose else ⟨0, 0, [], [], 0, []⟩)[k]'(by simpa using hk) = (each k hk).choose := by
      rw [List.getElem_map, List.getElem_range, dif_pos hk]
    rw [e]
    obtain ⟨h1, h2⟩ := (each k hk).choose_spec.choose_spec.choose_spec
    refine ⟨_, _, h1, fun i u hu => ?_⟩
    have := h2 i u hu
    rw [addr_add_at] at this
    rw [Nat.add_assoc]
    exact this
end
end Go.Proofs.YtdpdgdidfikphaaDoor
