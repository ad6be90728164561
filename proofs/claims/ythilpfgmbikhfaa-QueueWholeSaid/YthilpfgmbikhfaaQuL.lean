/-
  From layer 4's walks to a law's row: steps, and arrays of two numbers, that came in.
-/
import Derived.Test.YthilpfgmbikhfaaOpen
import Derived.Test.YthilpfgmbikhfaaQuS
namespace Go.Proofs.Ythilpfgmbikhfaa
open Go.RowKit Go.WideShapes Go.ChangeShapes Go.ChangeAt Go.ChangeMaps Go.Deep

section
variable {H : Type} {enc : TypeId × Value → H}
/-- A slice of bytes, found in memory. -/
theorem bytes_in {P : Program} {t e : TypeId} (ht : P.underlying t = some (.slice e)) (he : P.underlying e = some (.int .u8)) (hc : P.cellsOf e = 1) {W : World} {held : Bool} {fuel : Nat} {cs : List Value} {x : DataW H × List MemPlace} (h : DataW.trod enc P W 0 (fun _ => true) held fuel t cs = some x) :
    ∃ A l c, cs = [.slice A (l : List UInt8).length c] ∧ Rd W A (bs l) ∧ l.length ≤ maxLen := by
  rcases open_ints ht he hc h with ⟨hcs, _⟩ | ⟨a, len, cap, zs, hcs, _, hl, hm, hz, _, hcell, hwf⟩
  · exact ⟨none, [], 0, hcs, Rd.nil _ _, Nat.zero_le _⟩
  · simp only [if_true] at hz
    have hlen : (zs.take len).length = len := by rw [List.length_take]; omega
    refine ⟨some a, (zs.take len).map fun z => UInt8.ofNat z.toNat, cap, by rw [List.length_map, hlen]; exact hcs, ?_, by rw [List.length_map, hlen]; omega⟩
    rw [bs_of_nums _ fun z hz' => hwf z (List.mem_of_mem_take hz')]
    intro hp
    rw [List.length_map, hlen] at hp
    obtain ⟨b, off, rfl, hc2⟩ := ints_at hcell (by omega)
    have h0 := hc2 0 (by omega)
    refine ⟨b, off, rfl, World.block_lt_of_cell? W _ h0, fun i u hu => ?_⟩
    have hi : i < len := by
      have := (List.getElem?_eq_some_iff.1 hu).1
      rw [List.length_map, hlen] at this
      exact this
    rw [hc2 i (by omega), ← hu]
    simp [hi, List.getD, List.getElem?_eq_getElem (show i < zs.length by omega)]
def stC (s : St) (A : Option Addr) (c : Nat) : List Value := [.slice A s.1.length c, .int .i64 s.2]
set_option maxRecDepth 100000 in
theorem step_in {W : World} {held : Bool} {fuel : Nat} {cs : List Value} {x : DataW H × List MemPlace} (h : DataW.trod enc Try.prog W 0 (fun _ => true) held fuel 32 cs = some x) :
    ∃ s A c, cs = stC s A c ∧ Rd W A (bs s.1) ∧ s.1.length ≤ maxLen ∧ (-9223372036854775808 ≤ s.2 ∧ s.2 ≤ 9223372036854775807) := by
  obtain ⟨xs, n, _, hx, hlen, hxl, hf⟩ := DataW.trod_struct Try.underlying32 h
  rw [show Try.prog.cellsOf 32 = 2 by kernel_rfl] at hlen
  match cs, hlen with
  | [u0, u1], _ =>
    match xs, hxl with
    | [y0, y1], _ =>
      have ci : Try.prog.cellsOf 3 = 1 := by kernel_rfl
      have cp : Try.prog.cellsOf 28 = 1 := by kernel_rfl
      have g0 : DataW.trod enc Try.prog W 0 (fun _ => true) held n 28 (List.take (Try.prog.cellsOf 28) (List.drop 0 [u0, u1])) = some y0 := hf 0 _ rfl
      have g1 : DataW.trod enc Try.prog W 0 (fun _ => true) held n 3 (List.take (Try.prog.cellsOf 3) (List.drop 1 [u0, u1])) = some y1 := hf 1 _ rfl
      rw [cp] at g0
      rw [ci] at g1
      obtain ⟨A, l, c, k0, hr, hl⟩ := bytes_in Try.underlying28 Try.underlying5 (by kernel_rfl) g0
      obtain ⟨z1, k1, _, w1⟩ := DataW.trod_int Try.underlying3 g1
      simp at k0 k1
      subst k0 k1
      have hb := bounds_i64 w1
      exact ⟨(l, z1), A, c, rfl, hr, hl, ⟨by omega, by omega⟩⟩
set_option maxRecDepth 100000 in
theorem open_steps {r : Reach} {b0 : Nat} {W : World} {v : Value} {d : DataW H} {ps : List MemPlace} (hval : Value.okWide Try.prog W r b0 22 v) (h : DataW.Trod enc Try.prog W 0 (fun _ => true) true 22 v d ps) :
    ∃ A ls c, v = .slice A (ls : List St).length c ∧ ls.length ≤ maxLen ∧ RdSt W A ls := by
  obtain ⟨a0, len, cap, rfl⟩ := okWide_slice Try.underlying22 hval
  obtain ⟨fuel, hf⟩ := h
  have c2 : Try.prog.cellsOf 32 = 2 := by kernel_rfl
  rcases open_slice Try.underlying22 hf with ⟨hcs, _⟩ | ⟨a, len', cap', m, n, D, Pl, hcs, _, hl, hcm, hm, _, hi⟩
  · simp [Value.cells] at hcs
    obtain ⟨rfl, rfl, rfl⟩ := hcs
    exact ⟨none, [], 0, rfl, Nat.zero_le _, fun h => absurd h (by simp)⟩
  · simp [Value.cells] at hcs
    obtain ⟨rfl, rfl, rfl⟩ := hcs
    simp only [if_true] at hm
    rw [c2] at hi
    have each : ∀ i, i < len → ∃ s A c, (Rd W A (bs (s : St).1) ∧ s.1.length ≤ maxLen ∧ (-9223372036854775808 ≤ s.2 ∧ s.2 ≤ 9223372036854775807)) ∧ ∀ j u, (stC s A c)[j]? = some u → W.cell? (a.add (i * 2 + j)) = some u := fun i hil => by
      obtain ⟨cs', h1, h2⟩ := hi i (by omega)
      obtain ⟨s, A, c, rfl, hs⟩ := step_in h2
      refine ⟨s, A, c, hs, fun j u hu => ?_⟩
      obtain ⟨_, hcl, hat⟩ := World.cells?_some h1
      have hj : j < 2 := by
        have := (List.getElem?_eq_some_iff.1 hu).1
        rw [hcl] at this
        exact this
      rw [← Go.Deep.add_add, hat j hj, hu]
    refine ⟨some a, (List.range len).map fun i => if h : i < len then (each i h).choose else ([], 0), cap, by simp, by simp; omega, fun hp => ?_⟩
    simp only [List.length_map, List.length_range] at hp
    obtain ⟨b, o, sp⟩ := a
    have h00 := (each 0 (by omega)).choose_spec.choose_spec.choose_spec.2 0 _ rfl
    obtain rfl : sp = none := by simpa [Addr.add] using World.cell?_spot h00
    rw [addr_add_at] at h00
    refine ⟨b, o, rfl, World.block_lt_of_cell? W _ h00, fun k hk => ?_⟩
    simp only [List.length_map, List.length_range] at hk
    have e : ((List.range len).map fun i => if h : i < len then (each i h).choose else ([], 0))[k]'(by simpa using hk) = (each k hk).choose := by
      rw [List.getElem_map, List.getElem_range, dif_pos hk]
    rw [e]
    obtain ⟨⟨h1, h2, h3⟩, h4⟩ := (each k hk).choose_spec.choose_spec.choose_spec
    have k0 := h4 0 _ rfl
    have k1 := h4 1 _ rfl
    rw [addr_add_at] at k0 k1
    exact ⟨_, _, RdIn.of h1, h2, h3, k0, k1⟩
set_option maxRecDepth 100000 in
theorem open_i2 {r : Reach} {b0 : Nat} {W : World} {v : Value} {d : DataW H} {ps : List MemPlace} (hval : Value.okWide Try.prog W r b0 43 v) (h : DataW.Trod enc Try.prog W 0 (fun _ => true) true 43 v d ps) :
    ∃ a b : Int, v = .agg #[.int .i64 a, .int .i64 b] ∧ (-9223372036854775808 ≤ a ∧ a ≤ 9223372036854775807) ∧ (-9223372036854775808 ≤ b ∧ b ≤ 9223372036854775807) := by
  obtain ⟨a, b, rfl, wa, wb⟩ := open_two Try.underlying43 Try.underlying3 (by kernel_rfl) (by kernel_rfl) hval h
  have ha := bounds_i64 wa
  have hb := bounds_i64 wb
  exact ⟨a, b, rfl, ⟨by omega, by omega⟩, ⟨by omega, by omega⟩⟩
end
end Go.Proofs.Ythilpfgmbikhfaa
