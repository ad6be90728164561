/-
  From layer 3's walks to a law's row: arrays of two that came in; a slice of sequences that came in.
-/
import Derived.Test.YtmmbfidnbdckmaaDoorWpL
namespace Go.Proofs.YtmmbfidnbdckmaaDoor
open Go.RowKit Go.WideShapes Go.ChangeShapes Go.ChangeAt Go.ChangeMaps Go.Deep

section
variable {H : Type} {enc : TypeId × Value → H}
theorem okWide_two {P : Program} {t e : TypeId} {n : Nat} {W : World} {r : Reach} {b0 : Nat} {v : Value} (ht : P.underlying t = some (.array n e)) (h : Value.okWide P W r b0 t v) : ∃ cs, v = .agg cs ∧ cs.size = P.cellsOf t := by
  simp only [Value.okWide, ht] at h
  obtain ⟨cs, h1, h2, _⟩ := h
  exact ⟨cs, h1, h2⟩
set_option maxRecDepth 100000 in
theorem open_two {P : Program} {t e : TypeId} {k : IntKind} {W : World} {r : Reach} {b0 : Nat} {v : Value} {d : DataW H} {ps : List MemPlace} (ht : P.underlying t = some (.array 2 e)) (he : P.underlying e = some (.int k)) (ct : P.cellsOf t = 2) (ce : P.cellsOf e = 1)
    (hval : Value.okWide P W r b0 t v) (h : DataW.Trod enc P W 0 (fun _ => true) true t v d ps) : ∃ a b : Int, v = .agg #[.int k a, .int k b] ∧ (Lit.int k a).wf = true ∧ (Lit.int k b).wf = true := by
  obtain ⟨cs, rfl, hsz⟩ := okWide_two ht hval
  obtain ⟨fuel, hf⟩ := h
  obtain ⟨xs, m, _, hx, hlen, hxl, hel⟩ := DataW.trod_array ht hf
  rw [ct] at hsz
  obtain ⟨l⟩ := cs
  match l, hsz with
  | [u0, u1], _ =>
    match xs, hxl with
    | [y0, y1], _ =>
      have g0 := hel 0 (by omega)
      have g1 := hel 1 (by omega)
      rw [ce] at g0 g1
      obtain ⟨z0, k0, _, w0⟩ := DataW.trod_int he (show DataW.trod enc P W 0 (fun _ => true) true m e [u0] = some y0 by simpa [Value.cells] using g0)
      obtain ⟨z1, k1, _, w1⟩ := DataW.trod_int he (show DataW.trod enc P W 0 (fun _ => true) true m e [u1] = some y1 by simpa [Value.cells] using g1)
      simp at k0 k1
      subst k0 k1
      exact ⟨z0, z1, rfl, w0, w1⟩
set_option maxRecDepth 100000 in
theorem open_b2 {r : Reach} {b0 : Nat} {W : World} {v : Value} {d : DataW H} {ps : List MemPlace} (hval : Value.okWide Tryd.prog W r b0 46 v) (h : DataW.Trod enc Tryd.prog W 0 (fun _ => true) true 46 v d ps) :
    ∃ a b : UInt8, v = .agg #[.int .u8 (a.toNat : Int), .int .u8 (b.toNat : Int)] := by
  obtain ⟨a, b, rfl, wa, wb⟩ := open_two Tryd.underlying46 Tryd.underlying5 (by kernel_rfl) (by kernel_rfl) hval h
  obtain ⟨a', rfl⟩ := byte_of wa
  obtain ⟨b', rfl⟩ := byte_of wb
  exact ⟨a', b', rfl⟩
set_option maxRecDepth 100000 in
theorem open_i2 {r : Reach} {b0 : Nat} {W : World} {v : Value} {d : DataW H} {ps : List MemPlace} (hval : Value.okWide Tryd.prog W r b0 48 v) (h : DataW.Trod enc Tryd.prog W 0 (fun _ => true) true 48 v d ps) :
    ∃ a b : Int, v = .agg #[.int .i64 a, .int .i64 b] ∧ (-9223372036854775808 ≤ a ∧ a ≤ 9223372036854775807) ∧ (-9223372036854775808 ≤ b ∧ b ≤ 9223372036854775807) := by
  obtain ⟨a, b, rfl, wa, wb⟩ := open_two Tryd.underlying48 Tryd.underlying3 (by kernel_rfl) (by kernel_rfl) hval h
  have ha := bounds_i64 wa
  have hb := bounds_i64 wb
  exact ⟨a, b, rfl, ⟨by omega, by omega⟩, ⟨by omega, by omega⟩⟩
/-- A slice of sequences: six cells each. -/
def RdQ (w : World) (A : Option Addr) (ls : List Sq) : Prop :=
  0 < ls.length → ∃ b o, A = some ⟨b, o, none⟩ ∧ b < w.heap.size ∧ ∀ k (hk : k < ls.length), ∃ A' c', SqIn w ls[k] A' c' ∧ ∀ i u, (sqC ls[k] A' c')[i]? = some u → w.cell? ⟨b, o + k * 6 + i, none⟩ = some u
set_option maxRecDepth 100000 in
theorem open_sqs {r : Reach} {b0 : Nat} {W : World} {v : Value} {d : DataW H} {ps : List MemPlace} (hval : Value.okWide Tryd.prog W r b0 44 v) (h : DataW.Trod enc Tryd.prog W 0 (fun _ => true) true 44 v d ps) :
    ∃ A ls c, v = .slice A (ls : List Sq).length c ∧ RdQ W A ls := by
  obtain ⟨a0, len, cap, rfl⟩ := okWide_slice Tryd.underlying44 hval
  obtain ⟨fuel, hf⟩ := h
  have c6 : Tryd.prog.cellsOf 24 = 6 := by kernel_rfl
  rcases open_slice Tryd.underlying44 hf with ⟨hcs, _⟩ | ⟨a, len', cap', m, n, D, Pl, hcs, _, hl, _, hm, _, hi⟩
  · simp [Value.cells] at hcs
    obtain ⟨rfl, rfl, rfl⟩ := hcs
    exact ⟨none, [], 0, rfl, fun h => absurd h (by simp)⟩
  · simp [Value.cells] at hcs
    obtain ⟨rfl, rfl, rfl⟩ := hcs
    simp only [if_true] at hm
    rw [c6] at hi
    have each : ∀ i, i < len → ∃ s A c, SqIn W s A c ∧ ∀ j u, (sqC s A c)[j]? = some u → W.cell? (a.add (i * 6 + j)) = some u := fun i hil => by
      obtain ⟨cs', h1, h2⟩ := hi i (by omega)
      obtain ⟨s, A, c, rfl, hs⟩ := sq_in h2
      refine ⟨s, A, c, hs, fun j u hu => ?_⟩
      obtain ⟨_, hcl, hat⟩ := World.cells?_some h1
      have hj : j < 6 := by
        have := (List.getElem?_eq_some_iff.1 hu).1
        rw [hcl] at this
        exact this
      rw [← Go.Deep.add_add, hat j hj, hu]
    refine ⟨some a, (List.range len).map fun i => if h : i < len then (each i h).choose else ⟨0, 0, [], [], 0, []⟩, cap, by simp, fun hp => ?_⟩
    simp only [List.length_map, List.length_range] at hp
    obtain ⟨b, o, sp⟩ := a
    have h00 := (each 0 (by omega)).choose_spec.choose_spec.choose_spec.2 0 _ rfl
    obtain rfl : sp = none := by simpa [Addr.add] using World.cell?_spot h00
    rw [addr_add_at] at h00
    refine ⟨b, o, rfl, World.block_lt_of_cell? W _ h00, fun k hk => ?_⟩
    simp only [List.length_map, List.length_range] at hk
    have e : ((List.range len).map fun i => if h : i < len then (each i h).choose else ⟨0, 0, [], [], 0, []⟩)[k]'(by simpa using hk) = (each k hk).choose := by
      rw [List.getElem_map, List.getElem_range, dif_pos hk]
    rw [e]
    obtain ⟨h1, h2⟩ := (each k hk).choose_spec.choose_spec.choose_spec
    refine ⟨_, _, h1, fun i u hu => ?_⟩
    have := h2 i u hu
    rw [addr_add_at] at this
    rw [Nat.add_assoc]
    exact this
end
end Go.Proofs.YtmmbfidnbdckmaaDoor
