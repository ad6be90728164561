/-
  From layer 6's walks to a law's row: arrays of two bools, or of two numbers, and slices of bools that came in.
-/
import Derived.Test.YtdjglfgdmakjgaaMoL
import Derived.Test.YtdjglfgdmakjgaaLmN
namespace Go.Proofs.Ytdjglfgdmakjgaa
open Go.RowKit Go.WideShapes Go.ChangeShapes Go.ChangeAt Go.ChangeMaps Go.Deep

section
variable {H : Type} {enc : TypeId × Value → H}
set_option maxRecDepth 100000 in
theorem open_i2 {r : Reach} {b0 : Nat} {W : World} {v : Value} {d : DataW H} {ps : List MemPlace} (hval : Value.okWide Try.prog W r b0 31 v) (h : DataW.Trod enc Try.prog W 0 (fun _ => true) true 31 v d ps) :
    ∃ a b : Int, v = .agg #[.int .i64 a, .int .i64 b] ∧ (-9223372036854775808 ≤ a ∧ a ≤ 9223372036854775807) ∧ (-9223372036854775808 ≤ b ∧ b ≤ 9223372036854775807) := by
  obtain ⟨a, b, rfl, wa, wb⟩ := open_two Try.underlying31 Try.underlying3 (by kernel_rfl) (by kernel_rfl) hval h
  have ha := bounds_i64 wa
  have hb := bounds_i64 wb
  exact ⟨a, b, rfl, ⟨by omega, by omega⟩, ⟨by omega, by omega⟩⟩
set_option maxRecDepth 100000 in
theorem open_bb {r : Reach} {b0 : Nat} {W : World} {v : Value} {d : DataW H} {ps : List MemPlace} (hval : Value.okWide Try.prog W r b0 24 v) (h : DataW.Trod enc Try.prog W 0 (fun _ => true) true 24 v d ps) :
    ∃ a b : Bool, v = .agg #[.bool a, .bool b] := by
  obtain ⟨cs, rfl, hsz⟩ := okWide_two Try.underlying24 hval
  obtain ⟨fuel, hf⟩ := h
  obtain ⟨xs, m, _, hx, hlen, hxl, hel⟩ := DataW.trod_array Try.underlying24 hf
  have ct : Try.prog.cellsOf 24 = 2 := by kernel_rfl
  have ce : Try.prog.cellsOf 4 = 1 := by kernel_rfl
  rw [ct] at hsz
  obtain ⟨l⟩ := cs
  match l, hsz with
  | [u0, u1], _ =>
    match xs, hxl with
    | [y0, y1], _ =>
      have g0 := hel 0 (by omega)
      have g1 := hel 1 (by omega)
      rw [ce] at g0 g1
      obtain ⟨z0, k0, _⟩ := DataW.trod_bool Try.underlying4 (show DataW.trod enc Try.prog W 0 (fun _ => true) true m 4 [u0] = some y0 by simpa [Value.cells] using g0)
      obtain ⟨z1, k1, _⟩ := DataW.trod_bool Try.underlying4 (show DataW.trod enc Try.prog W 0 (fun _ => true) true m 4 [u1] = some y1 by simpa [Value.cells] using g1)
      simp at k0 k1
      subst k0 k1
      exact ⟨z0, z1, rfl⟩
/-- A slice of bools that came in. -/
theorem open_bls {P : Program} {t e : TypeId} (ht : P.underlying t = some (.slice e)) (he : P.underlying e = some .bool) (hc : P.cellsOf e = 1) {r : Reach} {b0 : Nat} {W : World} {v : Value} {d : DataW H} {ps : List MemPlace}
    (hval : Value.okWide P W r b0 t v) (h : DataW.Trod enc P W 0 (fun _ => true) true t v d ps) : ∃ A l c, v = .slice A (l : List Bool).length c ∧ Rd W A (bs_ l) := by
  obtain ⟨a0, len, cap, rfl⟩ := okWide_slice ht hval
  obtain ⟨fuel, hf⟩ := h
  rcases Go.Deep.open_bools ht he hc hf with ⟨hcs, _⟩ | ⟨a, len', cap', Bf, hcs, _, hl, _, _, hcell⟩
  · simp [Value.cells] at hcs
    obtain ⟨rfl, rfl, rfl⟩ := hcs
    exact ⟨none, [], 0, rfl, Rd.nil _ _⟩
  · simp [Value.cells] at hcs
    obtain ⟨rfl, rfl, rfl⟩ := hcs
    refine ⟨some a, (List.range len).map Bf, cap, by simp, fun hp => ?_⟩
    have hp' : 0 < len := by simpa [bs_] using hp
    have h0 := hcell 0 (by omega)
    obtain ⟨b, o, sp⟩ := a
    obtain rfl : sp = none := by simpa [Addr.add] using World.cell?_spot h0
    rw [addr_add_at, Nat.add_zero] at h0
    refine ⟨b, o, rfl, World.block_lt_of_cell? W _ h0, fun k u hu => ?_⟩
    have hk : k < len := by
      have := (List.getElem?_eq_some_iff.1 hu).1
      simpa [bs_] using this
    have := hcell k (by omega)
    rw [addr_add_at] at this
    rw [this, ← hu]
    simp [bs_, hk]
end
end Go.Proofs.Ytdjglfgdmakjgaa
