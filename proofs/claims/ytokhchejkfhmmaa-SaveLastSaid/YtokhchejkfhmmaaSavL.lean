/-
  From layer 7's walks to a law's row: what was saved, two modes, and two slices of numbers that came in.
-/
import Derived.Test.YtokhchejkfhmmaaMoL
import Derived.Test.YtokhchejkfhmmaaSavB
namespace Go.Proofs.Ytokhchejkfhmmaa
open Go.RowKit Go.WideShapes Go.ChangeShapes Go.ChangeAt Go.ChangeMaps Go.Deep

section
variable {H : Type} {enc : TypeId × Value → H}
theorem bytes_of : ∀ l : List Value, (∀ u ∈ l, ∃ c : UInt8, u = .int .u8 (c.toNat : Int)) → ∃ s : List UInt8, l = bs s
  | [], _ => ⟨[], rfl⟩
  | u :: l, h => by
    obtain ⟨c, rfl⟩ := h u (List.mem_cons_self ..)
    obtain ⟨s, rfl⟩ := bytes_of l fun v hv => h v (List.mem_cons_of_mem _ hv)
    exact ⟨c :: s, rfl⟩
set_option maxRecDepth 100000 in
theorem open_sav {r : Reach} {b0 : Nat} {W : World} {v : Value} {d : DataW H} {ps : List MemPlace} (hval : Value.okWide Try.prog W r b0 23 v) (h : DataW.Trod enc Try.prog W 0 (fun _ => true) true 23 v d ps) :
    ∃ s : List UInt8, v = savV s ∧ s.length = 12 := by
  obtain ⟨cs, rfl, hsz⟩ := okWide_two Try.underlying23 hval
  obtain ⟨fuel, hf⟩ := h
  obtain ⟨xs, m, _, hx, hlen, hxl, hel⟩ := DataW.trod_array Try.underlying23 hf
  have ct : Try.prog.cellsOf 23 = 12 := by kernel_rfl
  have ce : Try.prog.cellsOf 5 = 1 := by kernel_rfl
  rw [ct] at hsz
  rw [ce] at hel
  obtain ⟨l⟩ := cs
  have hl : l.length = 12 := hsz
  have hb : ∀ u ∈ l, ∃ c : UInt8, u = .int .u8 (c.toNat : Int) := fun u hu => by
    obtain ⟨i, hi, rfl⟩ := List.getElem_of_mem hu
    have g : DataW.trod enc Try.prog W 0 (fun _ => true) true m 5 ((l.drop (i * 1)).take 1) = xs[i]? := hel i (by omega)
    rw [Nat.mul_one, List.getElem?_eq_getElem (by omega), List.drop_eq_getElem_cons hi, List.take_succ_cons, List.take_zero] at g
    obtain ⟨z, k, _, w⟩ := DataW.trod_int Try.underlying5 g
    simp at k
    obtain ⟨c, hc⟩ := byte_of w
    exact ⟨c, by rw [k, hc]⟩
  obtain ⟨s, rfl⟩ := bytes_of l hb
  exact ⟨s, rfl, by simpa [bs_length] using hl⟩
set_option maxRecDepth 100000 in
theorem open_mo2 {r : Reach} {b0 : Nat} {W : World} {v : Value} {d : DataW H} {ps : List MemPlace} (hval : Value.okWide Try.prog W r b0 42 v) (h : DataW.Trod enc Try.prog W 0 (fun _ => true) true 42 v d ps) :
    ∃ a b : Mo, v = .agg ((moC a).toList ++ (moC b).toList).toArray ∧ okM a ∧ okM b := by
  obtain ⟨cs, rfl, hsz⟩ := okWide_two Try.underlying42 hval
  obtain ⟨fuel, hf⟩ := h
  obtain ⟨xs, m, _, hx, hlen, hxl, hel⟩ := DataW.trod_array Try.underlying42 hf
  have ct : Try.prog.cellsOf 42 = 20 := by kernel_rfl
  have ce : Try.prog.cellsOf 25 = 10 := by kernel_rfl
  rw [ct] at hsz
  rw [ce] at hel
  obtain ⟨l⟩ := cs
  have hl : l.length = 20 := hsz
  match xs, hxl with
  | [y0, y1], _ =>
    obtain ⟨a, ha, oa⟩ := mo_in (show DataW.trod enc Try.prog W 0 (fun _ => true) true m 25 ((l.drop 0).take 10) = some y0 from hel 0 (by omega))
    obtain ⟨b, hb, ob⟩ := mo_in (show DataW.trod enc Try.prog W 0 (fun _ => true) true m 25 ((l.drop 10).take 10) = some y1 from hel 1 (by omega))
    refine ⟨a, b, ?_, oa, ob⟩
    have e : l = (moC a).toList ++ (moC b).toList := by
      rw [← ha, ← hb, List.drop_zero, List.take_of_length_le (l := l.drop 10) (by simp [hl]), List.take_append_drop]
    rw [e]
theorem nums_in {P : Program} {t e : TypeId} {k : IntKind} (ht : P.underlying t = some (.slice e)) (he : P.underlying e = some (.int k)) (hc : P.cellsOf e = 1) {W : World} {fuel : Nat} {u : Value} {x : DataW H × List MemPlace} (hf : DataW.trod enc P W 0 (fun _ => true) true fuel t [u] = some x) :
    ∃ A l c, u = .slice A (l : List Int).length c ∧ Rd W A (l.map (Value.int k)) ∧ (∀ z ∈ l, (Lit.int k z).wf = true) := by
  rcases open_ints ht he hc hf with ⟨hcs, _⟩ | ⟨a, len, cap, zs, hcs, _, hl, _, hz, hx, hcell, hwf⟩
  · simp at hcs
    exact ⟨none, [], 0, hcs, Rd.nil _ _, by simp⟩
  · simp at hcs
    simp only [if_true] at hz
    have hlen : (zs.take len).length = len := by rw [List.length_take]; omega
    refine ⟨some a, zs.take len, cap, by rw [hlen]; exact hcs, fun hp => ?_, fun z hz' => hwf z (List.mem_of_mem_take hz')⟩
    rw [List.length_map, hlen] at hp
    obtain ⟨b, off, rfl, hc2⟩ := ints_at hcell (by omega)
    have h0 := hc2 0 (by omega)
    refine ⟨b, off, rfl, World.block_lt_of_cell? W _ h0, fun i u hu => ?_⟩
    have hi : i < len := by
      have := (List.getElem?_eq_some_iff.1 hu).1
      rw [List.length_map, hlen] at this
      exact this
    rw [hc2 i (by omega), ← hu]
    simp [hi, List.getD, List.getElem?_eq_getElem (show i < zs.length by omega)]
set_option maxRecDepth 100000 in
theorem open_ii2 {r : Reach} {b0 : Nat} {W : World} {v : Value} {d : DataW H} {ps : List MemPlace} (hval : Value.okWide Try.prog W r b0 44 v) (h : DataW.Trod enc Try.prog W 0 (fun _ => true) true 44 v d ps) :
    ∃ A l c B k e, v = .agg #[.slice A (l : List Int).length c, .slice B (k : List Int).length e] ∧ (Rd W A (is_ l) ∧ (∀ z ∈ l, (Lit.int .i64 z).wf = true)) ∧ (Rd W B (is_ k) ∧ (∀ z ∈ k, (Lit.int .i64 z).wf = true)) := by
  obtain ⟨cs, rfl, hsz⟩ := okWide_two Try.underlying44 hval
  obtain ⟨fuel, hf⟩ := h
  obtain ⟨xs, m, _, hx, hlen, hxl, hel⟩ := DataW.trod_array Try.underlying44 hf
  have ct : Try.prog.cellsOf 44 = 2 := by kernel_rfl
  have ce : Try.prog.cellsOf 26 = 1 := by kernel_rfl
  rw [ct] at hsz
  rw [ce] at hel
  obtain ⟨l⟩ := cs
  match l, hsz with
  | [u0, u1], _ =>
    match xs, hxl with
    | [y0, y1], _ =>
      obtain ⟨A, l, c, rfl, h1, h2⟩ := nums_in Try.underlying26 Try.underlying3 (by kernel_rfl) (show DataW.trod enc Try.prog W 0 (fun _ => true) true m 26 [u0] = some y0 from hel 0 (by omega))
      obtain ⟨B, k, e, rfl, h3, h4⟩ := nums_in Try.underlying26 Try.underlying3 (by kernel_rfl) (show DataW.trod enc Try.prog W 0 (fun _ => true) true m 26 [u1] = some y1 from hel 1 (by omega))
      exact ⟨A, l, c, B, k, e, rfl, ⟨h1, h2⟩, ⟨h3, h4⟩⟩
end
end Go.Proofs.Ytokhchejkfhmmaa
