/-
  From layer 3's walks to a law's row: a sequence that came in, by value or in a slice.
-/
import Derived.Test.YtdpdgdidfikphaaDoorLift
import Derived.Test.YtdpdgdidfikphaaDoorWirQ
import Derived.Test.YtdpdgdidfikphaaDoorSqs
import Derived.Test.YtdpdgdidfikphaaDoorRows
import Derived.Deep.Matrix
import Derived.Deep.Slices
import Derived.OpenShut
namespace Go.Proofs.YtdpdgdidfikphaaDoor
open Go.RowKit Go.WideShapes Go.ChangeShapes Go.ChangeAt Go.ChangeMaps Go.Deep

section
variable {H : Type} {enc : TypeId × Value → H}
set_option maxRecDepth 100000 in
theorem rows_in {W : World} {held : Bool} {fuel : Nat} {cs : List Value} {x : DataW H × List MemPlace} (h : DataW.trod enc Tryd.prog W 0 (fun _ => true) held fuel 30 cs = some x) :
    ∃ A ps c, cs = [.slice A (ps : List (List Int)).length c] ∧ RdP W A ps ∧ ps.length ≤ maxLen ∧ ∀ p ∈ ps, p.length ≤ maxLen := by
  rcases open_int_rows Tryd.underlying30 Tryd.underlying39 Tryd.underlying3 (by kernel_rfl) (by kernel_rfl) h with ⟨rfl, _⟩ | ⟨a, len, cap, AA, L, C, Z, rfl, _, hlc, hcm, _, hr⟩
  · exact ⟨none, [], 0, rfl, RdP.nil _ _, by simp, by simp⟩
  · refine ⟨some a, (List.range len).map fun r => (Z r).take (L r), cap, by simp, fun hp => ?_, by simp; omega, fun p hp => ?_⟩
    case refine_2 =>
      obtain ⟨k, hk, rfl⟩ := List.mem_map.1 hp
      obtain ⟨_, h2, h3, _⟩ := hr k (by have := List.mem_range.1 hk; omega)
      rw [List.length_take]; omega
    simp only [List.length_map, List.length_range] at hp
    obtain ⟨b, o, sp⟩ := a
    obtain rfl : sp = none := by simpa [Addr.add] using World.cell?_spot (hr 0 (by omega)).1
    have h0 := (hr 0 (by omega)).1
    rw [addr_add_at, Nat.add_zero] at h0
    refine ⟨b, o, rfl, World.block_lt_of_cell? W _ h0, fun k hk => ?_⟩
    simp only [List.length_map, List.length_range] at hk
    obtain ⟨h1, h2, h3, h4, h5, h6, h7⟩ := hr k (by omega)
    rw [addr_add_at] at h1
    have hl : ((Z k).take (L k)).length = L k := by rw [List.length_take]; omega
    refine ⟨AA k, C k, ?_, fun hp2 => ?_⟩
    · rw [h1, List.getElem_map, List.getElem_range, hl]
    · rw [is_length, List.getElem_map, List.getElem_range, hl] at hp2
      cases hA : AA k with
      | none => have := h6 hA; omega
      | some a' =>
        obtain ⟨_, hc⟩ := h7 a' hA
        obtain ⟨b', o', sp'⟩ := a'
        have hc0 := hc 0 (by omega)
        obtain rfl : sp' = none := by simpa [Addr.add] using World.cell?_spot hc0
        rw [addr_add_at, Nat.add_zero] at hc0
        refine ⟨b', o', rfl, World.block_lt_of_cell? W _ hc0, fun i u hu => ?_⟩
        rw [List.getElem_map, List.getElem_range] at hu
        have hi : i < L k := by
          have := (List.getElem?_eq_some_iff.1 hu).1
          rw [is_length, hl] at this
          exact this
        have := hc i (by omega)
        rw [addr_add_at] at this
        rw [this, ← hu]
        simp [is_, hi, List.getD, List.getElem?_eq_getElem (show i < (Z k).length by omega)]
set_option maxRecDepth 100000 in
theorem byte_of {z : Int} (h : (Lit.int .u8 z).wf = true) : ∃ c : UInt8, z = (c.toNat : Int) := by
  have hb := bounds_u8 h
  exact ⟨UInt8.ofNat z.toNat, by rw [UInt8.toNat_ofNat_of_lt' (by show z.toNat < 256; omega)]; omega⟩
set_option maxRecDepth 100000 in
theorem sq_in {W : World} {held : Bool} {fuel : Nat} {cs : List Value} {x : DataW H × List MemPlace} (h : DataW.trod enc Tryd.prog W 0 (fun _ => true) held fuel 32 cs = some x) :
    ∃ s A c, cs = sqC s A c ∧ SqIn W s A c := by
  obtain ⟨xs, n, _, hx, hlen, hxl, hf⟩ := DataW.trod_struct Tryd.underlying32 h
  rw [show Tryd.prog.cellsOf 32 = 6 by kernel_rfl] at hlen
  match cs, hlen with
  | [u0, u1, u2, u3, u4, u5], _ =>
    match xs, hxl with
    | [y0, y1, y2, y3, y4, y5], _ =>
      have ci : Tryd.prog.cellsOf 3 = 1 := by kernel_rfl
      have cb : Tryd.prog.cellsOf 5 = 1 := by kernel_rfl
      have cp : Tryd.prog.cellsOf 30 = 1 := by kernel_rfl
      have cs : Tryd.prog.cellsOf 9 = 1 := by kernel_rfl
      have g0 : DataW.trod enc Tryd.prog W 0 (fun _ => true) held n 3 (List.take (Tryd.prog.cellsOf 3) (List.drop 0 [u0, u1, u2, u3, u4, u5])) = some y0 := hf 0 _ rfl
      have g1 : DataW.trod enc Tryd.prog W 0 (fun _ => true) held n 5 (List.take (Tryd.prog.cellsOf 5) (List.drop 1 [u0, u1, u2, u3, u4, u5])) = some y1 := hf 1 _ rfl
      have g2 : DataW.trod enc Tryd.prog W 0 (fun _ => true) held n 30 (List.take (Tryd.prog.cellsOf 30) (List.drop 2 [u0, u1, u2, u3, u4, u5])) = some y2 := hf 2 _ rfl
      have g3 : DataW.trod enc Tryd.prog W 0 (fun _ => true) held n 9 (List.take (Tryd.prog.cellsOf 9) (List.drop 3 [u0, u1, u2, u3, u4, u5])) = some y3 := hf 3 _ rfl
      have g4 : DataW.trod enc Tryd.prog W 0 (fun _ => true) held n 5 (List.take (Tryd.prog.cellsOf 5) (List.drop 4 [u0, u1, u2, u3, u4, u5])) = some y4 := hf 4 _ rfl
      have g5 : DataW.trod enc Tryd.prog W 0 (fun _ => true) held n 9 (List.take (Tryd.prog.cellsOf 9) (List.drop 5 [u0, u1, u2, u3, u4, u5])) = some y5 := hf 5 _ rfl
      rw [ci] at g0
      rw [cb] at g1 g4
      rw [cp] at g2
      rw [cs] at g3 g5
      obtain ⟨z0, k0, _, w0⟩ := DataW.trod_int Tryd.underlying3 g0
      obtain ⟨z1, k1, _, w1⟩ := DataW.trod_int Tryd.underlying5 g1
      obtain ⟨A, ps, c, k2, hp, hl, hlr⟩ := rows_in g2
      obtain ⟨z3, k3, _, w3⟩ := DataW.trod_string Tryd.underlying9 g3
      obtain ⟨z4, k4, _, w4⟩ := DataW.trod_int Tryd.underlying5 g4
      obtain ⟨z5, k5, _, w5⟩ := DataW.trod_string Tryd.underlying9 g5
      simp at k0 k1 k2 k3 k4 k5
      obtain ⟨b1, rfl⟩ := byte_of w1
      obtain ⟨b4, rfl⟩ := byte_of w4
      subst k0 k1 k2 k3 k4 k5
      refine ⟨⟨z0, b1, ps, z3.data.toList, b4, z5.data.toList⟩, A, c, ?_, ⟨hp, hl, ?_, ?_, hlr⟩⟩
      · unfold sqC
        dsimp only
        (repeat rw [str_list])
      · show z3.data.toList.length ≤ maxLen
        rw [Array.length_toList]; exact w3
      · show z5.data.toList.length ≤ maxLen
        rw [Array.length_toList]; exact w5
set_option maxRecDepth 100000 in
theorem open_sq {r : Reach} {b0 : Nat} {W : World} {v : Value} {d : DataW H} {ps : List MemPlace} (hval : Value.okWide Tryd.prog W r b0 32 v) (h : DataW.Trod enc Tryd.prog W 0 (fun _ => true) true 32 v d ps) :
    ∃ s A c, v = sqV s A c ∧ SqIn W s A c := by
  obtain ⟨cs, rfl, hsz⟩ := okWide_struct Tryd.underlying32 hval
  obtain ⟨fuel, hf⟩ := h
  obtain ⟨s, A, c, hc, hs⟩ := sq_in hf
  refine ⟨s, A, c, ?_, hs⟩
  have : cs = (sqC s A c).toArray := by
    apply Array.toList_inj.1
    simpa [Value.cells] using hc
  rw [this]
  rfl
end
section
variable {H : Type} {enc : TypeId × Value → H} {P : Program}
/-- A slice of integers that came in. -/
theorem open_nums {t e : TypeId} {k : IntKind} (ht : P.underlying t = some (.slice e)) (he : P.underlying e = some (.int k)) (hc : P.cellsOf e = 1) {r : Reach} {b0 : Nat} {W : World} {v : Value} {d : DataW H} {ps : List MemPlace}
    (hval : Value.okWide P W r b0 t v) (h : DataW.Trod enc P W 0 (fun _ => true) true t v d ps) :
    ∃ A l c, v = .slice A (l : List Int).length c ∧ l.length ≤ c ∧ Rd W A (l.map (Value.int k)) ∧ (∀ z ∈ l, (Lit.int k z).wf = true) ∧ (l = [] ∨ ∃ elems spare, d = .slice elems spare ∧ l.length ≤ elems.length + spare.length) := by
  obtain ⟨a0, len, cap, rfl⟩ := okWide_slice ht hval
  obtain ⟨fuel, hf⟩ := h
  rcases open_ints ht he hc hf with ⟨hcs, _⟩ | ⟨a, len', cap', zs, hcs, _, hl, _, hz, hx, hcell, hwf⟩
  · simp [Value.cells] at hcs
    obtain ⟨rfl, rfl, rfl⟩ := hcs
    exact ⟨none, [], 0, rfl, Nat.le_refl _, Rd.nil _ _, by simp, .inl rfl⟩
  · simp [Value.cells] at hcs
    obtain ⟨rfl, rfl, rfl⟩ := hcs
    simp only [if_true] at hz
    simp only [Prod.mk.injEq] at hx
    have hlen : (zs.take len).length = len := by rw [List.length_take]; omega
    refine ⟨some a, zs.take len, cap, by rw [hlen], by omega, fun hp => ?_, fun z hz' => hwf z (List.mem_of_mem_take hz'), .inr ⟨_, _, hx.1, ?_⟩⟩
    · rw [List.length_map, hlen] at hp
      obtain ⟨b, off, rfl, hc2⟩ := ints_at hcell (by omega)
      have h0 := hc2 0 (by omega)
      refine ⟨b, off, rfl, World.block_lt_of_cell? W _ h0, fun i u hu => ?_⟩
      have hi : i < len := by
        have := (List.getElem?_eq_some_iff.1 hu).1
        rw [List.length_map, hlen] at this
        exact this
      rw [hc2 i (by omega), ← hu]
      simp [hi, List.getD, List.getElem?_eq_getElem (show i < zs.length by omega)]
    · rw [hlen]
      simp only [lits, List.length_map, List.length_take, List.length_drop]
      omega
theorem bs_of_nums (l : List Int) (h : ∀ z ∈ l, (Lit.int .u8 z).wf = true) : bs (l.map fun z => UInt8.ofNat z.toNat) = l.map (Value.int .u8) := by
  simp only [bs, List.map_map]
  apply List.map_congr_left
  intro z hz
  have hb := bounds_u8 (h z hz)
  show Value.int .u8 ((UInt8.ofNat z.toNat).toNat : Int) = _
  rw [UInt8.toNat_ofNat_of_lt' (by show z.toNat < 256; omega)]
  congr 1
  omega
/-- A slice of bytes that came in, its room, and how many places it takes as data. -/
theorem open_bytes_room {t e : TypeId} (ht : P.underlying t = some (.slice e)) (he : P.underlying e = some (.int .u8)) (hc : P.cellsOf e = 1) {r : Reach} {b0 : Nat} {W : World} {v : Value} {d : DataW H} {ps : List MemPlace}
    (hval : Value.okWide P W r b0 t v) (h : DataW.Trod enc P W 0 (fun _ => true) true t v d ps) :
    ∃ A l c, v = .slice A (l : List UInt8).length c ∧ l.length ≤ c ∧ Rd W A (bs l) ∧ (l = [] ∨ ∃ elems spare, d = .slice elems spare ∧ l.length ≤ elems.length + spare.length) := by
  obtain ⟨A, l, c, rfl, hlc, hr, hw, hd⟩ := open_nums ht he hc hval h
  refine ⟨A, l.map fun z => UInt8.ofNat z.toNat, c, by rw [List.length_map], by rw [List.length_map]; exact hlc, by rw [bs_of_nums l hw]; exact hr, ?_⟩
  rcases hd with rfl | hd
  · exact .inl rfl
  · exact .inr (by rw [List.length_map]; exact hd)

end
end Go.Proofs.YtdpdgdidfikphaaDoor
