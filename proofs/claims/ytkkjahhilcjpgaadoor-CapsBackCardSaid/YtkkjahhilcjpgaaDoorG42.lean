/-
  From walks to a law's row: slices of integers and of bytes that came in, with their room; arrays of two; slices of steps (layer 4).
-/
import Derived.Test.YtkkjahhilcjpgaaDoorG02
import Derived.Test.YtkkjahhilcjpgaaDoorRows
import Derived.Deep.Matrix
import Derived.Deep.Slices
import Derived.OpenShut
namespace Go.Proofs.YtkkjahhilcjpgaaDoor
open Go.RowKit Go.WideShapes Go.ChangeShapes Go.ChangeAt Go.ChangeMaps Go.Deep
section
section
variable {H : Type} {enc : TypeId × Value → H} {P : Program}
theorem open_nums {t e : TypeId} {k : IntKind} (ht : P.underlying t = some (.slice e)) (he : P.underlying e = some (.int k)) (hc : P.cellsOf e = 1) {r : Reach} {b0 : Nat} {W : World} {v : Value} {d : DataW H} {ps : List MemPlace}
 (hval : Value.okWide P W r b0 t v) (h : DataW.Trod enc P W 0 (fun _ => true) true t v d ps) :
 ∃ A l c, v = .slice A (l : List Int).length c ∧ l.length ≤ c ∧ Rd W A (l.map (Value.int k)) ∧ (∀ z ∈ l, (Lit.int k z).wf = true) ∧ (l = [] ∨ ∃ elems spare, d = .slice elems spare ∧ l.length ≤ elems.length + spare.length) := by
 obtain ⟨a0, len, cap, rfl⟩ := okWide_slice ht hval
 obtain ⟨fuel, hf⟩ := h
 rcases open_ints ht he hc hf with ⟨hcs, _⟩ | ⟨a, len', cap', zs, hcs, _, hl, _, hz, hx, hcell, hwf⟩
 ·simp [Value.cells] at hcs
  obtain ⟨rfl, rfl, rfl⟩ := hcs
  exact ⟨none, [], 0, rfl, Nat.le_refl _, Rd.nil _ _, by simp, .inl rfl⟩
 ·simp [Value.cells] at hcs
  obtain ⟨rfl, rfl, rfl⟩ := hcs
  simp only [if_true] at hz
  simp only [Prod.mk.injEq] at hx
  have hlen : (zs.take len).length = len := by rw [List.length_take]; omega
  refine ⟨some a, zs.take len, cap, by rw [hlen], by omega, fun hp => ?_, fun z hz' => hwf z (List.mem_of_mem_take hz'), .inr ⟨_, _, hx.1, ?_⟩⟩
  ·rw [List.length_map, hlen] at hp
   obtain ⟨b, off, rfl, hc2⟩ := ints_at hcell (by omega)
   have h0 := hc2 0 (by omega)
   refine ⟨b, off, rfl, World.block_lt_of_cell? W _ h0, fun i u hu => ?_⟩
   have hi : i < len := by
    have := (List.getElem?_eq_some_iff.1 hu).1
    rw [List.length_map, hlen] at this
    exact this
   rw [hc2 i (by omega), ← hu]
   simp [hi, List.getD, List.getElem?_eq_getElem (show i < zs.length by omega)]
  ·rw [hlen]
   simp only [lits, List.length_map, List.length_take, List.length_drop]
   omega
theorem bs_of_nums (l : List Int) (h : ∀ z ∈ l, (Lit.int .u8 z).wf = true) : bs (l.map fun z => UInt8.ofNat z.toNat) = l.map (Value.int .u8) := by
 simp only [bs, List.map_map]
 apply List.map_congr_left
 intro z hz
 have hb := bounds_u8 (h z hz)
 show Value.int .u8 ((UInt8.ofNat z.toNat).toNat : Int) = _
 rw [UInt8.toNat_ofNat_of_lt' (by show z.toNat < 256; omega)]
 congr 1
 omega
theorem open_bytes_room {t e : TypeId} (ht : P.underlying t = some (.slice e)) (he : P.underlying e = some (.int .u8)) (hc : P.cellsOf e = 1) {r : Reach} {b0 : Nat} {W : World} {v : Value} {d : DataW H} {ps : List MemPlace}
 (hval : Value.okWide P W r b0 t v) (h : DataW.Trod enc P W 0 (fun _ => true) true t v d ps) :
 ∃ A l c, v = .slice A (l : List UInt8).length c ∧ l.length ≤ c ∧ Rd W A (bs l) ∧ (l = [] ∨ ∃ elems spare, d = .slice elems spare ∧ l.length ≤ elems.length + spare.length) := by
 obtain ⟨A, l, c, rfl, hlc, hr, hw, hd⟩ := open_nums ht he hc hval h
 refine ⟨A, l.map fun z => UInt8.ofNat z.toNat, c, by rw [List.length_map], by rw [List.length_map]; exact hlc, by rw [bs_of_nums l hw]; exact hr, ?_⟩
 rcases hd with rfl | hd
 ·exact .inl rfl
 ·exact .inr (by rw [List.length_map]; exact hd)
end
section
variable {H : Type} {enc : TypeId × Value → H}
end
end
end Go.Proofs.YtkkjahhilcjpgaaDoor
