/-
  Cut out of NumM: what names no function of any dump. Regions that draw their order (RegK's state), whose operations make what the run alone tells out of what it told ahead: an append onto a slice without room, a struct built, a name given.
-/
import Derived.Test.YtkkjahhilcjpgaaDoorG13
import Derived.Test.YtkkjahhilcjpgaaDoorG15
import Derived.Test.YtkkjahhilcjpgaaDoorG16
import Derived.Laws.Slices
namespace Go.Proofs.YtkkjahhilcjpgaaDoor
open Go.RowKit
def low (c : UInt8) : UInt8 := if 65 ≤ c.toNat then c + 32 else c
theorem hexD_is : ∀ k : Fin 16, isX (hexD k.1) = true ∧ xv (hexD k.1) = k.1 ∧ isX (low (hexD k.1)) = true ∧ xv (low (hexD k.1)) = k.1 := by decide
theorem hex_back (f : UInt8 → UInt8) (hf : ∀ k : Fin 16, isX (f (hexD k.1)) = true ∧ xv (f (hexD k.1)) = k.1) (l : List UInt8) : ((hexL l).map f).all isX = true ∧ pairs ((hexL l).map f) = l := by
 induction l with
 | nil => exact ⟨rfl, rfl⟩
 | cons c r ih =>
   have hc := c.toNat_lt
   have e : (hexL (c :: r)).map f = f (hexD (c.toNat / 16)) :: f (hexD (c.toNat % 16)) :: (hexL r).map f := rfl
   have h1 := hf ⟨c.toNat / 16, by omega⟩
   have h2 := hf ⟨c.toNat % 16, by omega⟩
   rw [e]
   refine ⟨by rw [List.all_cons, List.all_cons, h1.1, h2.1, ih.1]; rfl, ?_⟩
   simp only [pairs, h1.2, h2.2, ih.2]
   congr 1
   apply UInt8.toNat_inj.1
   rw [UInt8.toNat_ofNat_of_lt' (by show 16 * (c.toNat / 16) + c.toNat % 16 < 256; omega)]
   omega
theorem unhex_back (f : UInt8 → UInt8) (hf : ∀ k : Fin 16, isX (f (hexD k.1)) = true ∧ xv (f (hexD k.1)) = k.1) (l : List UInt8) : unhexL ((hexL l).map f) = some l := by
 unfold unhexL
 rw [if_pos ⟨by rw [List.length_map, hexL_length]; omega, (hex_back f hf l).1⟩, (hex_back f hf l).2]
theorem unhex_hex (l : List UInt8) : unhexL (hexL l) = some l := by
 have := unhex_back id (fun k => ⟨(hexD_is k).1, (hexD_is k).2.1⟩) l
 rwa [List.map_id] at this
theorem unhex_low (l : List UInt8) : unhexL ((hexL l).map low) = some l := unhex_back low (fun k => ⟨(hexD_is k).2.2.1, (hexD_is k).2.2.2⟩) l
section
section
variable {P : Program} {ops : Array Oper} {md : Region.Mode} {w1 : World} {K : List Fact} {ix iz : Nat} {R0 R1 : (Tmp → Value) → World → World → Prop} {aF : (Tmp → Value) → Act} {i : Nat} {o : Oper}
theorem goesK_any {d : Tmp} (hst : ∀ f ∈ K, f.ok) (hah : Ahead md ops ix i) (hio : ops[i]? = some o) (hx : i ≠ ix) (hz : i ≠ iz) {F : Value → World → Prop} (p : Nat) (hat : K[p]? = some ⟨i, d, F⟩) (huq : ((List.range K.length).all fun q => q == p || ((K[q]?).map fun f => f.i != i && f.d != d).getD true) = true) (hw : ∀ g, Region.wanted o (yielded ops (aF g).tmps) = true) (h0 : o.dst = some d) (hd : ∀ g, (aF g).tmps[d]? = some (g d))
 (hr : ∀ g w, Below w1.heap.size w1 w → (∀ (q : Nat) (f : Fact), K[q]? = some f → edgeB md ops i f.i = true → f.F (g f.d) w) → ∃ v w', (execOp (aF g).eval o).run P w = .ok (.value v) w' ∧ F v w' ∧ Below w.heap.size w w') :
 GoesM P md ops aF (SK md ops w1 K ix iz R0 R1) i o := fun l g w hsz hf hrd hS => by
 rw [if_pos (hw g)]
 have hfx := hah l hsz hS.shut hf
 obtain ⟨h1, h2⟩ := hS.pre hfx
 obtain ⟨v, w', hrun, hme, hb⟩ := hr g w h1 fun q f' hf' he => h2 f' (List.mem_of_getElem? hf') (by
  unfold edgeB at he
  rw [hio] at he
  obtain ⟨e, he, hb⟩ := Array.any_eq_true'.1 he
  simp only [Bool.and_eq_true, beq_iff_eq] at hb
  rw [← hb.2]
  exact hrd e he hb.1)
 exact .inl ⟨v, w', .inl hrun, upd g d v, .inr ⟨d, _, h0, rfl⟩, (fun d' h' => by rw [h0] at h'; cases h'; rw [hd, upd_at]), hS.ghost hst (hS.shut.step hio hrd) hb hx hz hfx (only_me hat huq hme) (only_ot hat huq)⟩
end
end
end Go.Proofs.YtkkjahhilcjpgaaDoor
