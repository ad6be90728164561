/-
  Cut out of RegH: what names no function of any dump.
-/
import Derived.Test.YtbdpjhlfaelgpaaRegK
namespace Go.Proofs.Ytbdpjhlfaelgpaa
open Go.RowKit

section
variable {P : Program} {ops : Array Oper} {md : Region.Mode} {w1 : World} {K : List Fact} {ix iz : Nat} {R0 R1 : (Tmp → Value) → World → World → Prop} {aF : (Tmp → Value) → Act} {i : Nat} {o : Oper}
theorem goesK_know (v : Value) (hst : ∀ f ∈ K, f.ok) (hah : Ahead md ops ix i) (hio : ops[i]? = some o) (hx : i ≠ ix) (hz : i ≠ iz) (hni : (K.all fun f => f.i != i) = true) (hw : ∀ g, Region.wanted o (yielded ops (aF g).tmps) = true) {d0 : Tmp} (h0 : o.dst = some d0) (hd : ∀ g, (aF g).tmps[d0]? = some v)
    (h : ∀ g w, Below w1.heap.size w1 w → (∀ (q : Nat) (f : Fact), K[q]? = some f → edgeB md ops i f.i = true → f.F (g f.d) w) → (execOp (aF g).eval o).run P w = .ok (.value v) w) :
    GoesM P md ops aF (SK md ops w1 K ix iz R0 R1) i o := fun l g w hsz hf hrd hS => by
  rw [if_pos (hw g)]
  have hfx := hah l hsz hS.shut hf
  obtain ⟨h1, h2⟩ := hS.pre hfx
  refine .inl ⟨v, w, .inl (h g w h1 fun q f' hf' he => h2 f' (List.mem_of_getElem? hf') ?_), g, .inl rfl, (fun d' h' => by rw [h0] at h'; cases h'; exact hd g), hS.quiet hst (hS.shut.step hio hrd) (Below.refl _ _) hx hz hni hfx⟩
  unfold edgeB at he
  rw [hio] at he
  obtain ⟨e, he, hb⟩ := Array.any_eq_true'.1 he
  simp only [Bool.and_eq_true, beq_iff_eq] at hb
  rw [← hb.2]
  exact hrd e he hb.1
end
end Go.Proofs.Ytbdpjhlfaelgpaa
