/-
  A drawn region that lays one new block and stores known cells into it, last; and whose calls answer what the run alone tells.
-/
import Derived.Test.YtbdpjhlfaelgpaaRegKn
import Derived.Test.YtbdpjhlfaelgpaaMid
namespace Go.Proofs.Ytbdpjhlfaelgpaa
open Go.RowKit

section
variable {P : Program} {ops : Array Oper} {md : Region.Mode} {w1 : World} {K : List Fact} {ix iz : Nat} {R0 : (Tmp → Value) → World → World → Prop} {aF : (Tmp → Value) → Act} {i : Nat} {o : Oper}
/-- A new block, known whole. -/
def FNew (w1 : World) (ty : TypeId) (z : Array Value) (v : Value) (w : World) : Prop := ∃ b, v = .pointer (some ⟨b, 0, none⟩) ∧ w1.heap.size ≤ b ∧ Blk w b ty z
theorem fnew_ok (w1 : World) (i : Nat) (d : Tmp) (ty : TypeId) (z : Array Value) : (⟨i, d, FNew w1 ty z⟩ : Fact).ok := fun _ _ _ ⟨b, e, h1, h2⟩ hb => ⟨b, e, h1, h2.below hb h2.lt⟩
theorem goesK_new {d : Tmp} {ty : TypeId} {z : Array Value} (hst : ∀ f ∈ K, f.ok) (hah : Ahead md ops ix i) (hio : ops[i]? = some o) (hx : i ≠ ix) (hz : i ≠ iz) (p : Nat) (hat : K[p]? = some ⟨i, d, FNew w1 ty z⟩) (huq : ((List.range K.length).all fun q => q == p || ((K[q]?).map fun f => f.i != i && f.d != d).getD true) = true) (hw : ∀ g, Region.wanted o (yielded ops (aF g).tmps) = true) (h0 : o.dst = some d) (hd : ∀ g, (aF g).tmps[d]? = some (g d)) {R1 : (Tmp → Value) → World → World → Prop}
    (hr : ∀ g w, (execOp (aF g).eval o).run P w = .ok (.value (.pointer (some ⟨w.heap.size, 0, none⟩))) (w.alloc (.cells z ty))) : GoesM P md ops aF (SK md ops w1 K ix iz R0 R1) i o :=
  goesK_make hst hah hio hx hz p hat huq hw h0 hd (fun w => .pointer (some ⟨w.heap.size, 0, none⟩)) (fun w => w.alloc (.cells z ty)) hr fun w hb => ⟨⟨w.heap.size, rfl, hb.size, Blk.new w ty z⟩, (Below.refl _ w).alloc (Nat.le_refl _) _⟩
theorem goesP_put {ty : TypeId} {x y : Operand} {d : Tmp} {j : Nat} {z cs : Array Value} (hi : i = ix) (hxz : ix = iz) (hio : ops[i]? = some o) (hall : ∀ f ∈ K, f.i ≠ i ∧ ∃ js, pathB md ops ix js = true ∧ f.i ∈ js) (p : Nat) (hat : K[p]? = some ⟨j, d, FNew w1 ty z⟩) (hw : ∀ g, Region.wanted o (yielded ops (aF g).tmps) = true) (hop : o.op = .store ty x y) (ho : o.dst = none) (hx : ∀ g, (aF g).eval x = g d) (hy : ∀ g, (aF g).eval y = .agg cs) (hs : cs.size = z.size) (hin : (P.info? ty).map (·.size) = some z.size) (h1 : cs.toList.all (·.oneCell') = true) :
    GoesM P md ops aF (SK md ops w1 K ix iz R0 (fun g _ w => Below w1.heap.size w1 w ∧ FNew w1 ty cs (g d) w)) i o := fun l g w hsz hf hrd hS => by
  subst hxz hi
  rw [if_pos (hw g)]
  obtain ⟨b1, h2⟩ := hS.pre hf
  have hsh := hS.shut.step hio hrd
  have hlt : i < l.size := by rw [hsz]; exact (Array.getElem?_eq_some_iff.1 hio).1
  have hfs : ∀ f ∈ K, f.F (g f.d) w := fun f hf' => h2 f hf' (by
    obtain ⟨hne, js, hp, hm⟩ := hall f hf'
    have := hsh.path i js (getD_self hlt) hp f.i hm
    rwa [getD_set_ne false (fun e => hne e.symm)] at this)
  obtain ⟨b, g1, g2, g3⟩ : FNew w1 ty z (g d) w := hfs _ (List.mem_of_getElem? hat)
  have hrun := g3.run_set (P := P) cs hs hin h1
  refine .inl ⟨undef, w.setCells b 0 cs.toList, .inr ⟨?_, rfl⟩, g, .inl rfl, (fun d' h' => by rw [ho] at h'; cases h'), hsh, ?_, ?_, fun _ => ⟨w, b1, hfs, b1.grown (grown_setCells b _ 0 w) b1.size (fun k e => by cases e; exact g2), b, g1, g2, g3.setAll hs⟩, fun h => h⟩
  · unfold execOp
    simp only [hop, hx, hy, g1, Sem.run_bind, hrun, Result.andThen_ok, Sem.run_pure]
  · rw [getD_self hlt]; intro h; cases h
  · rw [getD_self hlt]; intro _ h; cases h
end
end Go.Proofs.Ytbdpjhlfaelgpaa
