/-
  In a drawn region: a struct loaded out of the midst of a known block.
-/
import Derived.Test.YtbdpjhlfaelgpaaRegK
namespace Go.Proofs.Ytbdpjhlfaelgpaa
open Go.RowKit

theorem Blk.midAt {w : World} {b : Nat} {t : TypeId} {cs : Array Value} (h : Blk w b t cs) (q : Nat) (es : Array Value) (he : (cs.toList.drop q).take es.size = es.toList) : w.rangeAt b q es.toList := fun j v hv => by
  rw [h.cell (q + j)]
  have hj : j < es.size := by
    have := (List.getElem?_eq_some_iff.1 hv).1
    simpa using this
  rw [← he, List.getElem?_take_of_lt hj, List.getElem?_drop] at hv
  rw [← Array.getElem?_toList]
  exact hv
section
variable {P : Program} {ops : Array Oper} {md : Region.Mode} {w1 : World} {K : List Fact} {ix iz : Nat} {R0 R1 : (Tmp → Value) → World → World → Prop} {aF : (Tmp → Value) → Act} {i : Nat} {o : Oper}
theorem goesK_mid {t : TypeId} {x : Operand} {b q : Nat} {es : Array Value} {td : TypeDesc} (hst : ∀ f ∈ K, f.ok) (hah : Ahead md ops ix i) (hio : ops[i]? = some o) (hx : i ≠ ix) (hz : i ≠ iz) (hni : (K.all fun f => f.i != i) = true) (hw : ∀ g, Region.wanted o (yielded ops (aF g).tmps) = true) {d0 : Tmp} (h0 : o.dst = some d0) (hd : ∀ g, (aF g).tmps[d0]? = some (.agg es)) (ho : o.op = .load t x) (hxv : ∀ g, (aF g).eval x = .pointer (some ⟨b, q, none⟩)) (hk : ∀ w, Below w1.heap.size w1 w → w.rangeAt b q es.toList) (hu : P.underlying t = some td) (hrw : td.isRow = true) (hi : (P.info? t).map (·.size) = some es.size) :
    GoesM P md ops aF (SK md ops w1 K ix iz R0 R1) i o :=
  goesK_val (.agg es) hst hah hio hx hz hni hw h0 hd fun g w hb => by
    unfold execOp
    simp only [ho, hxv, Instr.loadAt, Instr.sureAddr, Sem.run_bind, Sem.run_pure, Result.andThen_ok, run_loadVar_mid w b q t es.toList td (hk w hb) hu hrw (by rw [hi]; simp)]
end
end Go.Proofs.Ytbdpjhlfaelgpaa
