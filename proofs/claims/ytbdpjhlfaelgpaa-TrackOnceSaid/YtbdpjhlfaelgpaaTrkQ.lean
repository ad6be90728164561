/-
  Layer 15: a row of numbers that a literal makes in a drawn region, and a cell of it.
-/
import Derived.Test.YtbdpjhlfaelgpaaTrkX
import Derived.Test.YtbdpjhlfaelgpaaRegP
import Derived.Test.YtbdpjhlfaelgpaaRegG
import Derived.Deep.Cut
namespace Go.Proofs.Ytbdpjhlfaelgpaa
open Go.RowKit

/-- A row of numbers in a block of its own. -/
def FRw (cs : Array Value) (n : Nat) (v : Value) (w : World) : Prop := ∃ b, v = .slice (some ⟨b, 0, none⟩) n n ∧ Blk w b 3 cs
theorem frw_ok (i : Nat) (d : Tmp) (cs : Array Value) (n : Nat) : (⟨i, d, FRw cs n⟩ : Fact).ok := fun _ _ _ ⟨b, e, h⟩ hb => ⟨b, e, h.below hb h.lt⟩
/-- A cell of it. -/
def FPt (cs : Array Value) (r : Nat) (v : Value) (w : World) : Prop := ∃ b, v = .pointer (some ⟨b, r, none⟩) ∧ Blk w b 3 cs
theorem fpt_ok (i : Nat) (d : Tmp) (cs : Array Value) (r : Nat) : (⟨i, d, FPt cs r⟩ : Fact).ok := fun _ _ _ ⟨b, e, h⟩ hb => ⟨b, e, h.below hb h.lt⟩
theorem frw_made {ev : Operand → Value} {o : Oper} {cs : Array Value} {n : Nat} {w : World} (hr : (execOp ev o).run Try.prog w = .ok (.value (.slice (some ⟨w.heap.size, 0, none⟩) n n)) (w.alloc (.cells cs 3))) :
    ∃ v w', (execOp ev o).run Try.prog w = .ok (.value v) w' ∧ FRw cs n v w' ∧ Below w.heap.size w w' :=
  ⟨_, _, hr, ⟨_, rfl, Blk.new w _ cs⟩, (Below.refl _ _).alloc (Nat.le_refl _) _⟩
theorem fpt_made {ev : Operand → Value} {o : Oper} {x y : Operand} {v : Value} {cs : Array Value} {n r : Nat} {k : IntKind} {w : World} (ho : o.op = .indexAddr 34 x y) (hx : ev x = v) (hy : ev y = .int k (r : Int)) (hrn : r < n) (h : FRw cs n v w) :
    ∃ u w', (execOp ev o).run Try.prog w = .ok (.value u) w' ∧ FPt cs r u w' ∧ Below w.heap.size w w' := by
  obtain ⟨b, rfl, hb⟩ := h
  refine ⟨.pointer (some ⟨b, r, none⟩), w, ?_, ⟨b, rfl, hb⟩, Below.refl _ _⟩
  unfold execOp
  have e : (⟨b, 0, none⟩ : Addr).add r = ⟨b, r, none⟩ := by unfold Addr.add; split <;> simp_all
  have hs : ∀ w, (sizeOf (Try.prog.elem 34)).run Try.prog w = .ok 1 w := fun w => by kernel_rfl
  simp only [ho, hx, hy, Sem.run_bind, run_indexAt_slice w 34 _ n n k (r : Int) Try.underlying34, if_pos (show (0 : Int) ≤ (r : Int) ∧ (r : Int) < (n : Int) by omega), hs, Result.andThen_ok, Int.toNat_natCast, Nat.mul_one, e, Sem.run_pure]
theorem fpt_load {ev : Operand → Value} {o : Oper} {x : Operand} {v u : Value} {cs : Array Value} {r : Nat} {w : World} (ho : o.op = .load 3 x) (hx : ev x = v) (h : FPt cs r v w) (hu : cs[r]? = some u) : (execOp ev o).run Try.prog w = .ok (.value u) w := by
  obtain ⟨b, rfl, hb⟩ := h
  have hag : ∀ w, (isAgg 3).run Try.prog w = .ok false w := fun w => by kernel_rfl
  unfold execOp
  simp only [ho, hx, Instr.loadAt, Instr.sureAddr, Sem.run_bind, Sem.run_pure, Result.andThen_ok, run_loadVar_one hag ((hb.cell r).trans hu)]
end Go.Proofs.Ytbdpjhlfaelgpaa
