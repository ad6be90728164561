/-
  Cut out of NumA: what names no function of any dump. Layer 3's mathematics: the sequence with which bytes begin is told there and back, and there is one at most. Stage 11, the landed legacy: the map of forms, and what is found in it.
  Cut out of LegPm. A region that draws its order, in which an empty row is made, and two slices are appended, one behind the other (append(append([]T{}, a...), b...)). A region that draws its order, with an append onto a row of one's own (and a store behind it).
-/
import Derived.Test.YtkkjahhilcjpgaaDoorG01
import Derived.Test.YtkkjahhilcjpgaaDoorG07
import Derived.Test.YtkkjahhilcjpgaaDoorG08
import Derived.Test.YtkkjahhilcjpgaaDoorG11
import Derived.Test.YtkkjahhilcjpgaaDoorG12
namespace Go.Proofs.YtkkjahhilcjpgaaDoor
open Go.RowKit
def figV (c : Int) : Int := if 48 ≤ c ∧ c ≤ 57 then c - 48 else if 65 ≤ c ∧ c ≤ 70 then c - 55 else if 97 ≤ c ∧ c ≤ 102 then c - 87 else 99
def figA (c n : Int) : Int := if figV c < n then figV c else 0
def figB (c n : Int) : Bool := decide (figV c < n)
def valV (c : Int) : Int := if figV c = 99 then -1 else figV c
def sixD (n : Int) : Int := if n < 10 then 48 + n else 55 + n
end Go.Proofs.YtkkjahhilcjpgaaDoor
namespace Go.Proofs.YtkkjahhilcjpgaaDoor
end Go.Proofs.YtkkjahhilcjpgaaDoor
namespace Go.Proofs.YtkkjahhilcjpgaaDoor
open Go.RowKit Go.Maps
theorem wpList_ins1 {P : Program} {ops : Array Oper} {Q : Exit → Act → World → Prop} {T K E : TypeId} (KK : Keyed P K) (hT : P.underlying T = some (.map K E)) {a : Act} {b : Nat} {o : Oper} {rest : List Oper} {k : Lit} {v key : Value} {m x y : Operand} (hop : o.op = .insert T m x y) (hg : o.guard = none) (hd : o.dst = none) (hm : a.eval m = .map (some b)) (hx : a.eval x = key) (hkey : keyOf P K key = some k) (hv : a.eval y = v) {n : Nat} {D : DataW Value} {w : World} (hown : w.ownsMap P K hel b n D) (hn : n < maxLen)
 (hK : ∀ w', w'.ownsMap P K hel b (n + 1) (D.put k (.held v)) → w.grownBy w' (some b) → wpList P ops Q rest a w') : wpList P ops Q (o :: rest) a w := by
 obtain ⟨w', hrun, h1, h2⟩ := hown.store KK hT hn hkey (show hel v = some (.held v, []) from rfl)
 refine wpList_plain hg fun K hKK => ?_
 unfold Oper.wp
 have e : (execOp a.eval o).run P w = .ok .skip w' := by
  unfold execOp
  rw [hop]
  simp [hm, hx, hv, hrun, Result.andThen]
 rw [e, Oper.upon_skip, hd]
 exact hKK _ _ (hK _ h1 h2.grown)
end Go.Proofs.YtkkjahhilcjpgaaDoor
namespace Go.Proofs.YtkkjahhilcjpgaaDoor
open Go.RowKit
section
section
variable {P : Program} {ops : Array Oper} {md : Region.Mode}
structure SJ (w1 : World) (i0 i1 i2 i3 : Nat) (d0 d1 d2 d3 : Tmp) (te : TypeId) (n1 n2 : Nat) (x1 x2 : List Value) (l : Array Bool) (g : Tmp → Value) (w : World) : Prop where
 below : Below w1.heap.size w1 w
 s0 : l.getD i0 false = true → l.getD i1 false = false → Own w w1.heap.size te 1 (g d0) 0 []
 s1 : l.getD i1 false = true → l.getD i2 false = false → Own w w1.heap.size te 1 (g d1) n1 x1
 s2 : l.getD i2 false = true → Own w w1.heap.size te 1 (g d2) (n1 + n2) (x1 ++ x2)
 s3 : l.getD i3 false = true → g d3 = g d2
 t1 : l.getD i1 false = true → l.getD i0 false = true
 t2 : l.getD i2 false = true → l.getD i1 false = true
 t3 : l.getD i3 false = true → l.getD i2 false = true
variable {w1 : World} {i0 i1 i2 i3 : Nat} {d0 d1 d2 d3 : Tmp} {te : TypeId} {n1 n2 : Nat} {x1 x2 : List Value} {l : Array Bool} {g : Tmp → Value} {w : World} {aF : (Tmp → Value) → Act} {i : Nat} {o : Oper}
theorem SJ.zero (w1 : World) (hb : Below w1.heap.size w1 w) (k : Nat) : SJ w1 i0 i1 i2 i3 d0 d1 d2 d3 te n1 n2 x1 x2 (Array.replicate k false) g w :=
 ⟨hb, (fun h => by rw [no_laid] at h; cases h), (fun h => by rw [no_laid] at h; cases h), (fun h => by rw [no_laid] at h; cases h), (fun h => by rw [no_laid] at h; cases h), (fun h => by rw [no_laid] at h; cases h), (fun h => by rw [no_laid] at h; cases h), (fun h => by rw [no_laid] at h; cases h)⟩
theorem SJ.quiet (h : SJ w1 i0 i1 i2 i3 d0 d1 d2 d3 te n1 n2 x1 x2 l g w) (h0 : i ≠ i0) (h1 : i ≠ i1) (h2 : i ≠ i2) (h3 : i ≠ i3) : SJ w1 i0 i1 i2 i3 d0 d1 d2 d3 te n1 n2 x1 x2 (l.setIfInBounds i true) g w := by
 refine ⟨h.below, ?_, ?_, ?_, ?_, ?_, ?_, ?_⟩ <;> simp only [getD_set_ne false h0, getD_set_ne false h1, getD_set_ne false h2, getD_set_ne false h3]
 ·exact h.s0
 ·exact h.s1
 ·exact h.s2
 ·exact h.s3
 ·exact h.t1
 ·exact h.t2
 ·exact h.t3
end
end
section
section
variable {P : Program} {ops : Array Oper} {md : Region.Mode} {w1 : World} {K : List Fact} {ix iz : Nat} {R1 : (Tmp → Value) → World → World → Prop} {aF : (Tmp → Value) → Act} {i : Nat} {o : Oper}
end
end
end Go.Proofs.YtkkjahhilcjpgaaDoor
