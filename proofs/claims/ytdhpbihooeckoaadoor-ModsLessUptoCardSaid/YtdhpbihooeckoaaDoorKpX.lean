/-
  What a round over a function keeps: all blocks of cells but some. (For all layers.)
-/
import Derived.RangeFuncNested
import Derived.RangeFuncBound
import Derived.RangeFuncCalls
import Derived.RangeFuncLeaves
import Derived.RangeFuncBox
import Derived.WalkKit
import Derived.OwnWalkIn
import Derived.TacticsInMore
import Derived.LoopNIn
import Derived.LoopIn
import Derived.Test.YtdhpbihooeckoaaDoorSep
namespace Go.Proofs.YtdhpbihooeckoaaDoor
open Go.RowKit

/-- What a round that goes on keeps: all blocks of cells but those of X. -/
def KpX (X : Nat → Prop) (W W' : World) : Prop := W.heap.size ≤ W'.heap.size ∧ ∀ k o, W.heap[k]? = some o → o.isCells = true → ¬ X k → W'.heap[k]? = some o
section
variable {X : Nat → Prop} {W W' W'' : World} {A : Option Addr} {xs : List Value}
theorem KpX.refl (X : Nat → Prop) (W : World) : KpX X W W := ⟨Nat.le_refl _, fun _ _ h _ _ => h⟩
theorem KpX.trans (h : KpX X W W') (k : KpX X W' W'') : KpX X W W'' := ⟨Nat.le_trans h.1 k.1, fun i o hi ho hx => k.2 i o (h.2 i o hi ho hx) ho hx⟩
theorem KpX.put (X : Nat → Prop) (W : World) (l : Nat) (o o' : Obj) (h : W.heap[l]? = some o) (hc : o.isCells = false) : KpX X W (W.putObj l o') :=
  ⟨by simp, fun k u hk hu _ => by
    by_cases e : k = l
    · subst e
      rw [h] at hk
      cases hk
      rw [hc] at hu
      cases hu
    · exact (World.putObj_heap_other e).trans hk⟩
theorem KpX.of_below (h : Below W.heap.size W W') : KpX X W W' := ⟨h.size, fun k _ hk _ _ => (h.block k (Array.getElem?_eq_some_iff.1 hk).1).trans hk⟩
theorem KpX.set (h : KpX X W W') {a : Addr} (ha : X a.block) (v : Value) : KpX X W (W'.setCell a v) :=
  ⟨by simpa [World.setCell] using h.1, fun k o hk ho hx => (Below.heap_setCell W' a v k (fun e => hx (by rw [e]; exact ha))).trans (h.2 k o hk ho hx)⟩
theorem cells_is {w : World} {a : Addr} {v : Value} (h : w.cell? a = some v) : ∃ o : Obj, w.heap[a.block]? = some o ∧ o.isCells = true := cells_of_cell h
theorem RdOff.kpx (h : RdOff W X A xs) (hk : KpX X W W') : RdOff W' X A xs := fun hp => by
  obtain ⟨b, o, rfl, hb, hn, hc⟩ := h hp
  obtain ⟨ob, h1, h2⟩ := cells_is (hc 0 _ (List.getElem?_eq_getElem hp))
  refine ⟨b, o, rfl, Nat.lt_of_lt_of_le hb hk.1, hn, fun k u hu => (World.cell?_of_block (w := W) (a := ⟨b, o + k, none⟩) ?_).trans (hc k u hu)⟩
  exact (hk.2 b ob h1 h2 hn).trans h1.symm
theorem RdOff.below' (h : RdOff W X A xs) (hb : Below W.heap.size W W') : RdOff W' X A xs := h.fr (Fr.of_below hb X) (Wid.refl _ _)
theorem Blk.kpx {g : Nat} {t : TypeId} {cs : Array Value} (h : Blk W g t cs) (hk : KpX X W W') (hn : ¬ X g) : Blk W' g t cs := hk.2 g _ h rfl hn
end
theorem Rd.off {w : World} {X : Nat → Prop} {g o : Nat} {xs : List Value} (h : Rd w (some ⟨g, o, none⟩) xs) (hn : ¬ X g) : RdOff w X (some ⟨g, o, none⟩) xs := fun hp => by
  obtain ⟨b, o', hA, hb, hc⟩ := h hp
  simp only [Option.some.injEq, Addr.mk.injEq, and_true] at hA
  obtain ⟨rfl, rfl⟩ := hA
  exact ⟨g, o, rfl, hb, hn, hc⟩
theorem RdIn.kpx {n₁ : Nat} {w w' : World} {X : Nat → Prop} {A : Option Addr} {xs : List Value} (h : RdIn n₁ w A xs) (hk : KpX X w w') (hX : ∀ k, X k → n₁ ≤ k) : RdIn n₁ w' A xs := fun hp => by
  obtain ⟨b, o, rfl, hb, hc⟩ := h hp
  obtain ⟨ob, h1, h2⟩ := cells_is (hc 0 _ (List.getElem?_eq_getElem hp))
  refine ⟨b, o, rfl, hb, fun k u hu => (World.cell?_of_block (w := w) (a := ⟨b, o + k, none⟩) ?_).trans (hc k u hu)⟩
  exact (hk.2 b ob h1 h2 (fun hx => by have := hX b hx; omega)).trans h1.symm
theorem keeps_below {W W' : World} (h : Below W.heap.size W W') : KeepsOthers W W' := ⟨h.size, fun k _ hk _ => (h.block k (Array.getElem?_eq_some_iff.1 hk).1).trans hk⟩
theorem below_grownN {w w' : World} (h : Below w.heap.size w w') : w.grownBy w' none := ⟨h.os, h.tape, h.output, h.size, fun k hk _ => h.block k hk⟩
theorem blk_own {β : Type} (B : Nat) (t : TypeId) (f : β → Array Value) : Go.Own (fun s W => Blk W B t (f s)) := fun s X Y row hs hg hrow =>
  hs.grown hg (fun e' => by obtain ⟨o, ho, hc⟩ := hrow B e'; rw [show X.heap[B]? = _ from hs] at ho; cases ho; cases hc)
theorem ownFrom_no {β : Type} (B : Nat) : OwnFrom B (fun (_ : β) (_ : World) => False) := fun _ _ _ _ hs _ _ => hs
end Go.Proofs.YtdhpbihooeckoaaDoor
