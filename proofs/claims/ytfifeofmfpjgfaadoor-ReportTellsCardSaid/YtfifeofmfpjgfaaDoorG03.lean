/-
  Words for memory: a block that is known whole; a slice that lies below a block; a slice cut at a place; a reader's box. Words for memory that several things share: what has a footprint (a set of blocks), and stays as it is wherever only other blocks turn; append that tells which block its row lies in; copy into a row of the call's own; slices cut short.
-/
import Derived.Test.YtfifeofmfpjgfaaDoorG02
import Derived.Laws.Rows
import Derived.Laws.IdiomCopy
import Derived.Laws.Slices
namespace Go.Proofs.YtfifeofmfpjgfaaDoor
open Go.RowKit
section
def Blk (w : World) (g : Nat) (t : TypeId) (cs : Array Value) : Prop := w.heap[g]? = some (.cells cs t (0, 0))
section
variable {w w' : World} {g : Nat} {t : TypeId} {cs : Array Value}
theorem Blk.lt (h : Blk w g t cs) : g < w.heap.size := (Array.getElem?_eq_some_iff.1 h).1
theorem Blk.cell (h : Blk w g t cs) (i : Nat) : w.cell? ⟨g, i, none⟩ = cs[i]? := cell_of_row w g i cs t (0, 0) h
theorem Blk.frozen (h : Blk w g t cs) (i : Nat) : w.frozen? ⟨g, i, none⟩ = false := frozen_of_row w g i cs t h
theorem Blk.new (w : World) (t : TypeId) (cs : Array Value) : Blk (w.alloc (.cells cs t)) w.heap.size t cs := heap_alloc_new w _
theorem Blk.drewN (h : Blk w g t cs) (n : Nat) : Blk (w.drewN n) g t cs := h
theorem Blk.alloc (h : Blk w g t cs) (o : Obj) : Blk (w.alloc o) g t cs := (Below.heap_alloc w o g h.lt).trans h
theorem Blk.set (h : Blk w g t cs) (i : Nat) (u : Value) : Blk (w.setCell ⟨g, i, none⟩ u) g t (cs.setIfInBounds i u) := by
 have := heap_setCell_same w g i cs t u h
 simpa [Blk] using this
theorem Blk.far (h : Blk w g t cs) {a : Addr} (ha : g ≠ a.block) (u : Value) : Blk (w.setCell a u) g t cs := (heap_setCell_other w a g u ha).trans h
theorem Blk.below {B : Nat} (h : Blk w g t cs) (hb : Below B w w') (hg : g < B) : Blk w' g t cs := (hb.block g hg).trans h
end
def RdIn (n₁ : Nat) (w : World) (A : Option Addr) (xs : List Value) : Prop :=
 0 < xs.length → ∃ b o, A = some ⟨b, o, none⟩ ∧ b < n₁ ∧ ∀ k u, xs[k]? = some u → w.cell? ⟨b, o + k, none⟩ = some u
theorem RdIn.of {w : World} {A : Option Addr} {xs : List Value} (h : Rd w A xs) : RdIn w.heap.size w A xs := h
theorem RdIn.below {n₁ : Nat} {w w' : World} {A : Option Addr} {xs : List Value} (h : RdIn n₁ w A xs) (hb : Below n₁ w w') : RdIn n₁ w' A xs := fun hp => by
 obtain ⟨b, o, rfl, hlt, hc⟩ := h hp
 exact ⟨b, o, rfl, hlt, fun k u hu => (hb.cell (p := ⟨b, o + k, none⟩) hlt).trans (hc k u hu)⟩
theorem RdIn.drop {n₁ : Nat} {w : World} {b o : Nat} {t : List UInt8} (h : RdIn n₁ w (some ⟨b, o, none⟩) (bs t)) (k : Nat) (hk : k < t.length) : Rd w (some ⟨b, o + k, none⟩) (bs (t.drop k)) := fun _ => by
 obtain ⟨b', o', hA, _, hc⟩ := h (by rw [bs_length]; omega)
 simp only [Option.some.injEq, Addr.mk.injEq, and_true] at hA
 obtain ⟨rfl, rfl⟩ := hA
 have h0 := hc k _ (bs_get t k hk)
 refine ⟨b, o + k, rfl, World.block_lt_of_cell? w _ h0, fun i u hu => ?_⟩
 rw [Nat.add_assoc]
 apply hc
 simp only [bs, List.map_drop, List.getElem?_drop] at hu
 exact hu
theorem Blk.grown {w w' : World} {g : Nat} {t : TypeId} {cs : Array Value} {row : Option Nat} (h : Blk w g t cs) (hb : w.grownBy w' row) (hg : row ≠ some g) : Blk w' g t cs := (hb.block g h.lt (fun e => hg e.symm)).trans h
theorem RdIn.rd {n₁ : Nat} {w : World} {A : Option Addr} {xs : List Value} (h : RdIn n₁ w A xs) (hn : n₁ ≤ w.heap.size) : Rd w A xs := fun hp => by
 obtain ⟨b, o, rfl, hlt, hc⟩ := h hp
 exact ⟨b, o, rfl, by omega, hc⟩
theorem RdIn.grown {n₁ : Nat} {w w' : World} {A : Option Addr} {xs : List Value} (h : RdIn n₁ w A xs) (hg : w.grownBy w' (some n₁)) (hn : n₁ < w.heap.size) : RdIn n₁ w' A xs := fun hp => by
 obtain ⟨b, o, rfl, hlt, hc⟩ := h hp
 exact ⟨b, o, rfl, hlt, fun k u hu => (World.cell?_of_block (w := w) (a := ⟨b, o + k, none⟩) (hg.block b (by omega) (fun e => by injection e with e; omega))).trans (hc k u hu)⟩
theorem grown_trans {w w' w'' : World} {row : Option Nat} (h : w.grownBy w' row) (h' : w'.grownBy w'' row) : w.grownBy w'' row :=
 ⟨h'.os.trans h.os, h'.tape.trans h.tape, h'.output.trans h.output, Nat.le_trans h.size h'.size, fun k hk hr => (h'.block k (Nat.lt_of_lt_of_le hk h.size) hr).trans (h.block k hk hr)⟩
theorem grown_below {w w' : World} (row : Option Nat) (h : Below w.heap.size w w') : w.grownBy w' row := ⟨h.os, h.tape, h.output, h.size, fun k hk _ => h.block k hk⟩
end
section
structure Fr (w w' : World) (S : Nat → Prop) : Prop where
 os : w'.os = w.os
 tape : w'.tape = w.tape
 output : w'.output = w.output
 size : w.heap.size ≤ w'.heap.size
 block : ∀ k, k < w.heap.size → ¬ S k → w'.heap[k]? = w.heap[k]?
def Wid (w : World) (S S' : Nat → Prop) : Prop := ∀ k, S' k → S k ∨ w.heap.size ≤ k
section
variable {w w' w'' : World} {S S' S'' : Nat → Prop}
theorem Fr.refl (w : World) (S : Nat → Prop) : Fr w w S := ⟨rfl, rfl, rfl, Nat.le_refl _, fun _ _ _ => rfl⟩
theorem Fr.drewN (w : World) (n : Nat) (S : Nat → Prop) : Fr w (w.drewN n) S := ⟨rfl, rfl, rfl, Nat.le_refl _, fun _ _ _ => rfl⟩
theorem Fr.mono (h : Fr w w' S) (hS : ∀ k, S k → S' k) : Fr w w' S' := ⟨h.os, h.tape, h.output, h.size, fun k hk hn => h.block k hk (fun hs => hn (hS k hs))⟩
theorem Fr.trans (h : Fr w w' S) (h' : Fr w' w'' S') (hS : ∀ k, S' k → S k ∨ w.heap.size ≤ k) : Fr w w'' S :=
 ⟨h'.os.trans h.os, h'.tape.trans h.tape, h'.output.trans h.output, Nat.le_trans h.size h'.size, fun k hk hn => (h'.block k (Nat.lt_of_lt_of_le hk h.size) (fun hs => by rcases hS k hs with h1 | h1; exact hn h1; omega)).trans (h.block k hk hn)⟩
theorem Fr.of_below (h : Below w.heap.size w w') (S : Nat → Prop) : Fr w w' S := ⟨h.os, h.tape, h.output, h.size, fun k hk _ => h.block k hk⟩
theorem Fr.setCell (w : World) (g i : Nat) (u : Value) (S : Nat → Prop) (h : S g) : Fr w (w.setCell ⟨g, i, none⟩ u) S :=
 ⟨rfl, rfl, rfl, by simp [World.setCell], fun k _ hn => Below.heap_setCell w ⟨g, i, none⟩ u k (fun e => hn (by rw [show k = g from e]; exact h))⟩
theorem Fr.below {B : Nat} (h : Fr w w' S) (hB : B ≤ w.heap.size) (hS : ∀ k, S k → B ≤ k) : Below B w w' :=
 ⟨h.os, h.tape, h.output, h.size, fun k hk => h.block k (by omega) (fun hs => by have := hS k hs; omega)⟩
theorem Wid.refl (w : World) (S : Nat → Prop) : Wid w S S := fun _ h => .inl h
theorem Wid.trans (h : Wid w S S') (h' : Wid w' S' S'') (hs : w.heap.size ≤ w'.heap.size) : Wid w S S'' := fun k hk => by
 rcases h' k hk with h1 | h1
 ·exact h k h1
 ·exact .inr (by omega)
theorem Wid.out (h : Wid w S S') {k : Nat} (hk : k < w.heap.size) (hn : ¬ S k) : ¬ S' k := fun hs => by
 rcases h k hs with h1 | h1
 ·exact hn h1
 ·omega
theorem Blk.fr {g : Nat} {t : TypeId} {cs : Array Value} (h : Blk w g t cs) (hf : Fr w w' S) (hn : ¬ S g) : Blk w' g t cs := (hf.block g h.lt hn).trans h
theorem Own.fr {base : Nat} {e : TypeId} {sz : Nat} {v : Value} {n : Nat} {xs : List Value} (h : Own w base e sz v n xs) (hf : Fr w w' S) (hn : ∀ k, v.ownBlock = some k → ¬ S k) : Own w' base e sz v n xs :=
 h.keep fun k hk => hf.block k (h.lt k hk).2 (hn k hk)
def RdOff (w : World) (S : Nat → Prop) (A : Option Addr) (xs : List Value) : Prop :=
 0 < xs.length → ∃ b o, A = some ⟨b, o, none⟩ ∧ b < w.heap.size ∧ ¬ S b ∧ ∀ k u, xs[k]? = some u → w.cell? ⟨b, o + k, none⟩ = some u
variable {A : Option Addr} {xs : List Value}
theorem RdOff.nil (w : World) (S : Nat → Prop) (A : Option Addr) : RdOff w S A [] := fun h => absurd h (by simp)
theorem RdOff.rd (h : RdOff w S A xs) : Rd w A xs := fun hp => by
 obtain ⟨b, o, rfl, hb, _, hc⟩ := h hp
 exact ⟨b, o, rfl, hb, hc⟩
theorem RdOff.fr (h : RdOff w S A xs) (hf : Fr w w' S) (hw : Wid w S S') : RdOff w' S' A xs := fun hp => by
 obtain ⟨b, o, rfl, hb, hn, hc⟩ := h hp
 exact ⟨b, o, rfl, Nat.lt_of_lt_of_le hb hf.size, hw.out hb hn, fun k u hu => (World.cell?_of_block (w := w) (a := ⟨b, o + k, none⟩) (hf.block b hb hn)).trans (hc k u hu)⟩
theorem RdOff.of_rdIn {n₁ : Nat} (h : RdIn n₁ w A xs) (hn : n₁ ≤ w.heap.size) (hS : ∀ k, S k → n₁ ≤ k) : RdOff w S A xs := fun hp => by
 obtain ⟨b, o, rfl, hb, hc⟩ := h hp
 exact ⟨b, o, rfl, by omega, fun hs => by have := hS b hs; omega, hc⟩
theorem RdOff.mono (h : RdOff w S A xs) (hS : ∀ k, S' k → S k) : RdOff w S' A xs := fun hp => by
 obtain ⟨b, o, rfl, hb, hn, hc⟩ := h hp
 exact ⟨b, o, rfl, hb, fun hs => hn (hS b hs), hc⟩
theorem RdOff.new (S : Nat → Prop) (o : Obj) (h : Rd (w.alloc o) (some ⟨w.heap.size, 0, none⟩) xs) (hS : ∀ k, S k → k < w.heap.size) : RdOff (w.alloc o) S (some ⟨w.heap.size, 0, none⟩) xs := fun hp => by
 obtain ⟨b, o', hA, hlt, hc⟩ := h hp
 injection hA with hA
 injection hA with h1 h2
 subst h1 h2
 exact ⟨w.heap.size, 0, rfl, hlt, fun hs => Nat.lt_irrefl _ (hS _ hs), hc⟩
theorem RdOff.of_own {base : Nat} {e : TypeId} {n : Nat} {c : Nat} (h : Own w base e 1 (.slice A n c) n xs) (hS : ∀ k, (Value.slice A n c).ownBlock = some k → ¬ S k) : RdOff w S A xs := fun hp => by
 have hl := h.1
 obtain ⟨g, cap, hv, _, hg, _⟩ := h.some_ (by omega)
 injection hv with hA
 subst hA
 obtain ⟨b, o, hb, hlt, hc⟩ := h.rd hp
 simp only [Option.some.injEq, Addr.mk.injEq, and_true] at hb
 obtain ⟨rfl, rfl⟩ := hb
 exact ⟨g, 0, rfl, hlt, hS g rfl, hc⟩
end
section
variable {P : Program} (w : World)
end
section
variable {w : World} {base : Nat} {e : TypeId} {A : Option Addr} {n c : Nat} {xs : List Value}
theorem Own.cap (h : Own w base e 1 (.slice A n c) n xs) : n ≤ c ∧ c ≤ maxLen := by
 rcases h.2 with ⟨hv, h0⟩ | ⟨g, cap, hv, hb, hh, hnc, hcm, hx, hc⟩
 ·injection hv with h1 h2 h3
  subst h0 h3
  exact ⟨Nat.le_refl _, Nat.zero_le _⟩
 ·injection hv with h1 h2 h3
  subst h3
  exact ⟨hnc, hcm⟩
theorem Own.made (w : World) (base : Nat) (e : TypeId) (n : Nat) (xs : List Value) (hl : xs.length = n) (hb : base ≤ w.heap.size) (hm : n ≤ maxLen) : Own (w.alloc (.cells xs.toArray e)) base e 1 (.slice (some ⟨w.heap.size, 0, none⟩) n n) n xs := by
 refine Own.of ⟨by omega, .inr ⟨w.heap.size, n, xs.toArray, rfl, hb, heap_alloc_new w _, Nat.le_refl _, hm, by simp [hl], ?_⟩⟩
 rw [List.take_of_length_le (by simp [hl])]
end
end
end Go.Proofs.YtfifeofmfpjgfaaDoor
