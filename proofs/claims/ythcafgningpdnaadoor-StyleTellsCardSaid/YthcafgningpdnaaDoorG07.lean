/-
  Words for memory that several things share: what has a footprint (a set of blocks), and stays as it is wherever only other blocks turn; append that tells which block its row lies in; copy into a row of the call's own; slices cut short.
-/
import Derived.Test.YthcafgningpdnaaDoorG05
import Derived.Laws.IdiomCopy
import Derived.Laws.Slices
namespace Go.Proofs.YthcafgningpdnaaDoor
open Go.RowKit
section
structure Fr (w w' : World) (S : Nat → Prop) : Prop where
 os : w'.os = w.os
 tape : w'.tape = w.tape
 output : w'.output = w.output
 size : w.heap.size ≤ w'.heap.size
 block : ∀ k, k < w.heap.size → ¬ S k → w'.heap[k]? = w.heap[k]?
def Wid (w : World) (S S' : Nat → Prop) : Prop := ∀ k, S' k → S k ∨ w.heap.size ≤ k
section
variable {w w' w'' : World} {S S' S'' : Nat → Prop}
theorem Fr.refl (w : World) (S : Nat → Prop) : Fr w w S := ⟨rfl, rfl, rfl, Nat.le_refl _, fun _ _ _ => rfl⟩
theorem Fr.drewN (w : World) (n : Nat) (S : Nat → Prop) : Fr w (w.drewN n) S := ⟨rfl, rfl, rfl, Nat.le_refl _, fun _ _ _ => rfl⟩
theorem Fr.mono (h : Fr w w' S) (hS : ∀ k, S k → S' k) : Fr w w' S' := ⟨h.os, h.tape, h.output, h.size, fun k hk hn => h.block k hk (fun hs => hn (hS k hs))⟩
theorem Fr.trans (h : Fr w w' S) (h' : Fr w' w'' S') (hS : ∀ k, S' k → S k ∨ w.heap.size ≤ k) : Fr w w'' S :=
 ⟨h'.os.trans h.os, h'.tape.trans h.tape, h'.output.trans h.output, Nat.le_trans h.size h'.size, fun k hk hn => (h'.block k (Nat.lt_of_lt_of_le hk h.size) (fun hs => by rcases hS k hs with h1 | h1; exact hn h1; omega)).trans (h.block k hk hn)⟩
theorem Fr.of_below (h : Below w.heap.size w w') (S : Nat → Prop) : Fr w w' S := ⟨h.os, h.tape, h.output, h.size, fun k hk _ => h.block k hk⟩
theorem Fr.of_grown {row : Option Nat} (h : w.grownBy w' row) : Fr w w' (fun k => row = some k) := ⟨h.os, h.tape, h.output, h.size, fun k hk hn => h.block k hk (fun e => hn e.symm)⟩
theorem Fr.setCell (w : World) (g i : Nat) (u : Value) (S : Nat → Prop) (h : S g) : Fr w (w.setCell ⟨g, i, none⟩ u) S :=
 ⟨rfl, rfl, rfl, by simp [World.setCell], fun k _ hn => Below.heap_setCell w ⟨g, i, none⟩ u k (fun e => hn (by rw [show k = g from e]; exact h))⟩
theorem Fr.below {B : Nat} (h : Fr w w' S) (hB : B ≤ w.heap.size) (hS : ∀ k, S k → B ≤ k) : Below B w w' :=
 ⟨h.os, h.tape, h.output, h.size, fun k hk => h.block k (by omega) (fun hs => by have := hS k hs; omega)⟩
theorem Wid.refl (w : World) (S : Nat → Prop) : Wid w S S := fun _ h => .inl h
theorem Wid.trans (h : Wid w S S') (h' : Wid w' S' S'') (hs : w.heap.size ≤ w'.heap.size) : Wid w S S'' := fun k hk => by
 rcases h' k hk with h1 | h1
 ·exact h k h1
 ·exact .inr (by omega)
theorem Wid.out (h : Wid w S S') {k : Nat} (hk : k < w.heap.size) (hn : ¬ S k) : ¬ S' k := fun hs => by
 rcases h k hs with h1 | h1
 ·exact hn h1
 ·omega
theorem Blk.fr {g : Nat} {t : TypeId} {cs : Array Value} (h : Blk w g t cs) (hf : Fr w w' S) (hn : ¬ S g) : Blk w' g t cs := (hf.block g h.lt hn).trans h
theorem Own.fr {base : Nat} {e : TypeId} {sz : Nat} {v : Value} {n : Nat} {xs : List Value} (h : Own w base e sz v n xs) (hf : Fr w w' S) (hn : ∀ k, v.ownBlock = some k → ¬ S k) : Own w' base e sz v n xs :=
 h.keep fun k hk => hf.block k (h.lt k hk).2 (hn k hk)
def RdOff (w : World) (S : Nat → Prop) (A : Option Addr) (xs : List Value) : Prop :=
 0 < xs.length → ∃ b o, A = some ⟨b, o, none⟩ ∧ b < w.heap.size ∧ ¬ S b ∧ ∀ k u, xs[k]? = some u → w.cell? ⟨b, o + k, none⟩ = some u
variable {A : Option Addr} {xs : List Value}
theorem RdOff.nil (w : World) (S : Nat → Prop) (A : Option Addr) : RdOff w S A [] := fun h => absurd h (by simp)
theorem RdOff.rd (h : RdOff w S A xs) : Rd w A xs := fun hp => by
 obtain ⟨b, o, rfl, hb, _, hc⟩ := h hp
 exact ⟨b, o, rfl, hb, hc⟩
theorem RdOff.fr (h : RdOff w S A xs) (hf : Fr w w' S) (hw : Wid w S S') : RdOff w' S' A xs := fun hp => by
 obtain ⟨b, o, rfl, hb, hn, hc⟩ := h hp
 exact ⟨b, o, rfl, Nat.lt_of_lt_of_le hb hf.size, hw.out hb hn, fun k u hu => (World.cell?_of_block (w := w) (a := ⟨b, o + k, none⟩) (hf.block b hb hn)).trans (hc k u hu)⟩
theorem RdOff.of_rdIn {n₁ : Nat} (h : RdIn n₁ w A xs) (hn : n₁ ≤ w.heap.size) (hS : ∀ k, S k → n₁ ≤ k) : RdOff w S A xs := fun hp => by
 obtain ⟨b, o, rfl, hb, hc⟩ := h hp
 exact ⟨b, o, rfl, by omega, fun hs => by have := hS b hs; omega, hc⟩
theorem RdOff.mono (h : RdOff w S A xs) (hS : ∀ k, S' k → S k) : RdOff w S' A xs := fun hp => by
 obtain ⟨b, o, rfl, hb, hn, hc⟩ := h hp
 exact ⟨b, o, rfl, hb, fun hs => hn (hS b hs), hc⟩
theorem RdOff.new (S : Nat → Prop) (o : Obj) (h : Rd (w.alloc o) (some ⟨w.heap.size, 0, none⟩) xs) (hS : ∀ k, S k → k < w.heap.size) : RdOff (w.alloc o) S (some ⟨w.heap.size, 0, none⟩) xs := fun hp => by
 obtain ⟨b, o', hA, hlt, hc⟩ := h hp
 injection hA with hA
 injection hA with h1 h2
 subst h1 h2
 exact ⟨w.heap.size, 0, rfl, hlt, fun hs => Nat.lt_irrefl _ (hS _ hs), hc⟩
end
section
variable {P : Program} (w : World)
end
section
variable {w : World} {base : Nat} {e : TypeId} {A : Option Addr} {n c : Nat} {xs : List Value}
theorem Own.cap (h : Own w base e 1 (.slice A n c) n xs) : n ≤ c ∧ c ≤ maxLen := by
 rcases h.2 with ⟨hv, h0⟩ | ⟨g, cap, hv, hb, hh, hnc, hcm, hx, hc⟩
 ·injection hv with h1 h2 h3
  subst h0 h3
  exact ⟨Nat.le_refl _, Nat.zero_le _⟩
 ·injection hv with h1 h2 h3
  subst h3
  exact ⟨hnc, hcm⟩
theorem Own.made (w : World) (base : Nat) (e : TypeId) (n : Nat) (xs : List Value) (hl : xs.length = n) (hb : base ≤ w.heap.size) (hm : n ≤ maxLen) : Own (w.alloc (.cells xs.toArray e)) base e 1 (.slice (some ⟨w.heap.size, 0, none⟩) n n) n xs := by
 refine Own.of ⟨by omega, .inr ⟨w.heap.size, n, xs.toArray, rfl, hb, heap_alloc_new w _, Nat.le_refl _, hm, by simp [hl], ?_⟩⟩
 rw [List.take_of_length_le (by simp [hl])]
end
theorem cutl_run {P : Program} {T e : TypeId} (he : P.elem T = e) (hT : P.underlying T = some (.slice e)) (hs : ∀ w, (sizeOf e).run P w = .ok 1 w) (A : Option Addr) (n c k : Nat) (hk : k ≤ n) (hn : n ≤ c) :
 ∃ A', (∀ w : World, (Instr.slice T (.slice A n c) (some (.int .i64 (k : Int))) none none).run P w = .ok (.slice A' (n - k) (c - k)) w) ∧
   ∀ (S : Nat → Prop) (w : World) (l : List Value), l.length = n → RdOff w S A l → RdOff w S A' (l.drop k) := by
 subst he
 refine ⟨if c = k then A else A.map (·.add (k * 1)), fun w => ?_, fun S w l hl hr => ?_⟩
 ·rw [run_slice_l w T A n c hT .i64 (k : Int) (by omega) (by omega), hs]
  simp [Result.andThen, sliced]
 ·intro hp
  rw [List.length_drop] at hp
  obtain ⟨b, o, rfl, hb, hn, hc⟩ := hr (by omega)
  rw [if_neg (by omega)]
  refine ⟨b, o + k, ?_, hb, hn, fun i u hu => ?_⟩
  ·rw [Option.map_some, addr_add_at, Nat.mul_one]
  ·rw [Nat.add_assoc]
   apply hc
   simp only [List.getElem?_drop] at hu
   exact hu
end
end Go.Proofs.YthcafgningpdnaaDoor
