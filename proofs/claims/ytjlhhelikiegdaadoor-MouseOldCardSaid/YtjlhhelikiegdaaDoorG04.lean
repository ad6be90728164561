/-
  Words for memory: a block that is known whole; a slice that lies below a block; a slice cut at a place; a reader's box.
-/
import Derived.Test.YtjlhhelikiegdaaDoorG03
import Derived.Laws.Rows
namespace Go.Proofs.YtjlhhelikiegdaaDoor
open Go.RowKit
section
def Blk (w : World) (g : Nat) (t : TypeId) (cs : Array Value) : Prop := w.heap[g]? = some (.cells cs t (0, 0))
section
variable {w w' : World} {g : Nat} {t : TypeId} {cs : Array Value}
theorem Blk.lt (h : Blk w g t cs) : g < w.heap.size := (Array.getElem?_eq_some_iff.1 h).1
theorem Blk.cell (h : Blk w g t cs) (i : Nat) : w.cell? ⟨g, i, none⟩ = cs[i]? := cell_of_row w g i cs t (0, 0) h
theorem Blk.frozen (h : Blk w g t cs) (i : Nat) : w.frozen? ⟨g, i, none⟩ = false := frozen_of_row w g i cs t h
theorem Blk.new (w : World) (t : TypeId) (cs : Array Value) : Blk (w.alloc (.cells cs t)) w.heap.size t cs := heap_alloc_new w _
theorem Blk.drewN (h : Blk w g t cs) (n : Nat) : Blk (w.drewN n) g t cs := h
theorem Blk.alloc (h : Blk w g t cs) (o : Obj) : Blk (w.alloc o) g t cs := (Below.heap_alloc w o g h.lt).trans h
theorem Blk.set (h : Blk w g t cs) (i : Nat) (u : Value) : Blk (w.setCell ⟨g, i, none⟩ u) g t (cs.setIfInBounds i u) := by
 have := heap_setCell_same w g i cs t u h
 simpa [Blk] using this
theorem Blk.far (h : Blk w g t cs) {a : Addr} (ha : g ≠ a.block) (u : Value) : Blk (w.setCell a u) g t cs := (heap_setCell_other w a g u ha).trans h
theorem Blk.far3 (h : Blk w g t cs) {b : Nat} (hb : g ≠ b) (x y z : Value) : Blk (((w.setCell ⟨b, 0, none⟩ x).setCell ⟨b, 1, none⟩ y).setCell ⟨b, 2, none⟩ z) g t cs :=
 ((h.far (a := ⟨b, 0, none⟩) hb x).far (a := ⟨b, 1, none⟩) hb y).far (a := ⟨b, 2, none⟩) hb z
theorem Blk.set3 {p q r : Value} (h : Blk w g t #[p, q, r]) (x y z : Value) : Blk (((w.setCell ⟨g, 0, none⟩ x).setCell ⟨g, 1, none⟩ y).setCell ⟨g, 2, none⟩ z) g t #[x, y, z] := by
 have h1 : Blk (w.setCell ⟨g, 0, none⟩ x) g t #[x, q, r] := h.set 0 x
 have h2 : Blk ((w.setCell ⟨g, 0, none⟩ x).setCell ⟨g, 1, none⟩ y) g t #[x, y, r] := h1.set 1 y
 exact h2.set 2 z
theorem set3_size (w : World) (b : Nat) (x y z : Value) : (((w.setCell ⟨b, 0, none⟩ x).setCell ⟨b, 1, none⟩ y).setCell ⟨b, 2, none⟩ z).heap.size = w.heap.size := by simp
theorem below_set3 {B : Nat} {a : World} (h : Below B a w) {b : Nat} (hb : B ≤ b) (x y z : Value) : Below B a (((w.setCell ⟨b, 0, none⟩ x).setCell ⟨b, 1, none⟩ y).setCell ⟨b, 2, none⟩ z) :=
 ((h.setCell (p := ⟨b, 0, none⟩) hb x).setCell (p := ⟨b, 1, none⟩) hb y).setCell (p := ⟨b, 2, none⟩) hb z
theorem Blk.below {B : Nat} (h : Blk w g t cs) (hb : Below B w w') (hg : g < B) : Blk w' g t cs := (hb.block g hg).trans h
end
def RdIn (n₁ : Nat) (w : World) (A : Option Addr) (xs : List Value) : Prop :=
 0 < xs.length → ∃ b o, A = some ⟨b, o, none⟩ ∧ b < n₁ ∧ ∀ k u, xs[k]? = some u → w.cell? ⟨b, o + k, none⟩ = some u
theorem RdIn.of {w : World} {A : Option Addr} {xs : List Value} (h : Rd w A xs) : RdIn w.heap.size w A xs := h
theorem RdIn.below {n₁ : Nat} {w w' : World} {A : Option Addr} {xs : List Value} (h : RdIn n₁ w A xs) (hb : Below n₁ w w') : RdIn n₁ w' A xs := fun hp => by
 obtain ⟨b, o, rfl, hlt, hc⟩ := h hp
 exact ⟨b, o, rfl, hlt, fun k u hu => (hb.cell (p := ⟨b, o + k, none⟩) hlt).trans (hc k u hu)⟩
theorem RdIn.drop {n₁ : Nat} {w : World} {b o : Nat} {t : List UInt8} (h : RdIn n₁ w (some ⟨b, o, none⟩) (bs t)) (k : Nat) (hk : k < t.length) : Rd w (some ⟨b, o + k, none⟩) (bs (t.drop k)) := fun _ => by
 obtain ⟨b', o', hA, _, hc⟩ := h (by rw [bs_length]; omega)
 simp only [Option.some.injEq, Addr.mk.injEq, and_true] at hA
 obtain ⟨rfl, rfl⟩ := hA
 have h0 := hc k _ (bs_get t k hk)
 refine ⟨b, o + k, rfl, World.block_lt_of_cell? w _ h0, fun i u hu => ?_⟩
 rw [Nat.add_assoc]
 apply hc
 simp only [bs, List.map_drop, List.getElem?_drop] at hu
 exact hu
theorem Blk.grown {w w' : World} {g : Nat} {t : TypeId} {cs : Array Value} {row : Option Nat} (h : Blk w g t cs) (hb : w.grownBy w' row) (hg : row ≠ some g) : Blk w' g t cs := (hb.block g h.lt (fun e => hg e.symm)).trans h
theorem RdIn.rd {n₁ : Nat} {w : World} {A : Option Addr} {xs : List Value} (h : RdIn n₁ w A xs) (hn : n₁ ≤ w.heap.size) : Rd w A xs := fun hp => by
 obtain ⟨b, o, rfl, hlt, hc⟩ := h hp
 exact ⟨b, o, rfl, by omega, hc⟩
theorem RdIn.grown {n₁ : Nat} {w w' : World} {A : Option Addr} {xs : List Value} (h : RdIn n₁ w A xs) (hg : w.grownBy w' (some n₁)) (hn : n₁ < w.heap.size) : RdIn n₁ w' A xs := fun hp => by
 obtain ⟨b, o, rfl, hlt, hc⟩ := h hp
 exact ⟨b, o, rfl, hlt, fun k u hu => (World.cell?_of_block (w := w) (a := ⟨b, o + k, none⟩) (hg.block b (by omega) (fun e => by injection e with e; omega))).trans (hc k u hu)⟩
theorem grown_trans {w w' w'' : World} {row : Option Nat} (h : w.grownBy w' row) (h' : w'.grownBy w'' row) : w.grownBy w'' row :=
 ⟨h'.os.trans h.os, h'.tape.trans h.tape, h'.output.trans h.output, Nat.le_trans h.size h'.size, fun k hk hr => (h'.block k (Nat.lt_of_lt_of_le hk h.size) hr).trans (h.block k hk hr)⟩
theorem grown_below {w w' : World} (row : Option Nat) (h : Below w.heap.size w w') : w.grownBy w' row := ⟨h.os, h.tape, h.output, h.size, fun k hk _ => h.block k hk⟩
theorem below_grown {B g : Nat} {w w' : World} (h : w.grownBy w' (some g)) (hB : B ≤ g) (hg : g < w.heap.size) : Below B w w' := ⟨h.os, h.tape, h.output, h.size, fun k hk => h.block k (by omega) (fun e => by injection e with e; omega)⟩
theorem cut_run {P : Program} {T e : TypeId} (he : P.elem T = e) (hT : P.underlying T = some (.slice e)) (hs : ∀ w, (sizeOf e).run P w = .ok 1 w) (A : Option Addr) (n c k : Nat) (hk : k ≤ n) (hn : n ≤ c) :
 ∃ A', (∀ w : World, (Instr.slice T (.slice A n c) (some (.int .i64 (k : Int))) none none).run P w = .ok (.slice A' (n - k) (c - k)) w) ∧
   ∀ (n₁ : Nat) (w : World) (l : List UInt8), l.length = n → RdIn n₁ w A (bs l) → RdIn n₁ w A' (bs (l.drop k)) := by
 subst he
 refine ⟨if c = k then A else A.map (·.add (k * 1)), fun w => ?_, fun n₁ w l hl hr => ?_⟩
 ·rw [run_slice_l w T A n c hT .i64 (k : Int) (by omega) (by omega), hs]
  simp [Result.andThen, sliced]
 ·intro hp
  rw [bs_length, List.length_drop] at hp
  obtain ⟨b, o, rfl, hb, hc⟩ := hr (by rw [bs_length]; omega)
  rw [if_neg (by omega)]
  refine ⟨b, o + k, ?_, hb, fun i u hu => ?_⟩
  ·rw [Option.map_some, addr_add_at, Nat.mul_one]
  ·rw [Nat.add_assoc]
   apply hc
   simp only [bs, List.map_drop, List.getElem?_drop] at hu
   exact hu
theorem cut2_run {P : Program} {T e : TypeId} (he : P.elem T = e) (hT : P.underlying T = some (.slice e)) (hs : ∀ w, (sizeOf e).run P w = .ok 1 w) (A : Option Addr) (n c lo hi : Nat) (hk : lo ≤ hi) (hh : hi ≤ n) (hn : n ≤ c) :
 ∃ A', (∀ w : World, (Instr.slice T (.slice A n c) (some (.int .i64 (lo : Int))) (some (.int .i64 (hi : Int))) none).run P w = .ok (.slice A' (hi - lo) (c - lo)) w) ∧
   ∀ (n₁ : Nat) (w : World) (l : List UInt8), l.length = n → RdIn n₁ w A (bs l) → RdIn n₁ w A' (bs ((l.drop lo).take (hi - lo))) := by
 subst he
 refine ⟨if c = lo then A else A.map (·.add (lo * 1)), fun w => ?_, fun n₁ w l hl hr => ?_⟩
 ·rw [run_slice_lh w T A n c hT .i64 .i64 (lo : Int) (hi : Int) (by omega) (by omega) (by omega), hs]
  simp [Result.andThen, sliced]
 ·intro hp
  rw [bs_length, List.length_take, List.length_drop] at hp
  obtain ⟨b, o, rfl, hb, hc⟩ := hr (by rw [bs_length]; omega)
  rw [if_neg (by omega)]
  refine ⟨b, o + lo, ?_, hb, fun i u hu => ?_⟩
  ·rw [Option.map_some, addr_add_at, Nat.mul_one]
  ·rw [Nat.add_assoc]
   apply hc
   have hi : i < hi - lo := by
    have := (List.getElem?_eq_some_iff.1 hu).1
    rw [bs_length, List.length_take] at this
    omega
   simp only [bs, List.map_take, List.map_drop, List.getElem?_take, if_pos hi, List.getElem?_drop] at hu
   exact hu
end
end Go.Proofs.YtjlhhelikiegdaaDoor
