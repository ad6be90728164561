/-
  Words for memory: a block that is known whole; a slice that lies below a block; a slice cut at a place; a reader's box. Layer 6: words for modes in memory: as a value, as a box's cells; what calls tell. Layer 2, walked: the size of a code point, and of what begins with a byte. Layer 2, walked: the size of what begins with a byte.
-/
import Derived.Test.YtbjmfhcgkpjcfaaDoorG02
import Derived.Test.YtbjmfhcgkpjcfaaDoorG03
import Derived.Test.YtbjmfhcgkpjcfaaDoorG08
import Derived.Laws.Rows
import Derived.BigQuiet
import Derived.Deep.QuietTactic
import Derived.Laws.StructEq
namespace Go.Proofs.YtbjmfhcgkpjcfaaDoor
open Go.RowKit

/-- A block of the call's own that is known whole. -/
def Blk (w : World) (g : Nat) (t : TypeId) (cs : Array Value) : Prop := w.heap[g]? = some (.cells cs t (0, 0))
section
variable {w w' : World} {g : Nat} {t : TypeId} {cs : Array Value}
theorem Blk.lt (h : Blk w g t cs) : g < w.heap.size := (Array.getElem?_eq_some_iff.1 h).1
theorem Blk.cell (h : Blk w g t cs) (i : Nat) : w.cell? ⟨g, i, none⟩ = cs[i]? := cell_of_row w g i cs t (0, 0) h
theorem Blk.frozen (h : Blk w g t cs) (i : Nat) : w.frozen? ⟨g, i, none⟩ = false := frozen_of_row w g i cs t h
theorem Blk.new (w : World) (t : TypeId) (cs : Array Value) : Blk (w.alloc (.cells cs t)) w.heap.size t cs := heap_alloc_new w _
theorem Blk.drewN (h : Blk w g t cs) (n : Nat) : Blk (w.drewN n) g t cs := h
theorem Blk.alloc (h : Blk w g t cs) (o : Obj) : Blk (w.alloc o) g t cs := (Below.heap_alloc w o g h.lt).trans h
theorem Blk.set (h : Blk w g t cs) (i : Nat) (u : Value) : Blk (w.setCell ⟨g, i, none⟩ u) g t (cs.setIfInBounds i u) := by
  have := heap_setCell_same w g i cs t u h
  simpa [Blk] using this
theorem Blk.far (h : Blk w g t cs) {a : Addr} (ha : g ≠ a.block) (u : Value) : Blk (w.setCell a u) g t cs := (heap_setCell_other w a g u ha).trans h
theorem Blk.far3 (h : Blk w g t cs) {b : Nat} (hb : g ≠ b) (x y z : Value) : Blk (((w.setCell ⟨b, 0, none⟩ x).setCell ⟨b, 1, none⟩ y).setCell ⟨b, 2, none⟩ z) g t cs :=
  ((h.far (a := ⟨b, 0, none⟩) hb x).far (a := ⟨b, 1, none⟩) hb y).far (a := ⟨b, 2, none⟩) hb z
theorem Blk.set3 {p q r : Value} (h : Blk w g t #[p, q, r]) (x y z : Value) : Blk (((w.setCell ⟨g, 0, none⟩ x).setCell ⟨g, 1, none⟩ y).setCell ⟨g, 2, none⟩ z) g t #[x, y, z] := by
  have h1 : Blk (w.setCell ⟨g, 0, none⟩ x) g t #[x, q, r] := h.set 0 x
  have h2 : Blk ((w.setCell ⟨g, 0, none⟩ x).setCell ⟨g, 1, none⟩ y) g t #[x, y, r] := h1.set 1 y
  exact h2.set 2 z
theorem set3_size (w : World) (b : Nat) (x y z : Value) : (((w.setCell ⟨b, 0, none⟩ x).setCell ⟨b, 1, none⟩ y).setCell ⟨b, 2, none⟩ z).heap.size = w.heap.size := by simp
theorem below_set3 {B : Nat} {a : World} (h : Below B a w) {b : Nat} (hb : B ≤ b) (x y z : Value) : Below B a (((w.setCell ⟨b, 0, none⟩ x).setCell ⟨b, 1, none⟩ y).setCell ⟨b, 2, none⟩ z) :=
  ((h.setCell (p := ⟨b, 0, none⟩) hb x).setCell (p := ⟨b, 1, none⟩) hb y).setCell (p := ⟨b, 2, none⟩) hb z
theorem Blk.below {B : Nat} (h : Blk w g t cs) (hb : Below B w w') (hg : g < B) : Blk w' g t cs := (hb.block g hg).trans h
end

/-- A slice that reads as a list, and lies below a block. -/
def RdIn (n₁ : Nat) (w : World) (A : Option Addr) (xs : List Value) : Prop :=
  0 < xs.length → ∃ b o, A = some ⟨b, o, none⟩ ∧ b < n₁ ∧ ∀ k u, xs[k]? = some u → w.cell? ⟨b, o + k, none⟩ = some u
theorem RdIn.of {w : World} {A : Option Addr} {xs : List Value} (h : Rd w A xs) : RdIn w.heap.size w A xs := h
theorem RdIn.below {n₁ : Nat} {w w' : World} {A : Option Addr} {xs : List Value} (h : RdIn n₁ w A xs) (hb : Below n₁ w w') : RdIn n₁ w' A xs := fun hp => by
  obtain ⟨b, o, rfl, hlt, hc⟩ := h hp
  exact ⟨b, o, rfl, hlt, fun k u hu => (hb.cell (p := ⟨b, o + k, none⟩) hlt).trans (hc k u hu)⟩
theorem RdIn.drop {n₁ : Nat} {w : World} {b o : Nat} {t : List UInt8} (h : RdIn n₁ w (some ⟨b, o, none⟩) (bs t)) (k : Nat) (hk : k < t.length) : Rd w (some ⟨b, o + k, none⟩) (bs (t.drop k)) := fun _ => by
  obtain ⟨b', o', hA, _, hc⟩ := h (by rw [bs_length]; omega)
  simp only [Option.some.injEq, Addr.mk.injEq, and_true] at hA
  obtain ⟨rfl, rfl⟩ := hA
  have h0 := hc k _ (bs_get t k hk)
  refine ⟨b, o + k, rfl, World.block_lt_of_cell? w _ h0, fun i u hu => ?_⟩
  rw [Nat.add_assoc]
  apply hc
  simp only [bs, List.map_drop, List.getElem?_drop] at hu
  exact hu

theorem Blk.grown {w w' : World} {g : Nat} {t : TypeId} {cs : Array Value} {row : Option Nat} (h : Blk w g t cs) (hb : w.grownBy w' row) (hg : row ≠ some g) : Blk w' g t cs := (hb.block g h.lt (fun e => hg e.symm)).trans h
theorem RdIn.rd {n₁ : Nat} {w : World} {A : Option Addr} {xs : List Value} (h : RdIn n₁ w A xs) (hn : n₁ ≤ w.heap.size) : Rd w A xs := fun hp => by
  obtain ⟨b, o, rfl, hlt, hc⟩ := h hp
  exact ⟨b, o, rfl, by omega, hc⟩
theorem RdIn.grown {n₁ : Nat} {w w' : World} {A : Option Addr} {xs : List Value} (h : RdIn n₁ w A xs) (hg : w.grownBy w' (some n₁)) (hn : n₁ < w.heap.size) : RdIn n₁ w' A xs := fun hp => by
  obtain ⟨b, o, rfl, hlt, hc⟩ := h hp
  exact ⟨b, o, rfl, hlt, fun k u hu => (World.cell?_of_block (w := w) (a := ⟨b, o + k, none⟩) (hg.block b (by omega) (fun e => by injection e with e; omega))).trans (hc k u hu)⟩
theorem grown_trans {w w' w'' : World} {row : Option Nat} (h : w.grownBy w' row) (h' : w'.grownBy w'' row) : w.grownBy w'' row :=
  ⟨h'.os.trans h.os, h'.tape.trans h.tape, h'.output.trans h.output, Nat.le_trans h.size h'.size, fun k hk hr => (h'.block k (Nat.lt_of_lt_of_le hk h.size) hr).trans (h.block k hk hr)⟩
theorem grown_below {w w' : World} (row : Option Nat) (h : Below w.heap.size w w') : w.grownBy w' row := ⟨h.os, h.tape, h.output, h.size, fun k hk _ => h.block k hk⟩
theorem below_grown {B g : Nat} {w w' : World} (h : w.grownBy w' (some g)) (hB : B ≤ g) (hg : g < w.heap.size) : Below B w w' := ⟨h.os, h.tape, h.output, h.size, fun k hk => h.block k (by omega) (fun e => by injection e with e; omega)⟩

/-- A slice cut at a place, at its end, too. -/
theorem cut_run {P : Program} {T e : TypeId} (he : P.elem T = e) (hT : P.underlying T = some (.slice e)) (hs : ∀ w, (sizeOf e).run P w = .ok 1 w) (A : Option Addr) (n c k : Nat) (hk : k ≤ n) (hn : n ≤ c) :
    ∃ A', (∀ w : World, (Instr.slice T (.slice A n c) (some (.int .i64 (k : Int))) none none).run P w = .ok (.slice A' (n - k) (c - k)) w) ∧
      ∀ (n₁ : Nat) (w : World) (l : List UInt8), l.length = n → RdIn n₁ w A (bs l) → RdIn n₁ w A' (bs (l.drop k)) := by
  subst he
  refine ⟨if c = k then A else A.map (·.add (k * 1)), fun w => ?_, fun n₁ w l hl hr => ?_⟩
  · rw [run_slice_l w T A n c hT .i64 (k : Int) (by omega) (by omega), hs]
    simp [Result.andThen, sliced]
  · intro hp
    rw [bs_length, List.length_drop] at hp
    obtain ⟨b, o, rfl, hb, hc⟩ := hr (by rw [bs_length]; omega)
    rw [if_neg (by omega)]
    refine ⟨b, o + k, ?_, hb, fun i u hu => ?_⟩
    · rw [Option.map_some, addr_add_at, Nat.mul_one]
    · rw [Nat.add_assoc]
      apply hc
      simp only [bs, List.map_drop, List.getElem?_drop] at hu
      exact hu
/-- A slice cut at two places. -/
theorem cut2_run {P : Program} {T e : TypeId} (he : P.elem T = e) (hT : P.underlying T = some (.slice e)) (hs : ∀ w, (sizeOf e).run P w = .ok 1 w) (A : Option Addr) (n c lo hi : Nat) (hk : lo ≤ hi) (hh : hi ≤ n) (hn : n ≤ c) :
    ∃ A', (∀ w : World, (Instr.slice T (.slice A n c) (some (.int .i64 (lo : Int))) (some (.int .i64 (hi : Int))) none).run P w = .ok (.slice A' (hi - lo) (c - lo)) w) ∧
      ∀ (n₁ : Nat) (w : World) (l : List UInt8), l.length = n → RdIn n₁ w A (bs l) → RdIn n₁ w A' (bs ((l.drop lo).take (hi - lo))) := by
  subst he
  refine ⟨if c = lo then A else A.map (·.add (lo * 1)), fun w => ?_, fun n₁ w l hl hr => ?_⟩
  · rw [run_slice_lh w T A n c hT .i64 .i64 (lo : Int) (hi : Int) (by omega) (by omega) (by omega), hs]
    simp [Result.andThen, sliced]
  · intro hp
    rw [bs_length, List.length_take, List.length_drop] at hp
    obtain ⟨b, o, rfl, hb, hc⟩ := hr (by rw [bs_length]; omega)
    rw [if_neg (by omega)]
    refine ⟨b, o + lo, ?_, hb, fun i u hu => ?_⟩
    · rw [Option.map_some, addr_add_at, Nat.mul_one]
    · rw [Nat.add_assoc]
      apply hc
      have hi : i < hi - lo := by
        have := (List.getElem?_eq_some_iff.1 hu).1
        rw [bs_length, List.length_take] at this
        omega
      simp only [bs, List.map_take, List.map_drop, List.getElem?_take, if_pos hi, List.getElem?_drop] at hu
      exact hu
end Go.Proofs.YtbjmfhcgkpjcfaaDoor
namespace Go.Proofs.YtbjmfhcgkpjcfaaDoor
open Go.RowKit

section
variable {w w' : World} {g : Nat} {t : TypeId} {p0 p1 p2 p3 p4 p5 p6 p7 p8 p9 : Value}
theorem Blk.cells10 (h : Blk w g t #[p0, p1, p2, p3, p4, p5, p6, p7, p8, p9]) :
    w.cell? ⟨g, 0, none⟩ = some p0 ∧ w.cell? ⟨g, 1, none⟩ = some p1 ∧ w.cell? ⟨g, 2, none⟩ = some p2 ∧ w.cell? ⟨g, 3, none⟩ = some p3 ∧ w.cell? ⟨g, 4, none⟩ = some p4 ∧ w.cell? ⟨g, 5, none⟩ = some p5 ∧ w.cell? ⟨g, 6, none⟩ = some p6 ∧ w.cell? ⟨g, 7, none⟩ = some p7 ∧ w.cell? ⟨g, 8, none⟩ = some p8 ∧ w.cell? ⟨g, 9, none⟩ = some p9 :=
  ⟨h.cell 0, h.cell 1, h.cell 2, h.cell 3, h.cell 4, h.cell 5, h.cell 6, h.cell 7, h.cell 8, h.cell 9⟩
theorem Blk.set10 (h : Blk w g t #[p0, p1, p2, p3, p4, p5, p6, p7, p8, p9]) (x0 x1 x2 x3 x4 x5 x6 x7 x8 x9 : Value) : Blk ((((((((((w.setCell ⟨g, 0, none⟩ x0).setCell ⟨g, 1, none⟩ x1).setCell ⟨g, 2, none⟩ x2).setCell ⟨g, 3, none⟩ x3).setCell ⟨g, 4, none⟩ x4).setCell ⟨g, 5, none⟩ x5).setCell ⟨g, 6, none⟩ x6).setCell ⟨g, 7, none⟩ x7).setCell ⟨g, 8, none⟩ x8).setCell ⟨g, 9, none⟩ x9) g t #[x0, x1, x2, x3, x4, x5, x6, x7, x8, x9] := by
  have h0 : Blk _ g t #[x0, p1, p2, p3, p4, p5, p6, p7, p8, p9] := h.set 0 x0
  have h1 : Blk _ g t #[x0, x1, p2, p3, p4, p5, p6, p7, p8, p9] := h0.set 1 x1
  have h2 : Blk _ g t #[x0, x1, x2, p3, p4, p5, p6, p7, p8, p9] := h1.set 2 x2
  have h3 : Blk _ g t #[x0, x1, x2, x3, p4, p5, p6, p7, p8, p9] := h2.set 3 x3
  have h4 : Blk _ g t #[x0, x1, x2, x3, x4, p5, p6, p7, p8, p9] := h3.set 4 x4
  have h5 : Blk _ g t #[x0, x1, x2, x3, x4, x5, p6, p7, p8, p9] := h4.set 5 x5
  have h6 : Blk _ g t #[x0, x1, x2, x3, x4, x5, x6, p7, p8, p9] := h5.set 6 x6
  have h7 : Blk _ g t #[x0, x1, x2, x3, x4, x5, x6, x7, p8, p9] := h6.set 7 x7
  have h8 : Blk _ g t #[x0, x1, x2, x3, x4, x5, x6, x7, x8, p9] := h7.set 8 x8
  exact h8.set 9 x9
theorem below_set10 {B : Nat} {a : World} (h : Below B a w) (hB : B ≤ g) (x0 x1 x2 x3 x4 x5 x6 x7 x8 x9 : Value) : Below B a ((((((((((w.setCell ⟨g, 0, none⟩ x0).setCell ⟨g, 1, none⟩ x1).setCell ⟨g, 2, none⟩ x2).setCell ⟨g, 3, none⟩ x3).setCell ⟨g, 4, none⟩ x4).setCell ⟨g, 5, none⟩ x5).setCell ⟨g, 6, none⟩ x6).setCell ⟨g, 7, none⟩ x7).setCell ⟨g, 8, none⟩ x8).setCell ⟨g, 9, none⟩ x9) :=
  ((((((((((h.setCell (p := ⟨g, 0, none⟩) hB x0).setCell (p := ⟨g, 1, none⟩) hB x1).setCell (p := ⟨g, 2, none⟩) hB x2).setCell (p := ⟨g, 3, none⟩) hB x3).setCell (p := ⟨g, 4, none⟩) hB x4).setCell (p := ⟨g, 5, none⟩) hB x5).setCell (p := ⟨g, 6, none⟩) hB x6).setCell (p := ⟨g, 7, none⟩) hB x7).setCell (p := ⟨g, 8, none⟩) hB x8).setCell (p := ⟨g, 9, none⟩) hB x9)
end
theorem Blk.far10 {w : World} {g b : Nat} {t : TypeId} {cs : Array Value} (h : Blk w g t cs) (hb : g ≠ b) (x0 x1 x2 x3 x4 x5 x6 x7 x8 x9 : Value) : Blk ((((((((((w.setCell ⟨b, 0, none⟩ x0).setCell ⟨b, 1, none⟩ x1).setCell ⟨b, 2, none⟩ x2).setCell ⟨b, 3, none⟩ x3).setCell ⟨b, 4, none⟩ x4).setCell ⟨b, 5, none⟩ x5).setCell ⟨b, 6, none⟩ x6).setCell ⟨b, 7, none⟩ x7).setCell ⟨b, 8, none⟩ x8).setCell ⟨b, 9, none⟩ x9) g t cs :=
  (((((((((h.far (a := ⟨b, 0, none⟩) hb x0).far (a := ⟨b, 1, none⟩) hb x1).far (a := ⟨b, 2, none⟩) hb x2).far (a := ⟨b, 3, none⟩) hb x3).far (a := ⟨b, 4, none⟩) hb x4).far (a := ⟨b, 5, none⟩) hb x5).far (a := ⟨b, 6, none⟩) hb x6).far (a := ⟨b, 7, none⟩) hb x7).far (a := ⟨b, 8, none⟩) hb x8).far (a := ⟨b, 9, none⟩) hb x9
/-- Blocks that are known whole, all at once. -/
def Bl (w : World) (L : List (Nat × TypeId × Array Value)) : Prop := ∀ x ∈ L, Blk w x.1 x.2.1 x.2.2
section
variable {w w' : World} {L : List (Nat × TypeId × Array Value)}
theorem Bl.nil (w : World) : Bl w [] := fun _ h => by cases h
theorem Bl.below (h : Bl w L) (hb : Below w.heap.size w w') : Bl w' L := fun x hx => (h x hx).below hb (h x hx).lt
theorem Bl.alloc (h : Bl w L) (o : Obj) : Bl (w.alloc o) L := fun x hx => (h x hx).alloc o
theorem Bl.add (h : Bl w L) (t : TypeId) (cs : Array Value) : Bl (w.alloc (.cells cs t)) ((w.heap.size, t, cs) :: L) := fun x hx => by
  rcases List.mem_cons.1 hx with rfl | hx
  · exact Blk.new w t cs
  · exact (h x hx).alloc _
theorem Bl.head {x : Nat × TypeId × Array Value} (h : Bl w (x :: L)) : Blk w x.1 x.2.1 x.2.2 := h x (List.mem_cons_self ..)
theorem Bl.tail {x : Nat × TypeId × Array Value} (h : Bl w (x :: L)) : Bl w L := fun y hy => h y (List.mem_cons_of_mem _ hy)
end
/-- Modes as a value. -/
def moV (m : Mo) : Value := .agg #[.bool m.cursor, .bool m.keypad, .bool m.back, .bool m.focus, .bool m.paste, .bool m.lock, .bool m.line, .int .i64 m.mouse, .int .i64 m.coding, .int .i64 m.other]
def moC (m : Mo) : Array Value := #[.bool m.cursor, .bool m.keypad, .bool m.back, .bool m.focus, .bool m.paste, .bool m.lock, .bool m.line, .int .i64 m.mouse, .int .i64 m.coding, .int .i64 m.other]
def MoE (m : Mo) (q : Bool) (w : World) (e : Ending) (w' : World) : Prop := e = .returned (.tuple #[moV m, .bool q]) ∧ Below w.heap.size w w'
theorem sameM_eq (a b : Mo) : sameM a b = decide (a.cursor = b.cursor ∧ a.keypad = b.keypad ∧ a.back = b.back ∧ a.focus = b.focus ∧ a.paste = b.paste ∧ a.lock = b.lock ∧ a.line = b.line ∧ a.mouse = b.mouse ∧ a.coding = b.coding ∧ a.other = b.other) := by
  rw [Bool.eq_iff_iff]
  simp [sameM]
def inI (n : Int) : Prop := -9223372036854775808 ≤ n ∧ n ≤ 9223372036854775807
def ValE (v : Value) (w : World) (e : Ending) (w' : World) : Prop := e = .returned v ∧ Below w.heap.size w w'
/-- Modes whose numbers are ints. -/
def okM (m : Mo) : Prop := inI m.mouse ∧ inI m.coding
theorem inI_zero : inI 0 := ⟨by decide, by decide⟩
theorem ok_set {m : Mo} (h : okM m) (p : Bool) {n : Int} (hn : inI n) (on : Bool) : okM (setM m p n on).1 := by
  unfold okM setM plainM oneM
  (repeat' split) <;> first | exact h | exact ⟨hn, h.2⟩ | exact ⟨h.1, hn⟩ | exact ⟨inI_zero, h.2⟩ | exact ⟨h.1, inI_zero⟩
def OwnE (w : World) (e : Ending) (w' : World) : Prop := ∃ A c, e = .returned (.slice A 12 c) ∧ 12 ≤ c ∧ Rd w' A (is_ ownM) ∧ Below w.heap.size w w'
theorem below_step {w w1 w2 : World} {n : Nat} (h : Below n w w1) (h' : Below w1.heap.size w1 w2) (hn : n ≤ w1.heap.size) : Below n w w2 := h.trans (h'.mono hn)
end Go.Proofs.YtbjmfhcgkpjcfaaDoor
namespace Go.Proofs.YtbjmfhcgkpjcfaaDoor
open Go.RowKit

theorem siz_cell {w : World} {t : TypeId} {fz : Nat × Nat} (h : w.heap[1]? = some (.cells sizC t fz)) (i : Nat) : w.cell? ⟨1, i, none⟩ = sizC[i]? := cell_of_row w _ i sizC t fz h
theorem szA_form (j : Nat) : ∃ a b c : Int, szA j = #[.int .i64 a, .int .i64 b, .int .i64 c] := by
  unfold szA
  split <;> exact ⟨_, _, _, rfl⟩

set_option maxRecDepth 100000 in
set_option maxHeartbeats 4000000 in
theorem sizeOf_any (r : Int) (w : World) (hs : Siz w) : Calls Tryd.prog 78 #[.int .i64 r] w fun e w' => e = .returned (.agg (szA (ixP r 4))) ∧ Below w.heap.size w w' := by
  obtain ⟨t, fz, hh⟩ := hs
  have hlt := (Array.getElem?_eq_some_iff.1 hh).1
  have hlt0 : 0 < w.heap.size := Nat.zero_lt_of_lt hlt
  have c0 : w.cell? ⟨1, 0, none⟩ = some (.int .i64 1) := siz_cell hh 0
  have c1 : w.cell? ⟨1, 1, none⟩ = some (.int .i64 0) := siz_cell hh 1
  have c2 : w.cell? ⟨1, 2, none⟩ = some (.int .i64 0) := siz_cell hh 2
  have c3 : w.cell? ⟨1, 3, none⟩ = some (.int .i64 2) := siz_cell hh 3
  have c4 : w.cell? ⟨1, 4, none⟩ = some (.int .i64 128) := siz_cell hh 4
  have c5 : w.cell? ⟨1, 5, none⟩ = some (.int .i64 192) := siz_cell hh 5
  have c6 : w.cell? ⟨1, 6, none⟩ = some (.int .i64 3) := siz_cell hh 6
  have c7 : w.cell? ⟨1, 7, none⟩ = some (.int .i64 2048) := siz_cell hh 7
  have c8 : w.cell? ⟨1, 8, none⟩ = some (.int .i64 224) := siz_cell hh 8
  have c9 : w.cell? ⟨1, 9, none⟩ = some (.int .i64 4) := siz_cell hh 9
  have c10 : w.cell? ⟨1, 10, none⟩ = some (.int .i64 65536) := siz_cell hh 10
  have c11 : w.cell? ⟨1, 11, none⟩ = some (.int .i64 240) := siz_cell hh 11
  go_enter Tryd.func78, Tryd.ntmps78
  go_wp2
  have b0 := Blk.new w 108 #[.int .i64 0, .int .i64 0, .int .i64 0]
  have b1 := Blk.new (w.alloc (.cells #[.int .i64 0, .int .i64 0, .int .i64 0] 108)) 108 #[.int .i64 1, .int .i64 0, .int .i64 0]
  rw [World.size_alloc] at b1
  have hb0 : Below w.heap.size w ((w.alloc (.cells #[.int .i64 0, .int .i64 0, .int .i64 0] 108)).alloc (.cells #[.int .i64 1, .int .i64 0, .int .i64 0] 108)) := ((Below.refl _ w).alloc (Nat.le_refl _) _).alloc (by simp) _
  go_loopw [9] (fun i wr => ∃ k : Nat, k ≤ 4 ∧ i = .int .i64 k ∧ Blk wr w.heap.size 108 #[.int .i64 0, .int .i64 0, .int .i64 0] ∧ Blk wr (w.heap.size + 1) 108 (szA (ixP r k)) ∧ Below w.heap.size w wr) (fun i _ => 4 - (intOf i).toNat)
  case atStart => exact ⟨0, by omega, rfl, b0.alloc _, b1, hb0⟩
  case round =>
    obtain ⟨k, hk, rfl, p0, p1, hbw⟩ := hrel
    clear b0 b1 hb0 c0 c1 c2 c3 c4 c5 c6 c7 c8 c9 c10 c11
    have hz := p1.lt
    have q0 := p1.frozen 0
    have q1 := p1.frozen 1
    have q2 := p1.frozen 2
    obtain rfl | rfl | rfl | rfl | rfl : k = 0 ∨ k = 1 ∨ k = 2 ∨ k = 3 ∨ k = 4 := by omega
    · have i0 : ∀ w : World, (Instr.index 115 (.agg #[.int .i64 1, .int .i64 0, .int .i64 0, .int .i64 2, .int .i64 128, .int .i64 192, .int .i64 3, .int .i64 2048, .int .i64 224, .int .i64 4, .int .i64 65536, .int .i64 240]) (.int .i64 0)).run Tryd.prog w = .ok (.agg #[.int .i64 1, .int .i64 0, .int .i64 0]) w := fun _ => by kernel_rfl
      by_cases hr : 0 ≤ r
      · have f0 := Lib.hid (show szA (ixP r (0 + 1)) = szA 0 by rw [show ixP r (0 + 1) = 0 by unfold ixP; (repeat' split) <;> omega])
        obtain ⟨u0, u1, u2, hu⟩ := szA_form (ixP r 0)
        rw [hu] at p1
        have g0 := p1.cell 0
        have g1 := p1.cell 1
        have g2 := p1.cell 2
        go_wp2
        go_roundw
        case rel => exact ⟨0 + 1, by omega, by go_num, (p0.far3 (Nat.ne_of_lt (Nat.lt_succ_self _)) _ _ _).alloc _, by rw [f0.out]; exact (p1.set3 _ _ _).alloc _, (below_set3 hbw (Nat.le_succ _) _ _ _).alloc (by rw [set3_size]; exact hbw.size) _⟩
        case measure => simp [intOf]
      · have f0 := Lib.hid (show szA (ixP r (0 + 1)) = szA (ixP r 0) by rw [show ixP r (0 + 1) = ixP r 0 by unfold ixP; (repeat' split) <;> omega])
        go_wp2
        go_roundw
        case rel => exact ⟨0 + 1, by omega, by go_num, p0.alloc _, by rw [f0.out]; exact p1.alloc _, hbw.alloc hbw.size _⟩
        case measure => simp [intOf]
    · have i0 : ∀ w : World, (Instr.index 115 (.agg #[.int .i64 1, .int .i64 0, .int .i64 0, .int .i64 2, .int .i64 128, .int .i64 192, .int .i64 3, .int .i64 2048, .int .i64 224, .int .i64 4, .int .i64 65536, .int .i64 240]) (.int .i64 1)).run Tryd.prog w = .ok (.agg #[.int .i64 2, .int .i64 128, .int .i64 192]) w := fun _ => by kernel_rfl
      by_cases hr : 128 ≤ r
      · have f0 := Lib.hid (show szA (ixP r (1 + 1)) = szA 1 by rw [show ixP r (1 + 1) = 1 by unfold ixP; (repeat' split) <;> omega])
        obtain ⟨u0, u1, u2, hu⟩ := szA_form (ixP r 1)
        rw [hu] at p1
        have g0 := p1.cell 0
        have g1 := p1.cell 1
        have g2 := p1.cell 2
        go_wp2
        go_roundw
        case rel => exact ⟨1 + 1, by omega, by go_num, (p0.far3 (Nat.ne_of_lt (Nat.lt_succ_self _)) _ _ _).alloc _, by rw [f0.out]; exact (p1.set3 _ _ _).alloc _, (below_set3 hbw (Nat.le_succ _) _ _ _).alloc (by rw [set3_size]; exact hbw.size) _⟩
        case measure => simp [intOf]
      · have f0 := Lib.hid (show szA (ixP r (1 + 1)) = szA (ixP r 1) by rw [show ixP r (1 + 1) = ixP r 1 by unfold ixP; (repeat' split) <;> omega])
        go_wp2
        go_roundw
        case rel => exact ⟨1 + 1, by omega, by go_num, p0.alloc _, by rw [f0.out]; exact p1.alloc _, hbw.alloc hbw.size _⟩
        case measure => simp [intOf]
    · have i0 : ∀ w : World, (Instr.index 115 (.agg #[.int .i64 1, .int .i64 0, .int .i64 0, .int .i64 2, .int .i64 128, .int .i64 192, .int .i64 3, .int .i64 2048, .int .i64 224, .int .i64 4, .int .i64 65536, .int .i64 240]) (.int .i64 2)).run Tryd.prog w = .ok (.agg #[.int .i64 3, .int .i64 2048, .int .i64 224]) w := fun _ => by kernel_rfl
      by_cases hr : 2048 ≤ r
      · have f0 := Lib.hid (show szA (ixP r (2 + 1)) = szA 2 by rw [show ixP r (2 + 1) = 2 by unfold ixP; (repeat' split) <;> omega])
        obtain ⟨u0, u1, u2, hu⟩ := szA_form (ixP r 2)
        rw [hu] at p1
        have g0 := p1.cell 0
        have g1 := p1.cell 1
        have g2 := p1.cell 2
        go_wp2
        go_roundw
        case rel => exact ⟨2 + 1, by omega, by go_num, (p0.far3 (Nat.ne_of_lt (Nat.lt_succ_self _)) _ _ _).alloc _, by rw [f0.out]; exact (p1.set3 _ _ _).alloc _, (below_set3 hbw (Nat.le_succ _) _ _ _).alloc (by rw [set3_size]; exact hbw.size) _⟩
        case measure => simp [intOf]
      · have f0 := Lib.hid (show szA (ixP r (2 + 1)) = szA (ixP r 2) by rw [show ixP r (2 + 1) = ixP r 2 by unfold ixP; (repeat' split) <;> omega])
        go_wp2
        go_roundw
        case rel => exact ⟨2 + 1, by omega, by go_num, p0.alloc _, by rw [f0.out]; exact p1.alloc _, hbw.alloc hbw.size _⟩
        case measure => simp [intOf]
    · have i0 : ∀ w : World, (Instr.index 115 (.agg #[.int .i64 1, .int .i64 0, .int .i64 0, .int .i64 2, .int .i64 128, .int .i64 192, .int .i64 3, .int .i64 2048, .int .i64 224, .int .i64 4, .int .i64 65536, .int .i64 240]) (.int .i64 3)).run Tryd.prog w = .ok (.agg #[.int .i64 4, .int .i64 65536, .int .i64 240]) w := fun _ => by kernel_rfl
      by_cases hr : 65536 ≤ r
      · have f0 := Lib.hid (show szA (ixP r (3 + 1)) = szA 3 by rw [show ixP r (3 + 1) = 3 by unfold ixP; (repeat' split) <;> omega])
        obtain ⟨u0, u1, u2, hu⟩ := szA_form (ixP r 3)
        rw [hu] at p1
        have g0 := p1.cell 0
        have g1 := p1.cell 1
        have g2 := p1.cell 2
        go_wp2
        go_roundw
        case rel => exact ⟨3 + 1, by omega, by go_num, (p0.far3 (Nat.ne_of_lt (Nat.lt_succ_self _)) _ _ _).alloc _, by rw [f0.out]; exact (p1.set3 _ _ _).alloc _, (below_set3 hbw (Nat.le_succ _) _ _ _).alloc (by rw [set3_size]; exact hbw.size) _⟩
        case measure => simp [intOf]
      · have f0 := Lib.hid (show szA (ixP r (3 + 1)) = szA (ixP r 3) by rw [show ixP r (3 + 1) = ixP r 3 by unfold ixP; (repeat' split) <;> omega])
        go_wp2
        go_roundw
        case rel => exact ⟨3 + 1, by omega, by go_num, p0.alloc _, by rw [f0.out]; exact p1.alloc _, hbw.alloc hbw.size _⟩
        case measure => simp [intOf]
    · obtain ⟨u0, u1, u2, hu⟩ := szA_form (ixP r 4)
      rw [hu] at p1
      have g0 := p1.cell 0
      have g1 := p1.cell 1
      have g2 := p1.cell 2
      have y0 := p0.cell 0
      have y1 := p0.cell 1
      have y2 := p0.cell 2
      have x0 := p0.frozen 0
      have x1 := p0.frozen 1
      have x2 := p0.frozen 2
      have hlt2 := p0.lt
      go_wp2
      exact bodyPost_ret (v := .agg #[.int .i64 u0, .int .i64 u1, .int .i64 u2]) (by simp [results, Tryd.results78, go_sem, y0, y1, y2]) rfl ⟨by rw [hu], below_set3 hbw (Nat.le_refl _) _ _ _⟩
end Go.Proofs.YtbjmfhcgkpjcfaaDoor
namespace Go.Proofs.YtbjmfhcgkpjcfaaDoor
open Go.RowKit

set_option maxRecDepth 100000 in
set_option maxHeartbeats 4000000 in
theorem sizeByFirst_any (r : Int) (w : World) (hs : Siz w) : Calls Tryd.prog 89 #[.int .i64 r] w fun e w' => e = .returned (.agg (szA (ixF r 4))) ∧ Below w.heap.size w w' := by
  obtain ⟨t, fz, hh⟩ := hs
  have hlt := (Array.getElem?_eq_some_iff.1 hh).1
  have hlt0 : 0 < w.heap.size := Nat.zero_lt_of_lt hlt
  have c0 : w.cell? ⟨1, 0, none⟩ = some (.int .i64 1) := siz_cell hh 0
  have c1 : w.cell? ⟨1, 1, none⟩ = some (.int .i64 0) := siz_cell hh 1
  have c2 : w.cell? ⟨1, 2, none⟩ = some (.int .i64 0) := siz_cell hh 2
  have c3 : w.cell? ⟨1, 3, none⟩ = some (.int .i64 2) := siz_cell hh 3
  have c4 : w.cell? ⟨1, 4, none⟩ = some (.int .i64 128) := siz_cell hh 4
  have c5 : w.cell? ⟨1, 5, none⟩ = some (.int .i64 192) := siz_cell hh 5
  have c6 : w.cell? ⟨1, 6, none⟩ = some (.int .i64 3) := siz_cell hh 6
  have c7 : w.cell? ⟨1, 7, none⟩ = some (.int .i64 2048) := siz_cell hh 7
  have c8 : w.cell? ⟨1, 8, none⟩ = some (.int .i64 224) := siz_cell hh 8
  have c9 : w.cell? ⟨1, 9, none⟩ = some (.int .i64 4) := siz_cell hh 9
  have c10 : w.cell? ⟨1, 10, none⟩ = some (.int .i64 65536) := siz_cell hh 10
  have c11 : w.cell? ⟨1, 11, none⟩ = some (.int .i64 240) := siz_cell hh 11
  go_enter Tryd.func89, Tryd.ntmps89
  go_wp2
  have b0 := Blk.new w 108 #[.int .i64 0, .int .i64 0, .int .i64 0]
  have b1 := Blk.new (w.alloc (.cells #[.int .i64 0, .int .i64 0, .int .i64 0] 108)) 108 #[.int .i64 1, .int .i64 0, .int .i64 0]
  rw [World.size_alloc] at b1
  have hb0 : Below w.heap.size w ((w.alloc (.cells #[.int .i64 0, .int .i64 0, .int .i64 0] 108)).alloc (.cells #[.int .i64 1, .int .i64 0, .int .i64 0] 108)) := ((Below.refl _ w).alloc (Nat.le_refl _) _).alloc (by simp) _
  go_loopw [9] (fun i wr => ∃ k : Nat, k ≤ 4 ∧ i = .int .i64 k ∧ Blk wr w.heap.size 108 #[.int .i64 0, .int .i64 0, .int .i64 0] ∧ Blk wr (w.heap.size + 1) 108 (szA (ixF r k)) ∧ Below w.heap.size w wr) (fun i _ => 4 - (intOf i).toNat)
  case atStart => exact ⟨0, by omega, rfl, b0.alloc _, b1, hb0⟩
  case round =>
    obtain ⟨k, hk, rfl, p0, p1, hbw⟩ := hrel
    clear b0 b1 hb0 c0 c1 c2 c3 c4 c5 c6 c7 c8 c9 c10 c11
    have hz := p1.lt
    have q0 := p1.frozen 0
    have q1 := p1.frozen 1
    have q2 := p1.frozen 2
    obtain rfl | rfl | rfl | rfl | rfl : k = 0 ∨ k = 1 ∨ k = 2 ∨ k = 3 ∨ k = 4 := by omega
    · have i0 : ∀ w : World, (Instr.index 115 (.agg #[.int .i64 1, .int .i64 0, .int .i64 0, .int .i64 2, .int .i64 128, .int .i64 192, .int .i64 3, .int .i64 2048, .int .i64 224, .int .i64 4, .int .i64 65536, .int .i64 240]) (.int .i64 0)).run Tryd.prog w = .ok (.agg #[.int .i64 1, .int .i64 0, .int .i64 0]) w := fun _ => by kernel_rfl
      by_cases hr : 0 ≤ r
      · have f0 := Lib.hid (show szA (ixF r (0 + 1)) = szA 0 by rw [show ixF r (0 + 1) = 0 by unfold ixF; (repeat' split) <;> omega])
        obtain ⟨u0, u1, u2, hu⟩ := szA_form (ixF r 0)
        rw [hu] at p1
        have g0 := p1.cell 0
        have g1 := p1.cell 1
        have g2 := p1.cell 2
        go_wp2
        go_roundw
        case rel => exact ⟨0 + 1, by omega, by go_num, (p0.far3 (Nat.ne_of_lt (Nat.lt_succ_self _)) _ _ _).alloc _, by rw [f0.out]; exact (p1.set3 _ _ _).alloc _, (below_set3 hbw (Nat.le_succ _) _ _ _).alloc (by rw [set3_size]; exact hbw.size) _⟩
        case measure => simp [intOf]
      · have f0 := Lib.hid (show szA (ixF r (0 + 1)) = szA (ixF r 0) by rw [show ixF r (0 + 1) = ixF r 0 by unfold ixF; (repeat' split) <;> omega])
        go_wp2
        go_roundw
        case rel => exact ⟨0 + 1, by omega, by go_num, p0.alloc _, by rw [f0.out]; exact p1.alloc _, hbw.alloc hbw.size _⟩
        case measure => simp [intOf]
    · have i0 : ∀ w : World, (Instr.index 115 (.agg #[.int .i64 1, .int .i64 0, .int .i64 0, .int .i64 2, .int .i64 128, .int .i64 192, .int .i64 3, .int .i64 2048, .int .i64 224, .int .i64 4, .int .i64 65536, .int .i64 240]) (.int .i64 1)).run Tryd.prog w = .ok (.agg #[.int .i64 2, .int .i64 128, .int .i64 192]) w := fun _ => by kernel_rfl
      by_cases hr : 192 ≤ r
      · have f0 := Lib.hid (show szA (ixF r (1 + 1)) = szA 1 by rw [show ixF r (1 + 1) = 1 by unfold ixF; (repeat' split) <;> omega])
        obtain ⟨u0, u1, u2, hu⟩ := szA_form (ixF r 1)
        rw [hu] at p1
        have g0 := p1.cell 0
        have g1 := p1.cell 1
        have g2 := p1.cell 2
        go_wp2
        go_roundw
        case rel => exact ⟨1 + 1, by omega, by go_num, (p0.far3 (Nat.ne_of_lt (Nat.lt_succ_self _)) _ _ _).alloc _, by rw [f0.out]; exact (p1.set3 _ _ _).alloc _, (below_set3 hbw (Nat.le_succ _) _ _ _).alloc (by rw [set3_size]; exact hbw.size) _⟩
        case measure => simp [intOf]
      · have f0 := Lib.hid (show szA (ixF r (1 + 1)) = szA (ixF r 1) by rw [show ixF r (1 + 1) = ixF r 1 by unfold ixF; (repeat' split) <;> omega])
        go_wp2
        go_roundw
        case rel => exact ⟨1 + 1, by omega, by go_num, p0.alloc _, by rw [f0.out]; exact p1.alloc _, hbw.alloc hbw.size _⟩
        case measure => simp [intOf]
    · have i0 : ∀ w : World, (Instr.index 115 (.agg #[.int .i64 1, .int .i64 0, .int .i64 0, .int .i64 2, .int .i64 128, .int .i64 192, .int .i64 3, .int .i64 2048, .int .i64 224, .int .i64 4, .int .i64 65536, .int .i64 240]) (.int .i64 2)).run Tryd.prog w = .ok (.agg #[.int .i64 3, .int .i64 2048, .int .i64 224]) w := fun _ => by kernel_rfl
      by_cases hr : 224 ≤ r
      · have f0 := Lib.hid (show szA (ixF r (2 + 1)) = szA 2 by rw [show ixF r (2 + 1) = 2 by unfold ixF; (repeat' split) <;> omega])
        obtain ⟨u0, u1, u2, hu⟩ := szA_form (ixF r 2)
        rw [hu] at p1
        have g0 := p1.cell 0
        have g1 := p1.cell 1
        have g2 := p1.cell 2
        go_wp2
        go_roundw
        case rel => exact ⟨2 + 1, by omega, by go_num, (p0.far3 (Nat.ne_of_lt (Nat.lt_succ_self _)) _ _ _).alloc _, by rw [f0.out]; exact (p1.set3 _ _ _).alloc _, (below_set3 hbw (Nat.le_succ _) _ _ _).alloc (by rw [set3_size]; exact hbw.size) _⟩
        case measure => simp [intOf]
      · have f0 := Lib.hid (show szA (ixF r (2 + 1)) = szA (ixF r 2) by rw [show ixF r (2 + 1) = ixF r 2 by unfold ixF; (repeat' split) <;> omega])
        go_wp2
        go_roundw
        case rel => exact ⟨2 + 1, by omega, by go_num, p0.alloc _, by rw [f0.out]; exact p1.alloc _, hbw.alloc hbw.size _⟩
        case measure => simp [intOf]
    · have i0 : ∀ w : World, (Instr.index 115 (.agg #[.int .i64 1, .int .i64 0, .int .i64 0, .int .i64 2, .int .i64 128, .int .i64 192, .int .i64 3, .int .i64 2048, .int .i64 224, .int .i64 4, .int .i64 65536, .int .i64 240]) (.int .i64 3)).run Tryd.prog w = .ok (.agg #[.int .i64 4, .int .i64 65536, .int .i64 240]) w := fun _ => by kernel_rfl
      by_cases hr : 240 ≤ r
      · have f0 := Lib.hid (show szA (ixF r (3 + 1)) = szA 3 by rw [show ixF r (3 + 1) = 3 by unfold ixF; (repeat' split) <;> omega])
        obtain ⟨u0, u1, u2, hu⟩ := szA_form (ixF r 3)
        rw [hu] at p1
        have g0 := p1.cell 0
        have g1 := p1.cell 1
        have g2 := p1.cell 2
        go_wp2
        go_roundw
        case rel => exact ⟨3 + 1, by omega, by go_num, (p0.far3 (Nat.ne_of_lt (Nat.lt_succ_self _)) _ _ _).alloc _, by rw [f0.out]; exact (p1.set3 _ _ _).alloc _, (below_set3 hbw (Nat.le_succ _) _ _ _).alloc (by rw [set3_size]; exact hbw.size) _⟩
        case measure => simp [intOf]
      · have f0 := Lib.hid (show szA (ixF r (3 + 1)) = szA (ixF r 3) by rw [show ixF r (3 + 1) = ixF r 3 by unfold ixF; (repeat' split) <;> omega])
        go_wp2
        go_roundw
        case rel => exact ⟨3 + 1, by omega, by go_num, p0.alloc _, by rw [f0.out]; exact p1.alloc _, hbw.alloc hbw.size _⟩
        case measure => simp [intOf]
    · obtain ⟨u0, u1, u2, hu⟩ := szA_form (ixF r 4)
      rw [hu] at p1
      have g0 := p1.cell 0
      have g1 := p1.cell 1
      have g2 := p1.cell 2
      have y0 := p0.cell 0
      have y1 := p0.cell 1
      have y2 := p0.cell 2
      have x0 := p0.frozen 0
      have x1 := p0.frozen 1
      have x2 := p0.frozen 2
      have hlt2 := p0.lt
      go_wp2
      exact bodyPost_ret (v := .agg #[.int .i64 u0, .int .i64 u1, .int .i64 u2]) (by simp [results, Tryd.results89, go_sem, y0, y1, y2]) rfl ⟨by rw [hu], below_set3 hbw (Nat.le_refl _) _ _ _⟩
end Go.Proofs.YtbjmfhcgkpjcfaaDoor
