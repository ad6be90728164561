/-
  Layer 6: words for modes in memory: as a value, as a box's cells; what calls tell. A region that draws its order, in which an empty row is made, and two slices are appended, one behind the other (append(append([]T{}, a...), b...)). A region that draws its order, with an append onto a row of one's own (and a store behind it).
-/
import Derived.Test.YtmagokkegadmiaaGreatDoorG03
import Derived.Test.YtmagokkegadmiaaGreatDoorG24
import Derived.Test.YtmagokkegadmiaaGreatDoorG25
import Derived.BigQuiet
import Derived.Deep.QuietTactic
import Derived.Laws.StructEq
namespace Go.Proofs.YtmagokkegadmiaaGreatDoor
open Go.RowKit

section
variable {w w' : World} {g : Nat} {t : TypeId} {p0 p1 p2 p3 p4 p5 p6 p7 p8 p9 : Value}
theorem Blk.cells10 (h : Blk w g t #[p0, p1, p2, p3, p4, p5, p6, p7, p8, p9]) :
    w.cell? ⟨g, 0, none⟩ = some p0 ∧ w.cell? ⟨g, 1, none⟩ = some p1 ∧ w.cell? ⟨g, 2, none⟩ = some p2 ∧ w.cell? ⟨g, 3, none⟩ = some p3 ∧ w.cell? ⟨g, 4, none⟩ = some p4 ∧ w.cell? ⟨g, 5, none⟩ = some p5 ∧ w.cell? ⟨g, 6, none⟩ = some p6 ∧ w.cell? ⟨g, 7, none⟩ = some p7 ∧ w.cell? ⟨g, 8, none⟩ = some p8 ∧ w.cell? ⟨g, 9, none⟩ = some p9 :=
  ⟨h.cell 0, h.cell 1, h.cell 2, h.cell 3, h.cell 4, h.cell 5, h.cell 6, h.cell 7, h.cell 8, h.cell 9⟩
theorem Blk.set10 (h : Blk w g t #[p0, p1, p2, p3, p4, p5, p6, p7, p8, p9]) (x0 x1 x2 x3 x4 x5 x6 x7 x8 x9 : Value) : Blk ((((((((((w.setCell ⟨g, 0, none⟩ x0).setCell ⟨g, 1, none⟩ x1).setCell ⟨g, 2, none⟩ x2).setCell ⟨g, 3, none⟩ x3).setCell ⟨g, 4, none⟩ x4).setCell ⟨g, 5, none⟩ x5).setCell ⟨g, 6, none⟩ x6).setCell ⟨g, 7, none⟩ x7).setCell ⟨g, 8, none⟩ x8).setCell ⟨g, 9, none⟩ x9) g t #[x0, x1, x2, x3, x4, x5, x6, x7, x8, x9] := by
  have h0 : Blk _ g t #[x0, p1, p2, p3, p4, p5, p6, p7, p8, p9] := h.set 0 x0
  have h1 : Blk _ g t #[x0, x1, p2, p3, p4, p5, p6, p7, p8, p9] := h0.set 1 x1
  have h2 : Blk _ g t #[x0, x1, x2, p3, p4, p5, p6, p7, p8, p9] := h1.set 2 x2
  have h3 : Blk _ g t #[x0, x1, x2, x3, p4, p5, p6, p7, p8, p9] := h2.set 3 x3
  have h4 : Blk _ g t #[x0, x1, x2, x3, x4, p5, p6, p7, p8, p9] := h3.set 4 x4
  have h5 : Blk _ g t #[x0, x1, x2, x3, x4, x5, p6, p7, p8, p9] := h4.set 5 x5
  have h6 : Blk _ g t #[x0, x1, x2, x3, x4, x5, x6, p7, p8, p9] := h5.set 6 x6
  have h7 : Blk _ g t #[x0, x1, x2, x3, x4, x5, x6, x7, p8, p9] := h6.set 7 x7
  have h8 : Blk _ g t #[x0, x1, x2, x3, x4, x5, x6, x7, x8, p9] := h7.set 8 x8
  exact h8.set 9 x9
theorem below_set10 {B : Nat} {a : World} (h : Below B a w) (hB : B ≤ g) (x0 x1 x2 x3 x4 x5 x6 x7 x8 x9 : Value) : Below B a ((((((((((w.setCell ⟨g, 0, none⟩ x0).setCell ⟨g, 1, none⟩ x1).setCell ⟨g, 2, none⟩ x2).setCell ⟨g, 3, none⟩ x3).setCell ⟨g, 4, none⟩ x4).setCell ⟨g, 5, none⟩ x5).setCell ⟨g, 6, none⟩ x6).setCell ⟨g, 7, none⟩ x7).setCell ⟨g, 8, none⟩ x8).setCell ⟨g, 9, none⟩ x9) :=
  ((((((((((h.setCell (p := ⟨g, 0, none⟩) hB x0).setCell (p := ⟨g, 1, none⟩) hB x1).setCell (p := ⟨g, 2, none⟩) hB x2).setCell (p := ⟨g, 3, none⟩) hB x3).setCell (p := ⟨g, 4, none⟩) hB x4).setCell (p := ⟨g, 5, none⟩) hB x5).setCell (p := ⟨g, 6, none⟩) hB x6).setCell (p := ⟨g, 7, none⟩) hB x7).setCell (p := ⟨g, 8, none⟩) hB x8).setCell (p := ⟨g, 9, none⟩) hB x9)
end
theorem Blk.far10 {w : World} {g b : Nat} {t : TypeId} {cs : Array Value} (h : Blk w g t cs) (hb : g ≠ b) (x0 x1 x2 x3 x4 x5 x6 x7 x8 x9 : Value) : Blk ((((((((((w.setCell ⟨b, 0, none⟩ x0).setCell ⟨b, 1, none⟩ x1).setCell ⟨b, 2, none⟩ x2).setCell ⟨b, 3, none⟩ x3).setCell ⟨b, 4, none⟩ x4).setCell ⟨b, 5, none⟩ x5).setCell ⟨b, 6, none⟩ x6).setCell ⟨b, 7, none⟩ x7).setCell ⟨b, 8, none⟩ x8).setCell ⟨b, 9, none⟩ x9) g t cs :=
  (((((((((h.far (a := ⟨b, 0, none⟩) hb x0).far (a := ⟨b, 1, none⟩) hb x1).far (a := ⟨b, 2, none⟩) hb x2).far (a := ⟨b, 3, none⟩) hb x3).far (a := ⟨b, 4, none⟩) hb x4).far (a := ⟨b, 5, none⟩) hb x5).far (a := ⟨b, 6, none⟩) hb x6).far (a := ⟨b, 7, none⟩) hb x7).far (a := ⟨b, 8, none⟩) hb x8).far (a := ⟨b, 9, none⟩) hb x9
/-- Blocks that are known whole, all at once. -/
def Bl (w : World) (L : List (Nat × TypeId × Array Value)) : Prop := ∀ x ∈ L, Blk w x.1 x.2.1 x.2.2
section
variable {w w' : World} {L : List (Nat × TypeId × Array Value)}
theorem Bl.nil (w : World) : Bl w [] := fun _ h => by cases h
theorem Bl.below (h : Bl w L) (hb : Below w.heap.size w w') : Bl w' L := fun x hx => (h x hx).below hb (h x hx).lt
theorem Bl.alloc (h : Bl w L) (o : Obj) : Bl (w.alloc o) L := fun x hx => (h x hx).alloc o
theorem Bl.add (h : Bl w L) (t : TypeId) (cs : Array Value) : Bl (w.alloc (.cells cs t)) ((w.heap.size, t, cs) :: L) := fun x hx => by
  rcases List.mem_cons.1 hx with rfl | hx
  · exact Blk.new w t cs
  · exact (h x hx).alloc _
theorem Bl.head {x : Nat × TypeId × Array Value} (h : Bl w (x :: L)) : Blk w x.1 x.2.1 x.2.2 := h x (List.mem_cons_self ..)
theorem Bl.tail {x : Nat × TypeId × Array Value} (h : Bl w (x :: L)) : Bl w L := fun y hy => h y (List.mem_cons_of_mem _ hy)
end
/-- Modes as a value. -/
def moV (m : Mo) : Value := .agg #[.bool m.cursor, .bool m.keypad, .bool m.back, .bool m.focus, .bool m.paste, .bool m.lock, .bool m.line, .int .i64 m.mouse, .int .i64 m.coding, .int .i64 m.other]
def moC (m : Mo) : Array Value := #[.bool m.cursor, .bool m.keypad, .bool m.back, .bool m.focus, .bool m.paste, .bool m.lock, .bool m.line, .int .i64 m.mouse, .int .i64 m.coding, .int .i64 m.other]
def MoE (m : Mo) (q : Bool) (w : World) (e : Ending) (w' : World) : Prop := e = .returned (.tuple #[moV m, .bool q]) ∧ Below w.heap.size w w'
theorem sameM_eq (a b : Mo) : sameM a b = decide (a.cursor = b.cursor ∧ a.keypad = b.keypad ∧ a.back = b.back ∧ a.focus = b.focus ∧ a.paste = b.paste ∧ a.lock = b.lock ∧ a.line = b.line ∧ a.mouse = b.mouse ∧ a.coding = b.coding ∧ a.other = b.other) := by
  rw [Bool.eq_iff_iff]
  simp [sameM]
def inI (n : Int) : Prop := -9223372036854775808 ≤ n ∧ n ≤ 9223372036854775807
def ValE (v : Value) (w : World) (e : Ending) (w' : World) : Prop := e = .returned v ∧ Below w.heap.size w w'
/-- Modes whose numbers are ints. -/
def okM (m : Mo) : Prop := inI m.mouse ∧ inI m.coding
theorem inI_zero : inI 0 := ⟨by decide, by decide⟩
theorem ok_set {m : Mo} (h : okM m) (p : Bool) {n : Int} (hn : inI n) (on : Bool) : okM (setM m p n on).1 := by
  unfold okM setM plainM oneM
  (repeat' split) <;> first | exact h | exact ⟨hn, h.2⟩ | exact ⟨h.1, hn⟩ | exact ⟨inI_zero, h.2⟩ | exact ⟨h.1, inI_zero⟩
def OwnE (w : World) (e : Ending) (w' : World) : Prop := ∃ A c, e = .returned (.slice A 12 c) ∧ 12 ≤ c ∧ Rd w' A (is_ ownM) ∧ Below w.heap.size w w'
theorem below_step {w w1 w2 : World} {n : Nat} (h : Below n w w1) (h' : Below w1.heap.size w1 w2) (hn : n ≤ w1.heap.size) : Below n w w2 := h.trans (h'.mono hn)
end Go.Proofs.YtmagokkegadmiaaGreatDoor
namespace Go.Proofs.YtmagokkegadmiaaGreatDoor
open Go.RowKit

section
variable {P : Program} {ops : Array Oper} {md : Region.Mode}
structure SJ (w1 : World) (i0 i1 i2 i3 : Nat) (d0 d1 d2 d3 : Tmp) (te : TypeId) (n1 n2 : Nat) (x1 x2 : List Value) (l : Array Bool) (g : Tmp → Value) (w : World) : Prop where
  below : Below w1.heap.size w1 w
  s0 : l.getD i0 false = true → l.getD i1 false = false → Own w w1.heap.size te 1 (g d0) 0 []
  s1 : l.getD i1 false = true → l.getD i2 false = false → Own w w1.heap.size te 1 (g d1) n1 x1
  s2 : l.getD i2 false = true → Own w w1.heap.size te 1 (g d2) (n1 + n2) (x1 ++ x2)
  s3 : l.getD i3 false = true → g d3 = g d2
  t1 : l.getD i1 false = true → l.getD i0 false = true
  t2 : l.getD i2 false = true → l.getD i1 false = true
  t3 : l.getD i3 false = true → l.getD i2 false = true
variable {w1 : World} {i0 i1 i2 i3 : Nat} {d0 d1 d2 d3 : Tmp} {te : TypeId} {n1 n2 : Nat} {x1 x2 : List Value} {l : Array Bool} {g : Tmp → Value} {w : World} {aF : (Tmp → Value) → Act} {i : Nat} {o : Oper}
theorem SJ.zero (w1 : World) (hb : Below w1.heap.size w1 w) (k : Nat) : SJ w1 i0 i1 i2 i3 d0 d1 d2 d3 te n1 n2 x1 x2 (Array.replicate k false) g w :=
  ⟨hb, (fun h => by rw [no_laid] at h; cases h), (fun h => by rw [no_laid] at h; cases h), (fun h => by rw [no_laid] at h; cases h), (fun h => by rw [no_laid] at h; cases h), (fun h => by rw [no_laid] at h; cases h), (fun h => by rw [no_laid] at h; cases h), (fun h => by rw [no_laid] at h; cases h)⟩
theorem SJ.quiet (h : SJ w1 i0 i1 i2 i3 d0 d1 d2 d3 te n1 n2 x1 x2 l g w) (h0 : i ≠ i0) (h1 : i ≠ i1) (h2 : i ≠ i2) (h3 : i ≠ i3) : SJ w1 i0 i1 i2 i3 d0 d1 d2 d3 te n1 n2 x1 x2 (l.setIfInBounds i true) g w := by
  refine ⟨h.below, ?_, ?_, ?_, ?_, ?_, ?_, ?_⟩ <;> simp only [getD_set_ne false h0, getD_set_ne false h1, getD_set_ne false h2, getD_set_ne false h3]
  · exact h.s0
  · exact h.s1
  · exact h.s2
  · exact h.s3
  · exact h.t1
  · exact h.t2
  · exact h.t3
theorem goesJ_val (v : Value) (h0 : i ≠ i0) (h1 : i ≠ i1) (h2 : i ≠ i2) (h3 : i ≠ i3) (hw : ∀ g, Region.wanted o (yielded ops (aF g).tmps) = true) {d : Tmp} (hd0 : o.dst = some d) (hd : ∀ g, (aF g).tmps[d]? = some v) (h : ∀ g w, Below w1.heap.size w1 w → (execOp (aF g).eval o).run P w = .ok (.value v) w) :
    GoesM P md ops aF (SJ w1 i0 i1 i2 i3 d0 d1 d2 d3 te n1 n2 x1 x2) i o := fun l g w _ _ _ hS => by
  rw [if_pos (hw g)]
  exact .inl ⟨v, w, .inl (h g w hS.below), g, .inl rfl, (fun d' h' => by rw [hd0] at h'; cases h'; exact hd g), hS.quiet h0 h1 h2 h3⟩
theorem goesJ_cell {t : TypeId} {x : Operand} {a : Addr} {v : Value} (h0 : i ≠ i0) (h1 : i ≠ i1) (h2 : i ≠ i2) (h3 : i ≠ i3) (hw : ∀ g, Region.wanted o (yielded ops (aF g).tmps) = true) {d : Tmp} (hd0 : o.dst = some d) (hd : ∀ g, (aF g).tmps[d]? = some v) (ho : o.op = .load t x) (hx : ∀ g, (aF g).eval x = .pointer (some a)) (hk : ∀ w, Below w1.heap.size w1 w → w.cell? a = some v) (hag : ∀ w, (isAgg t).run P w = .ok false w) :
    GoesM P md ops aF (SJ w1 i0 i1 i2 i3 d0 d1 d2 d3 te n1 n2 x1 x2) i o :=
  goesJ_val v h0 h1 h2 h3 hw hd0 hd fun g w hb => by
    unfold execOp
    simp only [ho, hx, Instr.loadAt, Instr.sureAddr, Sem.run_bind, Sem.run_pure, Result.andThen_ok, run_loadVar_one hag (hk w hb)]
theorem laid_no {l : Array Bool} {a b : Nat} (ht : l.getD b false = true → l.getD a false = true) (ha : l.getD a false = false) : l.getD b false = false := by
  cases h : l.getD b false with
  | false => rfl
  | true =>
    rw [ht h] at ha
    cases ha
/-- The empty row. -/
theorem goesJ_make (hi : i = i0) (n01 : i0 ≠ i1) (n02 : i0 ≠ i2) (n03 : i0 ≠ i3) (hw : ∀ g, Region.wanted o (yielded ops (aF g).tmps) = true) (ho : o.dst = some d0) (hd : ∀ g, (aF g).tmps[d0]? = some (g d0)) (hr : ∀ g w, (execOp (aF g).eval o).run P w = .ok (.value (.slice (some ⟨w.heap.size, 0, none⟩) 0 0)) (w.alloc (.cells #[] te))) :
    GoesM P md ops aF (SJ w1 i0 i1 i2 i3 d0 d1 d2 d3 te n1 n2 x1 x2) i o := fun l g w hsz hf _ hS => by
  subst hi
  rw [if_pos (hw g)]
  have f1 := laid_no hS.t1 hf
  have f2 := laid_no hS.t2 f1
  have f3 := laid_no hS.t3 f2
  refine .inl ⟨_, _, .inl (hr g w), upd g d0 (.slice (some ⟨w.heap.size, 0, none⟩) 0 0), .inr ⟨d0, _, ho, rfl⟩, fun d' h' => ?_, hS.below.alloc hS.below.size _, fun _ _ => ?_, ?_, ?_, ?_, ?_, ?_, ?_⟩
  · rw [ho] at h'
    cases h'
    rw [hd, upd_at]
  · rw [upd_at]
    exact Own.of (World.ownsRow_made w #[] 0 hS.below.size (by decide) rfl)
  · rw [getD_set_ne false n01, f1]; intro h; cases h
  · rw [getD_set_ne false n02, f2]; intro h; cases h
  · rw [getD_set_ne false n03, f3]; intro h; cases h
  · rw [getD_set_ne false n01, f1]; intro h; cases h
  · rw [getD_set_ne false n02, f2]; intro h; cases h
  · rw [getD_set_ne false n03, f3]; intro h; cases h
theorem run_app_op {t : TypeId} {s x : Operand} {a : Act} (ho : o.op = .call { callee := .builtin .append, args := #[s, x], argTypes := #[t, t] }) (base : Nat) (e : TypeId) (ti : TypeInfo) (z : Value) (bytes : Nat) (ht : P.underlying t = some (.slice e)) (hi : P.info? e = some ti) (hz : ti.zero = some z) (hsize : ti.size = 1) (hby : ti.bytes = bytes) (hzs : z.cells.size = 1)
    {v : Value} {n : Nat} {xs : List Value} (hs : a.eval s = v) (hown : Own w base e 1 v n xs) {A : Option Addr} {m c : Nat} {news : List Value} (hx : a.eval x = .slice A m c) (hl : news.length = m) (hr : Rd w A news) (h1 : ∀ u ∈ news, u.oneCell' = true) (h63 : n + m ≤ maxLen) (hlim : (n + m) * bytes ≤ 140737488355328) (hbase : base ≤ w.heap.size) :
    ∃ v' w', (execOp a.eval o).run P w = .ok (.value v') w' ∧ Own w' base e 1 v' (n + m) (xs ++ news) ∧ w.grownBy w' v.ownBlock := by
  obtain ⟨v', w', hrun, h2, h3⟩ := run_app (P := P) w base t o.type e ti z 1 bytes ht hi hz hsize hby hzs Nat.one_pos v n xs hown A m c news (by rw [hl, Nat.mul_one]) hr h1 h63 hlim hbase
  refine ⟨v', w', ?_, h2, h3⟩
  unfold execOp
  simp only [ho, resolve, invoke, builtin, Sem.run_bind, Sem.run_pure, Result.andThen_ok, List.map_toArray, List.map_cons, List.map_nil, hs, hx, hrun]
theorem below_grew {v : Value} {n : Nat} {xs : List Value} {w' : World} (hb : Below w1.heap.size w1 w) (ho : Own w w1.heap.size te 1 v n xs) (hg : w.grownBy w' v.ownBlock) : Below w1.heap.size w1 w' :=
  hb.grown hg hb.size (fun k e => (ho.lt k e).1)
/-- The first slice. -/
theorem goesJ_one {t : TypeId} {x : Operand} {ti : TypeInfo} {z : Value} {bytes : Nat} {A : Option Addr} {c : Nat} (hi : i = i1) (n01 : i1 ≠ i0) (n02 : i1 ≠ i2) (n03 : i1 ≠ i3) (hw : ∀ g, Region.wanted o (yielded ops (aF g).tmps) = true) (hop : o.op = .call { callee := .builtin .append, args := #[.tmp d0, x], argTypes := #[t, t] }) (ho : o.dst = some d1) (hd : ∀ g, (aF g).tmps[d1]? = some (g d1)) (he : ∀ g, (aF g).eval (.tmp d0) = g d0) (hx : ∀ g, (aF g).eval x = .slice A n1 c)
    (ht : P.underlying t = some (.slice te)) (hti : P.info? te = some ti) (hz : ti.zero = some z) (hsize : ti.size = 1) (hby : ti.bytes = bytes) (hzs : z.cells.size = 1) (hl : x1.length = n1) (hr : ∀ w, Below w1.heap.size w1 w → Rd w A x1) (h1 : ∀ u ∈ x1, u.oneCell' = true) (h63 : n1 ≤ maxLen) (hlim : n1 * bytes ≤ 140737488355328)
    (hdone : ∀ l : Array Bool, (∀ e ∈ o.after, Region.binds md e = true → l.getD e.on false = true) → l.getD i0 false = true) (hio : ops[i]? = some o) :
    GoesM P md ops aF (SJ w1 i0 i1 i2 i3 d0 d1 d2 d3 te n1 n2 x1 x2) i o := fun l g w hsz hf hrd hS => by
  subst hi
  rw [if_pos (hw g)]
  have f2 := laid_no hS.t2 hf
  have f3 := laid_no hS.t3 f2
  have hlt : i < l.size := by rw [hsz]; exact (Array.getElem?_eq_some_iff.1 hio).1
  have o0 := hS.s0 (hdone l hrd) hf
  obtain ⟨v', w', hrun, h2, h3⟩ := run_app_op (P := P) (a := aF g) hop w1.heap.size te ti z bytes ht hti hz hsize hby hzs (he g) o0 (hx g) hl (hr w hS.below) h1 (by rw [Nat.zero_add]; exact h63) (by rw [Nat.zero_add]; exact hlim) hS.below.size
  rw [Nat.zero_add, List.nil_append] at h2
  refine .inl ⟨v', w', .inl hrun, upd g d1 v', .inr ⟨d1, _, ho, rfl⟩, fun d' h' => ?_, below_grew hS.below o0 h3, ?_, fun _ _ => ?_, ?_, ?_, fun _ => ?_, ?_, ?_⟩
  · rw [ho] at h'
    cases h'
    rw [hd, upd_at]
  · rw [getD_self hlt]; intro _ h; cases h
  · rw [upd_at]; exact h2
  · rw [getD_set_ne false n02, f2]; intro h; cases h
  · rw [getD_set_ne false n03, f3]; intro h; cases h
  · exact getD_up (hdone l hrd)
  · rw [getD_set_ne false n02, f2]; intro h; cases h
  · rw [getD_set_ne false n03, f3]; intro h; cases h
/-- The second slice. -/
theorem goesJ_two {t : TypeId} {x : Operand} {ti : TypeInfo} {z : Value} {bytes : Nat} {A : Option Addr} {c : Nat} (hi : i = i2) (n00 : i2 ≠ i0) (n01 : i2 ≠ i1) (n03 : i2 ≠ i3) (hw : ∀ g, Region.wanted o (yielded ops (aF g).tmps) = true) (hop : o.op = .call { callee := .builtin .append, args := #[.tmp d1, x], argTypes := #[t, t] }) (ho : o.dst = some d2) (hd : ∀ g, (aF g).tmps[d2]? = some (g d2)) (he : ∀ g, (aF g).eval (.tmp d1) = g d1) (hx : ∀ g, (aF g).eval x = .slice A n2 c)
    (ht : P.underlying t = some (.slice te)) (hti : P.info? te = some ti) (hz : ti.zero = some z) (hsize : ti.size = 1) (hby : ti.bytes = bytes) (hzs : z.cells.size = 1) (hl : x2.length = n2) (hr : ∀ w, Below w1.heap.size w1 w → Rd w A x2) (h1 : ∀ u ∈ x2, u.oneCell' = true) (h63 : n1 + n2 ≤ maxLen) (hlim : (n1 + n2) * bytes ≤ 140737488355328)
    (hdone : ∀ l : Array Bool, (∀ e ∈ o.after, Region.binds md e = true → l.getD e.on false = true) → l.getD i1 false = true) (hio : ops[i]? = some o) :
    GoesM P md ops aF (SJ w1 i0 i1 i2 i3 d0 d1 d2 d3 te n1 n2 x1 x2) i o := fun l g w hsz hf hrd hS => by
  subst hi
  rw [if_pos (hw g)]
  have f3 := laid_no hS.t3 hf
  have hlt : i < l.size := by rw [hsz]; exact (Array.getElem?_eq_some_iff.1 hio).1
  have l1 := hdone l hrd
  have o1 := hS.s1 l1 hf
  obtain ⟨v', w', hrun, h2, h3⟩ := run_app_op (P := P) (a := aF g) hop w1.heap.size te ti z bytes ht hti hz hsize hby hzs (he g) o1 (hx g) hl (hr w hS.below) h1 h63 hlim hS.below.size
  refine .inl ⟨v', w', .inl hrun, upd g d2 v', .inr ⟨d2, _, ho, rfl⟩, fun d' h' => ?_, below_grew hS.below o1 h3, ?_, ?_, fun _ => ?_, ?_, ?_, fun _ => ?_, ?_⟩
  · rw [ho] at h'
    cases h'
    rw [hd, upd_at]
  · intro _ h
    rw [getD_up l1] at h
    cases h
  · rw [getD_self hlt]; intro _ h; cases h
  · rw [upd_at]; exact h2
  · rw [getD_set_ne false n03, f3]; intro h; cases h
  · intro h
    exact getD_up (hS.t1 l1)
  · exact getD_up l1
  · rw [getD_set_ne false n03, f3]; intro h; cases h
/-- The row, given a name. -/
theorem goesJ_name (hi : i = i3) (n00 : i3 ≠ i0) (n01 : i3 ≠ i1) (n02 : i3 ≠ i2) (m2 : d2 ≠ d3) (hw : ∀ g, Region.wanted o (yielded ops (aF g).tmps) = true) (hop : o.op = .assign (.tmp d2)) (ho : o.dst = some d3) (hd : ∀ g, (aF g).tmps[d3]? = some (g d3)) (he : ∀ g, (aF g).eval (.tmp d2) = g d2)
    (hdone : ∀ l : Array Bool, (∀ e ∈ o.after, Region.binds md e = true → l.getD e.on false = true) → l.getD i2 false = true) :
    GoesM P md ops aF (SJ w1 i0 i1 i2 i3 d0 d1 d2 d3 te n1 n2 x1 x2) i o := fun l g w hsz hf hrd hS => by
  subst hi
  rw [if_pos (hw g)]
  have l2 := hdone l hrd
  have l1 := hS.t2 l2
  refine .inl ⟨g d2, w, .inl ?_, upd g d3 (g d2), .inr ⟨d3, _, ho, rfl⟩, fun d' h' => ?_, hS.below, ?_, ?_, fun _ => ?_, fun _ => ?_, fun _ => ?_, fun _ => ?_, fun _ => ?_⟩
  · unfold execOp
    simp only [hop, he, Sem.run_pure]
  · rw [ho] at h'
    cases h'
    rw [hd, upd_at]
  · intro _ h
    rw [getD_up l1] at h
    cases h
  · intro _ h
    rw [getD_up l2] at h
    cases h
  · rw [upd_ne g _ m2]
    exact hS.s2 l2
  · rw [upd_at, upd_ne g _ m2]
  · exact getD_up (hS.t1 l1)
  · exact getD_up l1
  · exact getD_up l2
/-- The region, whatever order is picked. -/
theorem wp_region_join {Q : Exit → Act → World → Prop} {id : Nat} {a : Act} {w0 : World} (aL : Value → Value → Value → Value → Act) (vals : List Value) (hm : P.follows .mixedOrders = true) (hc : regCheck .any ops = true) (hs : Region.noSelect ops = true)
    (hL : ∀ g, fillA (aL undef undef undef undef) [d0, d1, d2, d3] g = aL (g d0) (g d1) (g d2) (g d3)) (hn : goF a ops.toList vals = aL undef undef undef undef) (hS : Below w1.heap.size w1 w0.drew) (h2 : i2 < ops.size) (h3 : i3 < ops.size)
    (hg : GoesL P .any ops (fun g => aL (g d0) (g d1) (g d2) (g d3)) (SJ w1 i0 i1 i2 i3 d0 d1 d2 d3 te n1 n2 x1 x2) 0 ops.toList)
    (hQ : ∀ u0 u1 v w, Below w1.heap.size w1 w → Own w w1.heap.size te 1 v (n1 + n2) (x1 ++ x2) → Q .normal (aL u0 u1 v v) w) :
    (Code.region id ops true).wp P Q a w0 :=
  wp_region_made (a0 := aL undef undef undef undef) (S := SJ w1 i0 i1 i2 i3 d0 d1 d2 d3 te n1 n2 x1 x2) [d0, d1, d2, d3] hm hc hs (fun _ => undef) (by rw [hL]; exact near_of vals hn) (SJ.zero w1 hS _) (by rw [show fillA (aL undef undef undef undef) [d0, d1, d2, d3] = fun g => aL (g d0) (g d1) (g d2) (g d3) from funext hL]; exact goesAllM_of_list hg) fun l g w hall h => by
    rw [hL, h.s3 (hall _ h3)]
    exact hQ _ _ _ w h.below (h.s2 (hall _ h2))
end
end Go.Proofs.YtmagokkegadmiaaGreatDoor
namespace Go.Proofs.YtmagokkegadmiaaGreatDoor
open Go.RowKit

section
variable {P : Program} {ops : Array Oper} {md : Region.Mode} {w1 : World} {K : List Fact} {ix iz : Nat} {R1 : (Tmp → Value) → World → World → Prop} {aF : (Tmp → Value) → Act} {i : Nat} {o : Oper}
theorem run_storeAt_one {t : TypeId} {a : Addr} {v u : Value} {w : World} (hs : ∀ w, (sizeOf t).run P w = .ok 1 w) (hv : v.cells = #[v]) (h1 : v.oneCell' = true) (hc : w.cell? a = some u) (hf : w.frozen? a = false) :
    (Instr.storeAt t (.pointer (some a)) v).run P w = .ok () (w.setCell a v) := by
  have hst : (store a v).run P w = .ok () (w.setCell a v) := by
    rw [run_store P w a v _ h1, hc]
    simp [hf]
  have ha : a.add 0 = a := by unfold Addr.add; split <;> simp_all
  simp [Instr.storeAt, Instr.sureAddr, storeVar, hv, hs, storeCells, ha, hst, Result.andThen]
/-- The row behind the append. -/
def AppR (base : Nat) (te : TypeId) (d : Tmp) (n : Nat) (xs : List Value) (v0 : Value) (g : Tmp → Value) (ws w : World) : Prop := Own w base te 1 (g d) n xs ∧ ws.grownBy w v0.ownBlock
theorem goesK_app {t te : TypeId} {s x : Operand} {ti : TypeInfo} {z : Value} {bytes base n0 m : Nat} {v0 : Value} {xs0 news : List Value} {d : Tmp} (hi : i = ix) (hxz : ix ≠ iz) (hio : ops[i]? = some o) (hall : (K.all fun f => edgeB md ops ix f.i) = true) (hdf : (K.all fun f => f.d != d) = true) (hw : ∀ g, Region.wanted o (yielded ops (aF g).tmps) = true) (ho : o.dst = some d) (hd : ∀ g, (aF g).tmps[d]? = some (g d))
    (hop : o.op = .call { callee := .builtin .append, args := #[s, x], argTypes := #[t, t] }) (ht : P.underlying t = some (.slice te)) (hti : P.info? te = some ti) (hz : ti.zero = some z) (hsize : ti.size = 1) (hby : ti.bytes = bytes) (hzs : z.cells.size = 1)
    (he : ∀ g, (aF g).eval s = v0) (hown : Own w1 base te 1 v0 n0 xs0) (hbs : base ≤ w1.heap.size) (hl : news.length = m) (h1 : ∀ u ∈ news, u.oneCell' = true) (h63 : n0 + m ≤ maxLen) (hlim : (n0 + m) * bytes ≤ 140737488355328)
    (hx : ∀ g w, Below w1.heap.size w1 w → (∀ (q : Nat) (f : Fact), K[q]? = some f → f.F (g f.d) w) → ∃ A c, (aF g).eval x = .slice A m c ∧ Rd w A news) :
    GoesM P md ops aF (SK md ops w1 K ix iz (AppR base te d (n0 + m) (xs0 ++ news) v0) R1) i o :=
  goesK_append hi hxz hio hall hdf hw ho hd fun g w hW hK => by
    obtain ⟨A, c, e, hR⟩ := hx g w hW hK
    obtain ⟨v', w', r1, r2, r3⟩ := run_app_op (P := P) (a := aF g) hop base te ti z bytes ht hti hz hsize hby hzs (he g) (hown.behind hW) e hl hR h1 h63 hlim (Nat.le_trans hbs hW.size)
    exact ⟨v', w', r1, by rw [upd_at]; exact r2, r3⟩
/-- The row's slice, stored into a cell of a known block. -/
theorem goesK_put {t te tb : TypeId} {x y : Operand} {base n q b : Nat} {v0 u : Value} {xs : List Value} {es : Array Value} {n0 : Nat} {xs0 : List Value} {d : Tmp} (hi : i = iz) (hxz : ix ≠ iz) (hio : ops[i]? = some o) (hax : edgeB md ops iz ix = true) (hni : (K.all fun f => f.i != iz) = true) (hw : ∀ g, Region.wanted o (yielded ops (aF g).tmps) = true) (ho : o.dst = none)
    (hop : o.op = .store t x y) (hx : ∀ g, (aF g).eval x = .pointer (some ⟨b, q, none⟩)) (hy : ∀ g, (aF g).eval y = g d) (hs : ∀ w, (sizeOf t).run P w = .ok 1 w) (hown : Own w1 base te 1 v0 n0 xs0) (hk : Blk w1 b tb es) (hq : es[q]? = some u) (hne : te ≠ tb) :
    GoesM P md ops aF (SK md ops w1 K ix iz (AppR base te d n xs v0) (fun g ws w => ∃ wm, AppR base te d n xs v0 g ws wm ∧ w = wm.setCell ⟨b, q, none⟩ (g d))) i o :=
  goesK_then hi hxz hio hax hni hw ho (fun g w => w.setCell ⟨b, q, none⟩ (g d)) fun g ws w hW _ hR => by
    obtain ⟨A2, c2, e2, _⟩ := hR.1.form
    have kw := (hk.below hW hk.lt).grown hR.2 ((hown.behind hW).no_cells (hk.below hW hk.lt) hne)
    refine ⟨?_, w, hR, rfl⟩
    have hc := kw.cell q
    rw [hq] at hc
    unfold execOp
    simp only [hop, hx, hy, e2, Sem.run_bind, run_storeAt_one (P := P) (t := t) (v := .slice A2 n c2) hs rfl rfl hc (kw.frozen q), Result.andThen_ok, Sem.run_pure]
/-- A struct that the run alone tells, stored whole into a known block, last of all. -/
theorem goesK_box {t : TypeId} {x y : Operand} {b : Nat} {es : Array Value} {d : Tmp} (hi : i = ix) (hxz : ix = iz) (hio : ops[i]? = some o) (hall : (K.all fun f => edgeB md ops ix f.i) = true) (hw : ∀ g, Region.wanted o (yielded ops (aF g).tmps) = true) (ho : o.dst = none)
    (hop : o.op = .store t x y) (hx : ∀ g, (aF g).eval x = .pointer (some ⟨b, 0, none⟩)) (hy : ∀ g, (aF g).eval y = g d) (hk : Blk w1 b t es) (hin : (P.info? t).map (·.size) = some es.size)
    (hf : ∀ (g : Tmp → Value) (w : World), Below w1.heap.size w1 w → (∀ (q : Nat) (f : Fact), K[q]? = some f → f.F (g f.d) w) → ∃ cs : Array Value, g d = .agg cs ∧ cs.size = es.size ∧ cs.toList.all (·.oneCell') = true) :
    GoesM P md ops aF (SK md ops w1 K ix iz (fun _ _ _ => True) (fun g ws w => ∃ cs : Array Value, g d = .agg cs ∧ w = ws.setCells b 0 cs.toList)) i o :=
  goesK_store hi hxz hio hall hw ho (fun g w => w.setCells b 0 (match g d with | .agg cs => cs.toList | _ => [])) fun g w hW hK => by
    obtain ⟨cs, e, h1, h2⟩ := hf g w hW hK
    have kw := hk.below hW hk.lt
    have hrun := kw.run_set (P := P) cs h1 hin h2
    refine ⟨?_, cs, e, by rw [e]⟩
    unfold execOp
    simp only [hop, hx, hy, e, Sem.run_bind, hrun, Result.andThen_ok, Sem.run_pure]
theorem setCells_fr (b : Nat) (vs : List Value) (w : World) : Fr w (w.setCells b 0 vs) (fun k => k = b) := (Fr.of_grown (grown_setCells b vs 0 w)).mono fun k hk => by
  cases hk
  rfl
end
end Go.Proofs.YtmagokkegadmiaaGreatDoor
