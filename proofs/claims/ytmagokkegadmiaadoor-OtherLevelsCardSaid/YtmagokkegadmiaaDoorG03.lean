/-
  Layer 6's mathematics: modes, set, reset and told, as the document has them. Words for memory: a block that is known whole; a slice that lies below a block; a slice cut at a place; a reader's box.
-/
import Derived.Test.YtmagokkegadmiaaDoorG01
import Derived.Test.YtmagokkegadmiaaDoorG02
import Derived.Laws.Rows
namespace Go.Proofs.YtmagokkegadmiaaDoor

structure Mo where
  cursor : Bool
  keypad : Bool
  back : Bool
  focus : Bool
  paste : Bool
  lock : Bool
  line : Bool
  mouse : Int
  coding : Int
  other : Int
def mo0 : Mo := ⟨false, false, false, false, false, false, false, 0, 0, 0⟩
def sameM (a b : Mo) : Bool := a.cursor == b.cursor && (a.keypad == b.keypad && (a.back == b.back && (a.focus == b.focus && (a.paste == b.paste && (a.lock == b.lock && (a.line == b.line && (a.mouse == b.mouse && (a.coding == b.coding && a.other == b.other))))))))
theorem sameM_iff (a b : Mo) : sameM a b = true ↔ a = b := by
  obtain ⟨a0, a1, a2, a3, a4, a5, a6, a7, a8, a9⟩ := a
  obtain ⟨b0, b1, b2, b3, b4, b5, b6, b7, b8, b9⟩ := b
  simp only [sameM, Bool.and_eq_true, beq_iff_eq, Mo.mk.injEq]
theorem sameM_self (a : Mo) : sameM a a = true := (sameM_iff a a).2 rfl
theorem sameM_no {a b : Mo} (h : a ≠ b) : sameM a b = false := by
  cases hs : sameM a b with
  | false => rfl
  | true => exact absurd ((sameM_iff a b).1 hs) h
def mouseN (n : Int) : Bool := decide (n = 9 ∨ n = 1000 ∨ n = 1002 ∨ n = 1003)
def codingN (n : Int) : Bool := decide (n = 1005 ∨ n = 1006 ∨ n = 1015)
def oneM (was n : Int) (on : Bool) : Int := if on = true then n else if was = n then 0 else was
def plainM (m : Mo) (n : Int) (on : Bool) : Mo × Bool := if n = 2 then ({ m with lock := on }, true) else if n = 20 then ({ m with line := on }, true) else (m, false)
def setM (m : Mo) (p : Bool) (n : Int) (on : Bool) : Mo × Bool :=
  if p = false then plainM m n on
  else if n = 1 then ({ m with cursor := on }, true)
  else if n = 66 then ({ m with keypad := on }, true)
  else if n = 67 then ({ m with back := on }, true)
  else if n = 1004 then ({ m with focus := on }, true)
  else if n = 2004 then ({ m with paste := on }, true)
  else if mouseN n = true then ({ m with mouse := oneM m.mouse n on }, true)
  else if codingN n = true then ({ m with coding := oneM m.coding n on }, true)
  else (m, false)
def fixedM (p : Bool) (n : Int) : Int := if p = true ∧ (n = 7 ∨ n = 25) then 3 else if p = false ∧ (n = 4 ∨ n = 12) then 4 else 0
def getM (m : Mo) (p : Bool) (n : Int) : Int := if (setM m p n true).2 = true then (if sameM (setM m p n true).1 m = true then 1 else 2) else fixedM p n
def mayM (m : Mo) : Bool := decide (m.mouse = 0 ∨ mouseN m.mouse = true) && (decide (m.coding = 0 ∨ codingN m.coding = true) && (decide (0 ≤ m.other) && decide (m.other ≤ 2)))
def ownM : List Int := [1, 9, 66, 67, 1000, 1002, 1003, 1004, 1005, 1006, 1015, 2004]

theorem mouseN_iff (n : Int) : mouseN n = true ↔ n = 9 ∨ n = 1000 ∨ n = 1002 ∨ n = 1003 := by simp [mouseN]
theorem codingN_iff (n : Int) : codingN n = true ↔ n = 1005 ∨ n = 1006 ∨ n = 1015 := by simp [codingN]
/-- Whether it may be set: by its number alone. -/
def canM (p : Bool) (n : Int) : Bool := if p = false then decide (n = 2 ∨ n = 20) else decide (n = 1 ∨ n = 66 ∨ n = 67 ∨ n = 1004 ∨ n = 2004) || (mouseN n || codingN n)
theorem set_can (m : Mo) (p : Bool) (n : Int) (on : Bool) : (setM m p n on).2 = canM p n := by
  unfold setM canM plainM
  by_cases hp : p = false
  · rw [if_pos hp, if_pos hp]
    by_cases h1 : n = 2
    · simp [h1]
    · by_cases h2 : n = 20
      · simp [h2]
      · simp [h1, h2]
  · rw [if_neg hp, if_neg hp]
    by_cases h1 : n = 1
    · simp [h1]
    by_cases h2 : n = 66
    · simp [h2]
    by_cases h3 : n = 67
    · simp [h3]
    by_cases h4 : n = 1004
    · simp [h4]
    by_cases h5 : n = 2004
    · simp [h5]
    simp only [h1, h2, h3, h4, h5, if_false]
    by_cases h6 : mouseN n = true
    · simp [h6]
    have h6' : mouseN n = false := by simpa using h6
    by_cases h7 : codingN n = true
    · simp [h6', h7]
    · simp [h6', h7]
theorem set_no {m : Mo} {p : Bool} {n : Int} {on : Bool} (h : canM p n = false) : setM m p n on = (m, false) := by
  have h2 := set_can m p n on
  rw [h] at h2
  unfold setM plainM at *
  (repeat' split at h2) <;> simp_all
theorem get_no {m : Mo} {p : Bool} {n : Int} (h : canM p n = false) : getM m p n = fixedM p n := by
  unfold getM
  rw [set_no h]
  simp
theorem fixed_rng (p : Bool) (n : Int) : fixedM p n = 0 ∨ fixedM p n = 3 ∨ fixedM p n = 4 := by
  unfold fixedM
  (repeat' split) <;> simp
theorem get_rng (m : Mo) (p : Bool) (n : Int) : 0 ≤ getM m p n ∧ getM m p n ≤ 4 := by
  unfold getM fixedM
  (repeat' split) <;> simp
/-- How a mode is, field by field. -/
def isM (m : Mo) (p : Bool) (n : Int) : Bool :=
  if p = false then (if n = 2 then m.lock else m.line)
  else if n = 1 then m.cursor else if n = 66 then m.keypad else if n = 67 then m.back else if n = 1004 then m.focus else if n = 2004 then m.paste
  else if mouseN n = true then decide (m.mouse = n) else decide (m.coding = n)
theorem get_is {m : Mo} {p : Bool} {n : Int} (h : canM p n = true) : getM m p n = if isM m p n = true then 1 else 2 := by
  have hs : sameM (setM m p n true).1 m = isM m p n := by
    rw [Bool.eq_iff_iff, sameM_iff]
    obtain ⟨a0, a1, a2, a3, a4, a5, a6, a7, a8, a9⟩ := m
    unfold setM isM plainM canM oneM at *
    by_cases hp : p = false
    · rw [if_pos hp] at h ⊢
      rw [if_pos hp]
      by_cases h1 : n = 2
      · simp [h1, eq_comm]
      · have h2 : n = 20 := by simpa [h1] using h
        subst h2
        simp [eq_comm]
    · rw [if_neg hp] at h ⊢
      rw [if_neg hp]
      by_cases h1 : n = 1
      · simp [h1, eq_comm]
      by_cases h2 : n = 66
      · simp [h2, eq_comm]
      by_cases h3 : n = 67
      · simp [h3, eq_comm]
      by_cases h4 : n = 1004
      · simp [h4, eq_comm]
      by_cases h5 : n = 2004
      · simp [h5, eq_comm]
      simp only [h1, h2, h3, h4, h5, if_false]
      by_cases h6 : mouseN n = true
      · simp [h6, eq_comm]
      · have h7 : codingN n = true := by simpa [h1, h2, h3, h4, h5, h6] using h
        simp [h6, h7, eq_comm]
  unfold getM
  rw [set_can, h, if_pos rfl, hs]
/-- What is set is told so. -/
theorem is_set {m : Mo} {p : Bool} {n : Int} (h : canM p n = true) (on : Bool) (h0 : n ≠ 0) : isM (setM m p n on).1 p n = on := by
  unfold setM isM plainM canM oneM at *
  by_cases hp : p = false
  · rw [if_pos hp] at h ⊢
    rw [if_pos hp]
    by_cases h1 : n = 2
    · simp [h1]
    · have h2 : n = 20 := by simpa [h1] using h
      subst h2
      simp
  · rw [if_neg hp] at h ⊢
    rw [if_neg hp]
    by_cases h1 : n = 1
    · simp [h1]
    by_cases h2 : n = 66
    · simp [h2]
    by_cases h3 : n = 67
    · simp [h3]
    by_cases h4 : n = 1004
    · simp [h4]
    by_cases h5 : n = 2004
    · simp [h5]
    simp only [h1, h2, h3, h4, h5, if_false]
    by_cases h6 : mouseN n = true
    · simp only [h6, if_true]
      cases on with
      | true => simp
      | false =>
        by_cases h8 : m.mouse = n
        · simp [h8, Ne.symm h0]
        · simp [h8]
    · have h7 : codingN n = true := by simpa [h1, h2, h3, h4, h5, h6] using h
      simp only [h6, h7, if_true, if_false, Bool.false_eq_true]
      cases on with
      | true => simp
      | false =>
        by_cases h8 : m.coding = n
        · simp [h8, Ne.symm h0]
        · simp [h8]
theorem can_ne {p : Bool} {n : Int} (h : canM p n = true) : n ≠ 0 := by
  rintro rfl
  revert h
  cases p <;> decide
theorem get_set {m : Mo} {p : Bool} {n : Int} (h : canM p n = true) (on : Bool) : getM (setM m p n on).1 p n = if on = true then 1 else 2 := by
  rw [get_is h, is_set h on (can_ne h)]
/-- Set twice is as once. -/
theorem set_twice (m : Mo) (p : Bool) (n : Int) (on : Bool) : setM (setM m p n on).1 p n on = ((setM m p n on).1, canM p n) := by
  by_cases h : canM p n = true
  · have h2 := set_can (setM m p n on).1 p n on
    refine Prod.ext ?_ h2
    clear h2
    unfold setM plainM canM oneM at *
    by_cases hp : p = false
    · simp only [if_pos hp] at h ⊢
      by_cases h1 : n = 2
      · simp [h1]
      · have h2 : n = 20 := by simpa [h1] using h
        subst h2
        simp
    · simp only [if_neg hp] at h ⊢
      by_cases h1 : n = 1
      · simp [h1]
      by_cases h2 : n = 66
      · simp [h2]
      by_cases h3 : n = 67
      · simp [h3]
      by_cases h4 : n = 1004
      · simp [h4]
      by_cases h5 : n = 2004
      · simp [h5]
      simp only [h1, h2, h3, h4, h5, if_false]
      by_cases h6 : mouseN n = true
      · simp only [h6, if_true]
        cases on with
        | true => simp
        | false =>
          by_cases h8 : m.mouse = n
          · simp [h8]
          · simp [h8]
      · have h7 : codingN n = true := by simpa [h1, h2, h3, h4, h5, h6] using h
        simp only [h6, h7, if_true, if_false, Bool.false_eq_true]
        cases on with
        | true => simp
        | false =>
          by_cases h8 : m.coding = n
          · simp [h8]
          · simp [h8]
  · have h' : canM p n = false := by simpa using h
    rw [set_no h', set_no h', h']
theorem may_set (m : Mo) (p : Bool) (n : Int) (on : Bool) (h : mayM m = true) : mayM (setM m p n on).1 = true := by
  unfold mayM at *
  simp only [Bool.and_eq_true, decide_eq_true_eq] at h
  obtain ⟨h1, h2, h3, h4⟩ := h
  have key : ((setM m p n on).1.mouse = 0 ∨ mouseN (setM m p n on).1.mouse = true) ∧ ((setM m p n on).1.coding = 0 ∨ codingN (setM m p n on).1.coding = true) ∧ (setM m p n on).1.other = m.other := by
    unfold setM plainM oneM
    (repeat' split) <;> first
      | exact ⟨h1, h2, rfl⟩
      | exact ⟨.inr (by assumption), h2, rfl⟩
      | exact ⟨.inl rfl, h2, rfl⟩
      | exact ⟨h1, .inr (by assumption), rfl⟩
      | exact ⟨h1, .inl rfl, rfl⟩
  obtain ⟨k1, k2, k3⟩ := key
  simp only [Bool.and_eq_true, decide_eq_true_eq]
  rw [k3]
  exact ⟨k1, k2, h3, h4⟩
end Go.Proofs.YtmagokkegadmiaaDoor
namespace Go.Proofs.YtmagokkegadmiaaDoor
open Go.RowKit

/-- A block of the call's own that is known whole. -/
def Blk (w : World) (g : Nat) (t : TypeId) (cs : Array Value) : Prop := w.heap[g]? = some (.cells cs t (0, 0))
section
variable {w w' : World} {g : Nat} {t : TypeId} {cs : Array Value}
theorem Blk.lt (h : Blk w g t cs) : g < w.heap.size := (Array.getElem?_eq_some_iff.1 h).1
theorem Blk.cell (h : Blk w g t cs) (i : Nat) : w.cell? ⟨g, i, none⟩ = cs[i]? := cell_of_row w g i cs t (0, 0) h
theorem Blk.frozen (h : Blk w g t cs) (i : Nat) : w.frozen? ⟨g, i, none⟩ = false := frozen_of_row w g i cs t h
theorem Blk.new (w : World) (t : TypeId) (cs : Array Value) : Blk (w.alloc (.cells cs t)) w.heap.size t cs := heap_alloc_new w _
theorem Blk.drewN (h : Blk w g t cs) (n : Nat) : Blk (w.drewN n) g t cs := h
theorem Blk.alloc (h : Blk w g t cs) (o : Obj) : Blk (w.alloc o) g t cs := (Below.heap_alloc w o g h.lt).trans h
theorem Blk.set (h : Blk w g t cs) (i : Nat) (u : Value) : Blk (w.setCell ⟨g, i, none⟩ u) g t (cs.setIfInBounds i u) := by
  have := heap_setCell_same w g i cs t u h
  simpa [Blk] using this
theorem Blk.far (h : Blk w g t cs) {a : Addr} (ha : g ≠ a.block) (u : Value) : Blk (w.setCell a u) g t cs := (heap_setCell_other w a g u ha).trans h
theorem Blk.far3 (h : Blk w g t cs) {b : Nat} (hb : g ≠ b) (x y z : Value) : Blk (((w.setCell ⟨b, 0, none⟩ x).setCell ⟨b, 1, none⟩ y).setCell ⟨b, 2, none⟩ z) g t cs :=
  ((h.far (a := ⟨b, 0, none⟩) hb x).far (a := ⟨b, 1, none⟩) hb y).far (a := ⟨b, 2, none⟩) hb z
theorem Blk.set3 {p q r : Value} (h : Blk w g t #[p, q, r]) (x y z : Value) : Blk (((w.setCell ⟨g, 0, none⟩ x).setCell ⟨g, 1, none⟩ y).setCell ⟨g, 2, none⟩ z) g t #[x, y, z] := by
  have h1 : Blk (w.setCell ⟨g, 0, none⟩ x) g t #[x, q, r] := h.set 0 x
  have h2 : Blk ((w.setCell ⟨g, 0, none⟩ x).setCell ⟨g, 1, none⟩ y) g t #[x, y, r] := h1.set 1 y
  exact h2.set 2 z
theorem set3_size (w : World) (b : Nat) (x y z : Value) : (((w.setCell ⟨b, 0, none⟩ x).setCell ⟨b, 1, none⟩ y).setCell ⟨b, 2, none⟩ z).heap.size = w.heap.size := by simp
theorem below_set3 {B : Nat} {a : World} (h : Below B a w) {b : Nat} (hb : B ≤ b) (x y z : Value) : Below B a (((w.setCell ⟨b, 0, none⟩ x).setCell ⟨b, 1, none⟩ y).setCell ⟨b, 2, none⟩ z) :=
  ((h.setCell (p := ⟨b, 0, none⟩) hb x).setCell (p := ⟨b, 1, none⟩) hb y).setCell (p := ⟨b, 2, none⟩) hb z
theorem Blk.below {B : Nat} (h : Blk w g t cs) (hb : Below B w w') (hg : g < B) : Blk w' g t cs := (hb.block g hg).trans h
end

/-- A slice that reads as a list, and lies below a block. -/
def RdIn (n₁ : Nat) (w : World) (A : Option Addr) (xs : List Value) : Prop :=
  0 < xs.length → ∃ b o, A = some ⟨b, o, none⟩ ∧ b < n₁ ∧ ∀ k u, xs[k]? = some u → w.cell? ⟨b, o + k, none⟩ = some u
theorem RdIn.of {w : World} {A : Option Addr} {xs : List Value} (h : Rd w A xs) : RdIn w.heap.size w A xs := h
theorem RdIn.below {n₁ : Nat} {w w' : World} {A : Option Addr} {xs : List Value} (h : RdIn n₁ w A xs) (hb : Below n₁ w w') : RdIn n₁ w' A xs := fun hp => by
  obtain ⟨b, o, rfl, hlt, hc⟩ := h hp
  exact ⟨b, o, rfl, hlt, fun k u hu => (hb.cell (p := ⟨b, o + k, none⟩) hlt).trans (hc k u hu)⟩
theorem RdIn.drop {n₁ : Nat} {w : World} {b o : Nat} {t : List UInt8} (h : RdIn n₁ w (some ⟨b, o, none⟩) (bs t)) (k : Nat) (hk : k < t.length) : Rd w (some ⟨b, o + k, none⟩) (bs (t.drop k)) := fun _ => by
  obtain ⟨b', o', hA, _, hc⟩ := h (by rw [bs_length]; omega)
  simp only [Option.some.injEq, Addr.mk.injEq, and_true] at hA
  obtain ⟨rfl, rfl⟩ := hA
  have h0 := hc k _ (bs_get t k hk)
  refine ⟨b, o + k, rfl, World.block_lt_of_cell? w _ h0, fun i u hu => ?_⟩
  rw [Nat.add_assoc]
  apply hc
  simp only [bs, List.map_drop, List.getElem?_drop] at hu
  exact hu

theorem Blk.grown {w w' : World} {g : Nat} {t : TypeId} {cs : Array Value} {row : Option Nat} (h : Blk w g t cs) (hb : w.grownBy w' row) (hg : row ≠ some g) : Blk w' g t cs := (hb.block g h.lt (fun e => hg e.symm)).trans h
theorem RdIn.rd {n₁ : Nat} {w : World} {A : Option Addr} {xs : List Value} (h : RdIn n₁ w A xs) (hn : n₁ ≤ w.heap.size) : Rd w A xs := fun hp => by
  obtain ⟨b, o, rfl, hlt, hc⟩ := h hp
  exact ⟨b, o, rfl, by omega, hc⟩
theorem RdIn.grown {n₁ : Nat} {w w' : World} {A : Option Addr} {xs : List Value} (h : RdIn n₁ w A xs) (hg : w.grownBy w' (some n₁)) (hn : n₁ < w.heap.size) : RdIn n₁ w' A xs := fun hp => by
  obtain ⟨b, o, rfl, hlt, hc⟩ := h hp
  exact ⟨b, o, rfl, hlt, fun k u hu => (World.cell?_of_block (w := w) (a := ⟨b, o + k, none⟩) (hg.block b (by omega) (fun e => by injection e with e; omega))).trans (hc k u hu)⟩
theorem grown_trans {w w' w'' : World} {row : Option Nat} (h : w.grownBy w' row) (h' : w'.grownBy w'' row) : w.grownBy w'' row :=
  ⟨h'.os.trans h.os, h'.tape.trans h.tape, h'.output.trans h.output, Nat.le_trans h.size h'.size, fun k hk hr => (h'.block k (Nat.lt_of_lt_of_le hk h.size) hr).trans (h.block k hk hr)⟩
theorem grown_below {w w' : World} (row : Option Nat) (h : Below w.heap.size w w') : w.grownBy w' row := ⟨h.os, h.tape, h.output, h.size, fun k hk _ => h.block k hk⟩
theorem below_grown {B g : Nat} {w w' : World} (h : w.grownBy w' (some g)) (hB : B ≤ g) (hg : g < w.heap.size) : Below B w w' := ⟨h.os, h.tape, h.output, h.size, fun k hk => h.block k (by omega) (fun e => by injection e with e; omega)⟩

/-- A slice cut at a place, at its end, too. -/
theorem cut_run {P : Program} {T e : TypeId} (he : P.elem T = e) (hT : P.underlying T = some (.slice e)) (hs : ∀ w, (sizeOf e).run P w = .ok 1 w) (A : Option Addr) (n c k : Nat) (hk : k ≤ n) (hn : n ≤ c) :
    ∃ A', (∀ w : World, (Instr.slice T (.slice A n c) (some (.int .i64 (k : Int))) none none).run P w = .ok (.slice A' (n - k) (c - k)) w) ∧
      ∀ (n₁ : Nat) (w : World) (l : List UInt8), l.length = n → RdIn n₁ w A (bs l) → RdIn n₁ w A' (bs (l.drop k)) := by
  subst he
  refine ⟨if c = k then A else A.map (·.add (k * 1)), fun w => ?_, fun n₁ w l hl hr => ?_⟩
  · rw [run_slice_l w T A n c hT .i64 (k : Int) (by omega) (by omega), hs]
    simp [Result.andThen, sliced]
  · intro hp
    rw [bs_length, List.length_drop] at hp
    obtain ⟨b, o, rfl, hb, hc⟩ := hr (by rw [bs_length]; omega)
    rw [if_neg (by omega)]
    refine ⟨b, o + k, ?_, hb, fun i u hu => ?_⟩
    · rw [Option.map_some, addr_add_at, Nat.mul_one]
    · rw [Nat.add_assoc]
      apply hc
      simp only [bs, List.map_drop, List.getElem?_drop] at hu
      exact hu
/-- A slice cut at two places. -/
theorem cut2_run {P : Program} {T e : TypeId} (he : P.elem T = e) (hT : P.underlying T = some (.slice e)) (hs : ∀ w, (sizeOf e).run P w = .ok 1 w) (A : Option Addr) (n c lo hi : Nat) (hk : lo ≤ hi) (hh : hi ≤ n) (hn : n ≤ c) :
    ∃ A', (∀ w : World, (Instr.slice T (.slice A n c) (some (.int .i64 (lo : Int))) (some (.int .i64 (hi : Int))) none).run P w = .ok (.slice A' (hi - lo) (c - lo)) w) ∧
      ∀ (n₁ : Nat) (w : World) (l : List UInt8), l.length = n → RdIn n₁ w A (bs l) → RdIn n₁ w A' (bs ((l.drop lo).take (hi - lo))) := by
  subst he
  refine ⟨if c = lo then A else A.map (·.add (lo * 1)), fun w => ?_, fun n₁ w l hl hr => ?_⟩
  · rw [run_slice_lh w T A n c hT .i64 .i64 (lo : Int) (hi : Int) (by omega) (by omega) (by omega), hs]
    simp [Result.andThen, sliced]
  · intro hp
    rw [bs_length, List.length_take, List.length_drop] at hp
    obtain ⟨b, o, rfl, hb, hc⟩ := hr (by rw [bs_length]; omega)
    rw [if_neg (by omega)]
    refine ⟨b, o + lo, ?_, hb, fun i u hu => ?_⟩
    · rw [Option.map_some, addr_add_at, Nat.mul_one]
    · rw [Nat.add_assoc]
      apply hc
      have hi : i < hi - lo := by
        have := (List.getElem?_eq_some_iff.1 hu).1
        rw [bs_length, List.length_take] at this
        omega
      simp only [bs, List.map_take, List.map_drop, List.getElem?_take, if_pos hi, List.getElem?_drop] at hu
      exact hu
end Go.Proofs.YtmagokkegadmiaaDoor
