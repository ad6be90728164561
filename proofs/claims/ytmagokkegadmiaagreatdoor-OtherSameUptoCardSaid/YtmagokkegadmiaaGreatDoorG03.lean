/-
  Words for memory: a block that is known whole; a slice that lies below a block; a slice cut at a place; a reader's box. Lists of numbers, read in memory; the document's comparison of two of them. (For layers that don't load layer 2's own texts.) Layer 9: what keys are: mathematics. Layer 10's mathematics: events of keys, and their modifiers. What All answers. Layer 9, the landed keys: mathematics: its rows, the codes of all rows one after the other, and what is found among them.
-/
import Derived.Test.YtmagokkegadmiaaGreatDoorG01
import Derived.Test.YtmagokkegadmiaaGreatDoorG02
import Derived.Laws.Rows
import Derived.BigQuiet
import Derived.Deep.QuietTactic
namespace Go.Proofs.YtmagokkegadmiaaGreatDoor
open Go.RowKit

/-- A block of the call's own that is known whole. -/
def Blk (w : World) (g : Nat) (t : TypeId) (cs : Array Value) : Prop := w.heap[g]? = some (.cells cs t (0, 0))
section
variable {w w' : World} {g : Nat} {t : TypeId} {cs : Array Value}
theorem Blk.lt (h : Blk w g t cs) : g < w.heap.size := (Array.getElem?_eq_some_iff.1 h).1
theorem Blk.cell (h : Blk w g t cs) (i : Nat) : w.cell? ⟨g, i, none⟩ = cs[i]? := cell_of_row w g i cs t (0, 0) h
theorem Blk.frozen (h : Blk w g t cs) (i : Nat) : w.frozen? ⟨g, i, none⟩ = false := frozen_of_row w g i cs t h
theorem Blk.new (w : World) (t : TypeId) (cs : Array Value) : Blk (w.alloc (.cells cs t)) w.heap.size t cs := heap_alloc_new w _
theorem Blk.drewN (h : Blk w g t cs) (n : Nat) : Blk (w.drewN n) g t cs := h
theorem Blk.alloc (h : Blk w g t cs) (o : Obj) : Blk (w.alloc o) g t cs := (Below.heap_alloc w o g h.lt).trans h
theorem Blk.set (h : Blk w g t cs) (i : Nat) (u : Value) : Blk (w.setCell ⟨g, i, none⟩ u) g t (cs.setIfInBounds i u) := by
  have := heap_setCell_same w g i cs t u h
  simpa [Blk] using this
theorem Blk.far (h : Blk w g t cs) {a : Addr} (ha : g ≠ a.block) (u : Value) : Blk (w.setCell a u) g t cs := (heap_setCell_other w a g u ha).trans h
theorem Blk.far3 (h : Blk w g t cs) {b : Nat} (hb : g ≠ b) (x y z : Value) : Blk (((w.setCell ⟨b, 0, none⟩ x).setCell ⟨b, 1, none⟩ y).setCell ⟨b, 2, none⟩ z) g t cs :=
  ((h.far (a := ⟨b, 0, none⟩) hb x).far (a := ⟨b, 1, none⟩) hb y).far (a := ⟨b, 2, none⟩) hb z
theorem Blk.set3 {p q r : Value} (h : Blk w g t #[p, q, r]) (x y z : Value) : Blk (((w.setCell ⟨g, 0, none⟩ x).setCell ⟨g, 1, none⟩ y).setCell ⟨g, 2, none⟩ z) g t #[x, y, z] := by
  have h1 : Blk (w.setCell ⟨g, 0, none⟩ x) g t #[x, q, r] := h.set 0 x
  have h2 : Blk ((w.setCell ⟨g, 0, none⟩ x).setCell ⟨g, 1, none⟩ y) g t #[x, y, r] := h1.set 1 y
  exact h2.set 2 z
theorem set3_size (w : World) (b : Nat) (x y z : Value) : (((w.setCell ⟨b, 0, none⟩ x).setCell ⟨b, 1, none⟩ y).setCell ⟨b, 2, none⟩ z).heap.size = w.heap.size := by simp
theorem below_set3 {B : Nat} {a : World} (h : Below B a w) {b : Nat} (hb : B ≤ b) (x y z : Value) : Below B a (((w.setCell ⟨b, 0, none⟩ x).setCell ⟨b, 1, none⟩ y).setCell ⟨b, 2, none⟩ z) :=
  ((h.setCell (p := ⟨b, 0, none⟩) hb x).setCell (p := ⟨b, 1, none⟩) hb y).setCell (p := ⟨b, 2, none⟩) hb z
theorem Blk.below {B : Nat} (h : Blk w g t cs) (hb : Below B w w') (hg : g < B) : Blk w' g t cs := (hb.block g hg).trans h
end

/-- A slice that reads as a list, and lies below a block. -/
def RdIn (n₁ : Nat) (w : World) (A : Option Addr) (xs : List Value) : Prop :=
  0 < xs.length → ∃ b o, A = some ⟨b, o, none⟩ ∧ b < n₁ ∧ ∀ k u, xs[k]? = some u → w.cell? ⟨b, o + k, none⟩ = some u
theorem RdIn.of {w : World} {A : Option Addr} {xs : List Value} (h : Rd w A xs) : RdIn w.heap.size w A xs := h
theorem RdIn.below {n₁ : Nat} {w w' : World} {A : Option Addr} {xs : List Value} (h : RdIn n₁ w A xs) (hb : Below n₁ w w') : RdIn n₁ w' A xs := fun hp => by
  obtain ⟨b, o, rfl, hlt, hc⟩ := h hp
  exact ⟨b, o, rfl, hlt, fun k u hu => (hb.cell (p := ⟨b, o + k, none⟩) hlt).trans (hc k u hu)⟩
theorem RdIn.drop {n₁ : Nat} {w : World} {b o : Nat} {t : List UInt8} (h : RdIn n₁ w (some ⟨b, o, none⟩) (bs t)) (k : Nat) (hk : k < t.length) : Rd w (some ⟨b, o + k, none⟩) (bs (t.drop k)) := fun _ => by
  obtain ⟨b', o', hA, _, hc⟩ := h (by rw [bs_length]; omega)
  simp only [Option.some.injEq, Addr.mk.injEq, and_true] at hA
  obtain ⟨rfl, rfl⟩ := hA
  have h0 := hc k _ (bs_get t k hk)
  refine ⟨b, o + k, rfl, World.block_lt_of_cell? w _ h0, fun i u hu => ?_⟩
  rw [Nat.add_assoc]
  apply hc
  simp only [bs, List.map_drop, List.getElem?_drop] at hu
  exact hu

theorem Blk.grown {w w' : World} {g : Nat} {t : TypeId} {cs : Array Value} {row : Option Nat} (h : Blk w g t cs) (hb : w.grownBy w' row) (hg : row ≠ some g) : Blk w' g t cs := (hb.block g h.lt (fun e => hg e.symm)).trans h
theorem RdIn.rd {n₁ : Nat} {w : World} {A : Option Addr} {xs : List Value} (h : RdIn n₁ w A xs) (hn : n₁ ≤ w.heap.size) : Rd w A xs := fun hp => by
  obtain ⟨b, o, rfl, hlt, hc⟩ := h hp
  exact ⟨b, o, rfl, by omega, hc⟩
theorem RdIn.grown {n₁ : Nat} {w w' : World} {A : Option Addr} {xs : List Value} (h : RdIn n₁ w A xs) (hg : w.grownBy w' (some n₁)) (hn : n₁ < w.heap.size) : RdIn n₁ w' A xs := fun hp => by
  obtain ⟨b, o, rfl, hlt, hc⟩ := h hp
  exact ⟨b, o, rfl, hlt, fun k u hu => (World.cell?_of_block (w := w) (a := ⟨b, o + k, none⟩) (hg.block b (by omega) (fun e => by injection e with e; omega))).trans (hc k u hu)⟩
theorem grown_trans {w w' w'' : World} {row : Option Nat} (h : w.grownBy w' row) (h' : w'.grownBy w'' row) : w.grownBy w'' row :=
  ⟨h'.os.trans h.os, h'.tape.trans h.tape, h'.output.trans h.output, Nat.le_trans h.size h'.size, fun k hk hr => (h'.block k (Nat.lt_of_lt_of_le hk h.size) hr).trans (h.block k hk hr)⟩
theorem grown_below {w w' : World} (row : Option Nat) (h : Below w.heap.size w w') : w.grownBy w' row := ⟨h.os, h.tape, h.output, h.size, fun k hk _ => h.block k hk⟩
theorem below_grown {B g : Nat} {w w' : World} (h : w.grownBy w' (some g)) (hB : B ≤ g) (hg : g < w.heap.size) : Below B w w' := ⟨h.os, h.tape, h.output, h.size, fun k hk => h.block k (by omega) (fun e => by injection e with e; omega)⟩

/-- A slice cut at a place, at its end, too. -/
theorem cut_run {P : Program} {T e : TypeId} (he : P.elem T = e) (hT : P.underlying T = some (.slice e)) (hs : ∀ w, (sizeOf e).run P w = .ok 1 w) (A : Option Addr) (n c k : Nat) (hk : k ≤ n) (hn : n ≤ c) :
    ∃ A', (∀ w : World, (Instr.slice T (.slice A n c) (some (.int .i64 (k : Int))) none none).run P w = .ok (.slice A' (n - k) (c - k)) w) ∧
      ∀ (n₁ : Nat) (w : World) (l : List UInt8), l.length = n → RdIn n₁ w A (bs l) → RdIn n₁ w A' (bs (l.drop k)) := by
  subst he
  refine ⟨if c = k then A else A.map (·.add (k * 1)), fun w => ?_, fun n₁ w l hl hr => ?_⟩
  · rw [run_slice_l w T A n c hT .i64 (k : Int) (by omega) (by omega), hs]
    simp [Result.andThen, sliced]
  · intro hp
    rw [bs_length, List.length_drop] at hp
    obtain ⟨b, o, rfl, hb, hc⟩ := hr (by rw [bs_length]; omega)
    rw [if_neg (by omega)]
    refine ⟨b, o + k, ?_, hb, fun i u hu => ?_⟩
    · rw [Option.map_some, addr_add_at, Nat.mul_one]
    · rw [Nat.add_assoc]
      apply hc
      simp only [bs, List.map_drop, List.getElem?_drop] at hu
      exact hu
/-- A slice cut at two places. -/
theorem cut2_run {P : Program} {T e : TypeId} (he : P.elem T = e) (hT : P.underlying T = some (.slice e)) (hs : ∀ w, (sizeOf e).run P w = .ok 1 w) (A : Option Addr) (n c lo hi : Nat) (hk : lo ≤ hi) (hh : hi ≤ n) (hn : n ≤ c) :
    ∃ A', (∀ w : World, (Instr.slice T (.slice A n c) (some (.int .i64 (lo : Int))) (some (.int .i64 (hi : Int))) none).run P w = .ok (.slice A' (hi - lo) (c - lo)) w) ∧
      ∀ (n₁ : Nat) (w : World) (l : List UInt8), l.length = n → RdIn n₁ w A (bs l) → RdIn n₁ w A' (bs ((l.drop lo).take (hi - lo))) := by
  subst he
  refine ⟨if c = lo then A else A.map (·.add (lo * 1)), fun w => ?_, fun n₁ w l hl hr => ?_⟩
  · rw [run_slice_lh w T A n c hT .i64 .i64 (lo : Int) (hi : Int) (by omega) (by omega) (by omega), hs]
    simp [Result.andThen, sliced]
  · intro hp
    rw [bs_length, List.length_take, List.length_drop] at hp
    obtain ⟨b, o, rfl, hb, hc⟩ := hr (by rw [bs_length]; omega)
    rw [if_neg (by omega)]
    refine ⟨b, o + lo, ?_, hb, fun i u hu => ?_⟩
    · rw [Option.map_some, addr_add_at, Nat.mul_one]
    · rw [Nat.add_assoc]
      apply hc
      have hi : i < hi - lo := by
        have := (List.getElem?_eq_some_iff.1 hu).1
        rw [bs_length, List.length_take] at this
        omega
      simp only [bs, List.map_take, List.map_drop, List.getElem?_take, if_pos hi, List.getElem?_drop] at hu
      exact hu
end Go.Proofs.YtmagokkegadmiaaGreatDoor
namespace Go.Proofs.YtmagokkegadmiaaGreatDoor
open Go.RowKit

/-- Numbers as values. -/
def is_ (l : List Int) : List Value := l.map (Value.int .i64)
theorem is_length (l : List Int) : (is_ l).length = l.length := by simp [is_]
theorem Rd.int_at {w : World} {A : Option Addr} {l : List Int} (h : Rd w A (is_ l)) (hp : 0 < l.length) :
    ∃ b o, A = some ⟨b, o, none⟩ ∧ b < w.heap.size ∧ ∀ k (hk : k < l.length), w.cell? ⟨b, o + k, none⟩ = some (.int .i64 l[k]) := by
  obtain ⟨b, o, rfl, hb, hc⟩ := h (by rw [is_length]; exact hp)
  exact ⟨b, o, rfl, hb, fun k hk => hc k _ (by simp [is_, hk])⟩

/-- A slice of slices of numbers. -/
def RdP (w : World) (A : Option Addr) (ps : List (List Int)) : Prop :=
  0 < ps.length → ∃ b o, A = some ⟨b, o, none⟩ ∧ b < w.heap.size ∧ ∀ k (hk : k < ps.length), ∃ A' c', w.cell? ⟨b, o + k, none⟩ = some (.slice A' (ps[k]).length c') ∧ Rd w A' (is_ ps[k])
theorem RdP.nil (w : World) (A : Option Addr) : RdP w A [] := fun h => absurd h (by simp)
theorem RdP.below {w w' : World} {A : Option Addr} {ps : List (List Int)} (h : RdP w A ps) (hb : Below w.heap.size w w') : RdP w' A ps := fun hp => by
  obtain ⟨b, o, rfl, hlt, hc⟩ := h hp
  refine ⟨b, o, rfl, Nat.lt_of_lt_of_le hlt hb.size, fun k hk => ?_⟩
  obtain ⟨A', c', h1, h2⟩ := hc k hk
  exact ⟨A', c', (hb.cell (p := ⟨b, o + k, none⟩) hlt).trans h1, h2.below hb⟩
theorem RdP.drewN {w : World} {A : Option Addr} {ps : List (List Int)} (h : RdP w A ps) (n : Nat) : RdP (w.drewN n) A ps := h
theorem RdP.alloc {w : World} {A : Option Addr} {ps : List (List Int)} (h : RdP w A ps) (o : Obj) : RdP (w.alloc o) A ps := h.below ((Below.refl _ _).alloc (Nat.le_refl _) o)
end Go.Proofs.YtmagokkegadmiaaGreatDoor
namespace Go.Proofs.YtmagokkegadmiaaGreatDoor

structure En where
  kind : Int
  fin : Int
  num : Int
  char : Int
  keys : Bool
deriving DecidableEq
def letterN (c : Int) : Int :=
  if c = 57350 ∨ c = 57417 then 68 else if c = 57351 ∨ c = 57418 then 67 else if c = 57352 ∨ c = 57419 then 65 else if c = 57353 ∨ c = 57420 then 66
  else if c = 57356 ∨ c = 57423 then 72 else if c = 57357 ∨ c = 57424 then 70 else if c = 57427 then 69 else if 57364 ≤ c ∧ c ≤ 57367 then 80 + c - 57364 else 0
def numberN (c : Int) : Int :=
  if c = 57348 ∨ c = 57425 then 2 else if c = 57349 ∨ c = 57426 then 3 else if c = 57354 ∨ c = 57421 then 5 else if c = 57355 ∨ c = 57422 then 6
  else if c = 57368 then 15 else if 57369 ≤ c ∧ c ≤ 57373 then 17 + c - 57369 else if 57374 ≤ c ∧ c ≤ 57375 then 23 + c - 57374 else if c = 57363 then 29 else 0
def padE (c : Int) : En :=
  if c ≤ 57408 then ⟨5, 112 + c - 57399, 0, 48 + c - 57399, true⟩
  else ⟨5, [110, 111, 106, 109, 107, 77, 88, 108].getD (c - 57409).toNat 0, 0, [46, 47, 42, 45, 43, 13, 61, 44].getD (c - 57409).toNat 0, true⟩
def isPtK (c : Int) : Bool := decide (0 ≤ c ∧ c ≤ 1114111 ∧ ¬ (55296 ≤ c ∧ c ≤ 57343))
def restN (c : Int) : Int :=
  if c = 9 ∨ c = 13 ∨ c = 27 ∨ c = 127 then 2
  else if 57358 ≤ c ∧ c ≤ 57362 ∨ 57376 ≤ c ∧ c ≤ 57398 ∨ 57428 ≤ c ∧ c ≤ 57440 then 6
  else if 57441 ≤ c ∧ c ≤ 57454 then 7
  else if isPtK c = false ∨ c < 32 ∨ 127 ≤ c ∧ c ≤ 159 ∨ 57344 ≤ c ∧ c ≤ 63743 then 0 else 1
def lookE (c : Int) : En :=
  if letterN c ≠ 0 then ⟨3, letterN c, 0, 0, decide (57399 ≤ c)⟩
  else if numberN c ≠ 0 then ⟨4, 0, numberN c, 0, decide (57399 ≤ c)⟩
  else if 57399 ≤ c ∧ c ≤ 57416 then padE c else ⟨restN c, 0, 0, 0, false⟩
/-- Whether a code has a form. -/
def hasE (f n c : Int) : Bool := (lookE c).kind == 3 && (lookE c).fin == f || (lookE c).kind == 4 && f == 126 && (lookE c).num == n
def findK (f n : Int) : Nat → Int → Int × Bool
  | 0, _ => (0, false)
  | k + 1, c => if hasE f n c then (c, true) else findK f n k (c + 1)
def findE (f n : Int) : Int × Bool := findK f n 55 57344
theorem letter_out {c : Int} (h : c < 57344 ∨ 57455 ≤ c) : letterN c = 0 := by
  unfold letterN
  repeat' split
  all_goals omega
theorem number_out {c : Int} (h : c < 57344 ∨ 57455 ≤ c) : numberN c = 0 := by
  unfold numberN
  repeat' split
  all_goals omega
/-- What has no code of its own. -/
theorem look_out {c : Int} (h : c < 57344 ∨ 57455 ≤ c) : lookE c = ⟨restN c, 0, 0, 0, false⟩ := by
  unfold lookE
  rw [letter_out h, number_out h, if_neg (by decide), if_neg (by decide), if_neg (by omega)]
theorem find_hit (f n : Int) : ∀ (k : Nat) (c : Int), (findK f n k c).2 = true → hasE f n (findK f n k c).1 = true ∧ c ≤ (findK f n k c).1 ∧ (findK f n k c).1 < c + k
  | 0, _, h => by cases h
  | k + 1, c, h => by
    unfold findK at h ⊢
    split
    next hc => exact ⟨hc, Int.le_refl _, by simp; omega⟩
    next hc =>
      rw [if_neg hc] at h
      have := find_hit f n k (c + 1) h
      exact ⟨this.1, by omega, by simp; omega⟩
theorem find_none (f n : Int) : ∀ (k : Nat) (c : Int), (findK f n k c).2 = false → (findK f n k c).1 = 0 ∧ ∀ d, c ≤ d → d < c + k → hasE f n d = false
  | 0, c, _ => ⟨rfl, fun d h1 h2 => by simp at h2; omega⟩
  | k + 1, c, h => by
    unfold findK at h ⊢
    split
    next hc => rw [if_pos hc] at h; cases h
    next hc =>
      rw [if_neg hc] at h
      have ih := find_none f n k (c + 1) h
      refine ⟨ih.1, fun d h1 h2 => ?_⟩
      by_cases hd : d = c
      · subst hd; simpa using hc
      · exact ih.2 d (by omega) (by push_cast at h2; omega)
/-- The codes of the main board, one by one: each with a form is found by it. -/
theorem main_all : ∀ k : Fin 111, ((lookE (57344 + k.1)).kind == 3 || (lookE (57344 + k.1)).kind == 4) && !(lookE (57344 + k.1)).keys → findE (if (lookE (57344 + k.1)).kind = 4 then 126 else (lookE (57344 + k.1)).fin) (lookE (57344 + k.1)).num = (57344 + (k.1 : Int), true) := by decide +kernel
theorem rest_rng (c : Int) : restN c = 0 ∨ restN c = 1 ∨ restN c = 2 ∨ restN c = 6 ∨ restN c = 7 := by
  unfold restN
  repeat' split
  all_goals simp
theorem main_found {c : Int} (hk : (lookE c).kind = 3 ∨ (lookE c).kind = 4) (hm : (lookE c).keys = false) : findE (if (lookE c).kind = 4 then 126 else (lookE c).fin) (lookE c).num = (c, true) := by
  by_cases h : c < 57344 ∨ 57455 ≤ c
  · rw [look_out h] at hk
    have := rest_rng c
    simp only at hk
    omega
  · obtain ⟨k, hk2⟩ : ∃ k : Fin 111, c = 57344 + k.1 := ⟨⟨(c - 57344).toNat, by omega⟩, by simp; omega⟩
    subst hk2
    exact main_all k (by rw [hm]; rcases hk with e | e <;> rw [e] <;> rfl)
theorem code_all : ∀ k : Fin 111, (lookE (57344 + k.1)).kind = 0 ∨ (lookE (57344 + k.1)).kind = 3 ∨ (lookE (57344 + k.1)).kind = 4 ∨ (lookE (57344 + k.1)).kind = 5 ∨ (lookE (57344 + k.1)).kind = 6 ∨ (lookE (57344 + k.1)).kind = 7 := by decide +kernel
/-- No code of the main board stands on the pad. -/
theorem main_keys : ∀ k : Fin 55, (lookE (57344 + k.1)).keys = false := by decide +kernel
theorem found_right {f n : Int} (h : (findE f n).2 = true) : hasE f n (findE f n).1 = true ∧ (lookE (findE f n).1).keys = false := by
  obtain ⟨h1, h2, h3⟩ := find_hit f n 55 57344 h
  refine ⟨h1, ?_⟩
  have hb : 57344 ≤ (findE f n).1 ∧ (findE f n).1 < 57344 + 55 := ⟨h2, h3⟩
  obtain ⟨c, hc⟩ : ∃ c, (findE f n).1 = c := ⟨_, rfl⟩
  rw [hc] at hb ⊢
  obtain ⟨k, rfl⟩ : ∃ k : Fin 55, c = 57344 + k.1 := ⟨⟨(c - 57344).toNat, by omega⟩, by simp; omega⟩
  exact main_keys k
end Go.Proofs.YtmagokkegadmiaaGreatDoor
namespace Go.Proofs.YtmagokkegadmiaaGreatDoor

/-- A key's event. -/
structure Ky where
  code : Int
  mods : Int
  typ : Int
  shift : Int
  base : Int
  text : ByteArray
def in10 (n : Int) : Prop := -9223372036854775808 ≤ n ∧ n ≤ 9223372036854775807
/-- Its numbers are numbers of 64 bits. -/
structure okK (k : Ky) : Prop where
  code : in10 k.code
  mods : in10 k.mods
  typ : in10 k.typ
  shift : in10 k.shift
  base : in10 k.base
def textK (c : Int) : Bool := (lookE c).kind == 1
def cleanP (ks : List Int) : Bool := ks.all fun r => !(decide (r < 32) || decide (127 ≤ r) && decide (r ≤ 159))
def cleanO : Option (List Int) → Bool
  | some ks => decide (ks.length ≤ 8) && cleanP ks
  | none => false
def cleanL (l : List UInt8) : Bool := cleanO (allL l)
def cleanB (s : ByteArray) : Bool := cleanL s.data.toList
def mayK (k : Ky) : Bool := !((lookE k.code).kind == 0 || decide (k.mods < 0) || decide (255 < k.mods) || decide (k.typ < 1) || decide (3 < k.typ)) && ((k.shift == 0 || textK k.shift) && (k.base == 0 || textK k.base) && cleanB k.text)
def hasN (n one : Int) : Bool := max n 0 / one % 2 == 1
def oldN (n : Int) : Int := max n 0 % 8
def paramN (n : Int) : Int := if n < 0 ∨ 255 < n then 1 else n + 1
def ofN (p : Int) : Int × Bool := if p < 1 ∨ 256 < p then (0, false) else (p - 1, true)
def shownK (k : Ky) : Int := if hasN k.mods 1 = false then k.code else if k.shift ≠ 0 then k.shift else if 97 ≤ k.code ∧ k.code ≤ 122 then k.code - 32 else k.code
def foldN (c : Int) : Int × Bool :=
  if c = 32 ∨ c = 50 ∨ c = 64 then (0, true) else if 97 ≤ c ∧ c ≤ 122 then (c - 96, true) else if 65 ≤ c ∧ c ≤ 95 then (c - 64, true) else if 51 ≤ c ∧ c ≤ 55 then (27 + c - 51, true) else if c = 47 then (31, true) else if c = 56 ∨ c = 63 then (127, true) else (0, false)

theorem of_param {n : Int} (h : 0 ≤ n) (h2 : n ≤ 255) : ofN (paramN n) = (n, true) := by
  unfold paramN
  rw [if_neg (by omega)]
  unfold ofN
  rw [if_neg (by omega), Int.add_sub_cancel]
theorem param_at {n : Int} (h : 0 ≤ n) (h2 : n ≤ 255) : paramN n = n + 1 := if_neg (by omega)
theorem old_at {n : Int} (h : 0 ≤ n) : oldN n = n % 8 := by
  unfold oldN
  rw [Int.max_eq_left h]
theorem fold_small {c : Int} (h : 0 ≤ c) (h2 : c < 26) : foldN (97 + c) = (c + 1, true) := by
  unfold foldN
  rw [if_neg (by omega), if_pos (by omega)]
  congr 1
  omega
theorem fold_large {c : Int} (h : 0 ≤ c) (h2 : c < 26) : foldN (97 + c - 32) = (c + 1, true) := by
  unfold foldN
  rw [if_neg (by omega), if_neg (by omega), if_pos (by omega)]
  congr 1
  omega
/-- What a character folds to. -/
theorem fold_rng (c : Int) : ((foldN c).2 = true → 0 ≤ (foldN c).1 ∧ ((foldN c).1 < 32 ∨ (foldN c).1 = 127)) ∧ ((foldN c).2 = false → (foldN c).1 = 0) := by
  unfold foldN
  repeat' split
  all_goals simp
  all_goals omega
theorem shown_even {k : Ky} {m : Int} (h : m % 2 = 0) : shownK { k with mods := m } = k.code := by
  unfold shownK
  rw [if_pos]
  show hasN m 1 = false
  unfold hasN
  rw [Int.ediv_one]
  have : max m 0 % 2 = 0 := by omega
  rw [this]
  rfl
theorem clean_nil : cleanB ByteArray.empty = true := by decide
theorem may_parts (k : Ky) : mayK k = true ↔ ((lookE k.code).kind ≠ 0 ∧ 0 ≤ k.mods ∧ k.mods ≤ 255 ∧ 1 ≤ k.typ ∧ k.typ ≤ 3) ∧ (k.shift = 0 ∨ textK k.shift = true) ∧ (k.base = 0 ∨ textK k.base = true) ∧ cleanB k.text = true := by
  unfold mayK
  simp only [Bool.and_eq_true, Bool.not_eq_true', Bool.or_eq_false_iff, Bool.or_eq_true, beq_iff_eq, beq_eq_false_iff_ne, decide_eq_false_iff_not, and_assoc, ne_eq]
  constructor <;> (rintro ⟨h1, h2, h3, h4, h5, h6, h7, h8⟩; exact ⟨h1, by omega, by omega, by omega, by omega, h6, h7, h8⟩)
/-- Less may still be. -/
theorem may_bare {k : Ky} (h : mayK k = true) : mayK { k with shift := 0, base := 0 } = true := by
  rw [may_parts] at h ⊢
  exact ⟨h.1, .inl rfl, .inl rfl, h.2.2.2⟩
theorem may_mute {k : Ky} (h : mayK k = true) : mayK { k with text := ByteArray.empty } = true := by
  rw [may_parts] at h ⊢
  exact ⟨h.1, h.2.1, h.2.2.1, clean_nil⟩
theorem may_fewer {k : Ky} (h : mayK k = true) {f : Int} (hf : 0 ≤ f) : mayK { k with mods := k.mods % (1 + f) } = true := by
  rw [may_parts] at h ⊢
  have h1 := Int.emod_nonneg k.mods (show 1 + f ≠ 0 by omega)
  have h2 : k.mods % (1 + f) ≤ k.mods := by
    by_cases h3 : k.mods < 1 + f
    · rw [Int.emod_eq_of_lt h.1.2.1 h3]
      exact Int.le_refl _
    · have := Int.emod_lt_of_pos k.mods (show 0 < 1 + f by omega)
      omega
  exact ⟨⟨h.1.1, h1, by have := h.1.2.2.1; show k.mods % (1 + f) ≤ 255; omega, h.1.2.2.2⟩, h.2⟩
end Go.Proofs.YtmagokkegadmiaaGreatDoor
namespace Go.Proofs.YtmagokkegadmiaaGreatDoor
open Go.RowKit

theorem Tryz.intinfo : (Tryz.prog.info? 3).map (fun i => (i.zero, i.size, i.bytes)) = some (some (.int .i64 0), 1, 8) := by kernel_rfl

/-- What All answers. -/
def Al (o : Option (List Int)) (w : World) (e : Ending) (w' : World) : Prop :=
  match o with
  | some k => ∃ A c, e = .returned (.tuple #[.slice A k.length c, .bool true]) ∧ Rd w' A (is_ k) ∧ Below w.heap.size w w'
  | none => e = .returned (.tuple #[.slice none 0 0, .bool false]) ∧ Below w.heap.size w w'
theorem Al.yes {o : Option (List Int)} {k : List Int} {n : Nat} (h : o = some k) (hn : k.length = n) {w w' : World} {A : Option Addr} {c : Nat} (hr : Rd w' A (is_ k)) (hb : Below w.heap.size w w') : Al o w (.returned (.tuple #[.slice A n c, .bool true])) w' := by
  subst h hn
  exact ⟨A, c, rfl, hr, hb⟩
theorem Al.no {o : Option (List Int)} (h : o = none) {w w' : World} (hb : Below w.heap.size w w') : Al o w (.returned (.tuple #[.slice none 0 0, .bool false])) w' := by
  subst h
  exact ⟨rfl, hb⟩
/-- The same, with the row that it made. -/
def AlO (o : Option (List Int)) (w : World) (e : Ending) (w' : World) : Prop :=
  match o with
  | some k => ∃ v, e = .returned (.tuple #[v, .bool true]) ∧ Own w' w.heap.size 3 1 v k.length (is_ k) ∧ Below w.heap.size w w'
  | none => e = .returned (.tuple #[.slice none 0 0, .bool false]) ∧ Below w.heap.size w w'
theorem AlO.yes {o : Option (List Int)} {k : List Int} (h : o = some k) {w w' : World} {v : Value} (hr : Own w' w.heap.size 3 1 v k.length (is_ k)) (hb : Below w.heap.size w w') : AlO o w (.returned (.tuple #[v, .bool true])) w' := by
  subst h
  exact ⟨v, rfl, hr, hb⟩
theorem AlO.no {o : Option (List Int)} (h : o = none) {w w' : World} (hb : Below w.heap.size w w') : AlO o w (.returned (.tuple #[.slice none 0 0, .bool false])) w' := by
  subst h
  exact ⟨rfl, hb⟩
theorem AlO.al {o : Option (List Int)} {w w' : World} {e : Ending} (h : AlO o w e w') : Al o w e w' := by
  cases o with
  | none => exact h
  | some k =>
    obtain ⟨v, rfl, ho, hb⟩ := h
    obtain ⟨A, c, rfl, hr⟩ := ho.form
    exact ⟨A, c, rfl, hr, hb⟩
end Go.Proofs.YtmagokkegadmiaaGreatDoor
namespace Go.Proofs.YtmagokkegadmiaaGreatDoor

structure Ro where
  first : Int
  last : Int
  kind : Int
  finals : List UInt8
  nums : List Int
  chars : List UInt8
  keys : Bool
deriving DecidableEq
def roL : List Ro := [
  ⟨9, 9, 2, [], [], [], false⟩, ⟨13, 13, 2, [], [], [], false⟩, ⟨27, 27, 2, [], [], [], false⟩, ⟨127, 127, 2, [], [], [], false⟩,
  ⟨57350, 57353, 3, [68, 67, 65, 66], [], [], false⟩, ⟨57356, 57357, 3, [72, 70], [], [], false⟩, ⟨57364, 57367, 3, [80, 81, 82, 83], [], [], false⟩,
  ⟨57348, 57349, 4, [], [2, 3], [], false⟩, ⟨57354, 57355, 4, [], [5, 6], [], false⟩, ⟨57368, 57375, 4, [], [15, 17, 18, 19, 20, 21, 23, 24], [], false⟩, ⟨57363, 57363, 4, [], [29], [], false⟩,
  ⟨57399, 57408, 5, [112, 113, 114, 115, 116, 117, 118, 119, 120, 121], [], [48, 49, 50, 51, 52, 53, 54, 55, 56, 57], true⟩,
  ⟨57409, 57416, 5, [110, 111, 106, 109, 107, 77, 88, 108], [], [46, 47, 42, 45, 43, 13, 61, 44], true⟩,
  ⟨57417, 57420, 3, [68, 67, 65, 66], [], [], true⟩, ⟨57423, 57424, 3, [72, 70], [], [], true⟩, ⟨57427, 57427, 3, [69], [], [], true⟩,
  ⟨57421, 57422, 4, [], [5, 6], [], true⟩, ⟨57425, 57426, 4, [], [2, 3], [], true⟩,
  ⟨57358, 57362, 6, [], [], [], false⟩, ⟨57376, 57398, 6, [], [], [], false⟩, ⟨57428, 57440, 6, [], [], [], false⟩, ⟨57441, 57454, 7, [], [], [], false⟩]
theorem roL_len : roL.length = 22 := rfl
/-- A byte of a text, or nought behind its end. -/
def byL (l : List UInt8) (a : Nat) : Int := ((l.getD a 0).toNat : Int)
def entK (r : Ro) (a : Nat) : En := ⟨r.kind, byL r.finals a, r.nums.getD a 0, byL r.chars a, r.keys⟩
def inRo (c : Int) (r : Ro) : Bool := decide (r.first ≤ c) && decide (c ≤ r.last)
theorem inRo_iff (c : Int) (r : Ro) : inRo c r = true ↔ r.first ≤ c ∧ c ≤ r.last := by simp [inRo]
theorem inRo_no {c : Int} {r : Ro} (h : ¬ (r.first ≤ c ∧ c ≤ r.last)) : inRo c r = false := by
  cases e : inRo c r with
  | false => rfl
  | true => exact absurd ((inRo_iff c r).1 e) h
def txK (c : Int) : Bool := !(decide (c < 32) || decide (127 ≤ c) && decide (c ≤ 159)) && !(decide (57344 ≤ c) && decide (c ≤ 63743)) && isPtK c
def lookP (c : Int) : En := match roL.find? (inRo c) with
  | some r => entK r (c - r.first).toNat
  | none => if txK c then ⟨1, 0, 0, 0, false⟩ else ⟨0, 0, 0, 0, false⟩
theorem ro_all : ∀ r ∈ roL, (r.first = r.last ∧ (r.first = 9 ∨ r.first = 13 ∨ r.first = 27 ∨ r.first = 127)) ∨ (57344 ≤ r.first ∧ r.last < 57455) := by decide +kernel
theorem ro_bd : ∀ r ∈ roL, (0 ≤ r.first ∧ r.first ≤ r.last ∧ r.last ≤ 60000) ∧ (r.finals.length ≤ 100 ∧ r.nums.length ≤ 100 ∧ r.chars.length ≤ 100) := by decide +kernel
theorem look_in : ∀ k : Fin 111, lookP (57344 + k.1) = lookE (57344 + k.1) := by decide +kernel
theorem look_nil {c : Int} (h : c < 57344 ∨ 57455 ≤ c) (h9 : c ≠ 9) (h13 : c ≠ 13) (h27 : c ≠ 27) (h127 : c ≠ 127) : roL.find? (inRo c) = none := by
  rw [List.find?_eq_none]
  intro r hr hi
  have h1 := (inRo_iff c r).1 hi
  rcases ro_all r hr with ⟨e, e2⟩ | ⟨e, e2⟩ <;> omega
theorem txK_rest {c : Int} (h : c < 57344 ∨ 57455 ≤ c) (h9 : c ≠ 9) (h13 : c ≠ 13) (h27 : c ≠ 27) (h127 : c ≠ 127) : restN c = if txK c then 1 else 0 := by
  unfold restN txK
  rw [if_neg (by omega), if_neg (by omega), if_neg (by omega)]
  cases e : isPtK c with
  | false => simp
  | true =>
    by_cases h1 : c < 32 ∨ 127 ≤ c ∧ c ≤ 159 ∨ 57344 ≤ c ∧ c ≤ 63743
    · rw [if_pos (.inr h1), if_neg]
      simp
      omega
    · rw [if_neg (by simp; omega), if_pos]
      simp
      omega
theorem lookP_eq (c : Int) : lookP c = lookE c := by
  by_cases h : c < 57344 ∨ 57455 ≤ c
  · by_cases h9 : c = 9
    · subst h9; decide +kernel
    by_cases h13 : c = 13
    · subst h13; decide +kernel
    by_cases h27 : c = 27
    · subst h27; decide +kernel
    by_cases h127 : c = 127
    · subst h127; decide +kernel
    unfold lookP
    rw [look_nil h h9 h13 h27 h127, look_out h, txK_rest h h9 h13 h27 h127]
    cases txK c <;> rfl
  · obtain ⟨k, rfl⟩ : ∃ k : Fin 111, c = 57344 + k.1 := ⟨⟨(c - 57344).toNat, by omega⟩, by simp; omega⟩
    exact look_in k

/-- The codes of a row, from its place a on. -/
def inRow (r : Ro) (a : Nat) : List (Int × En) := (List.range ((r.last - r.first + 1).toNat - a)).map fun j => (r.first + ((a + j : Nat) : Int), entK r (a + j))
theorem inRow_cons {r : Ro} {a : Nat} (h : r.first + (a : Int) ≤ r.last) : inRow r a = (r.first + (a : Int), entK r a) :: inRow r (a + 1) := by
  unfold inRow
  rw [show (r.last - r.first + 1).toNat - a = ((r.last - r.first + 1).toNat - (a + 1)) + 1 by omega, List.range_succ_eq_map, List.map_cons, List.map_map]
  congr 1
  apply List.map_congr_left
  intro j _
  simp only [Function.comp, Nat.succ_eq_add_one]
  rw [show a + (j + 1) = a + 1 + j by omega]
theorem inRow_nil {r : Ro} {a : Nat} (h : r.last < r.first + (a : Int)) : inRow r a = [] := by
  unfold inRow
  rw [show (r.last - r.first + 1).toNat - a = 0 by omega]
  rfl
def fromRo (rs : List Ro) : List (Int × En) := rs.flatMap fun r => inRow r 0
def codesL : List (Int × En) := fromRo roL
theorem from_drop {k : Nat} (h : k < roL.length) : fromRo (roL.drop k) = inRow roL[k] 0 ++ fromRo (roL.drop (k + 1)) := by
  rw [List.drop_eq_getElem_cons h]
  rfl
/-- The form that is looked for. -/
def formK (f n : Int) : En := if f = 126 then ⟨4, 0, n, 0, false⟩ else ⟨3, f, 0, 0, false⟩
def isFm (f n : Int) (x : Int × En) : Bool := decide (x.2 = formK f n)
def foundP (f n : Int) : Int × Bool := match codesL.find? (isFm f n) with
  | some x => (x.1, true)
  | none => (0, false)
theorem codes_look : ∀ x ∈ codesL, x.2 = lookE x.1 := by decide +kernel
theorem codes_has : ∀ k : Fin 55, ((lookE (57344 + k.1)).kind = 3 ∨ (lookE (57344 + k.1)).kind = 4) → ((57344 + (k.1 : Int), lookE (57344 + k.1)) ∈ codesL) := by decide +kernel
theorem kinds_zero : ∀ k : Fin 55, ((lookE (57344 + k.1)).kind = 3 → (lookE (57344 + k.1)).num = 0 ∧ (lookE (57344 + k.1)).char = 0) ∧ ((lookE (57344 + k.1)).kind = 4 → (lookE (57344 + k.1)).fin = 0 ∧ (lookE (57344 + k.1)).char = 0) := by decide +kernel
theorem find_num {f : Int} (h : f ≠ 126) (n m : Int) : findE f n = findE f m := by
  have hh : ∀ c, hasE f n c = hasE f m c := fun c => by
    unfold hasE
    rw [show (f == 126) = false from beq_false_of_ne h]
    simp
  unfold findE
  generalize 55 = k
  generalize (57344 : Int) = c
  induction k generalizing c with
  | zero => rfl
  | succ k ih =>
    unfold findK
    rw [hh, ih]
theorem foundP_eq (f n : Int) : foundP f n = findE f n := by
  unfold foundP
  cases e : codesL.find? (isFm f n) with
  | some x =>
    have h1 := codes_look x (List.mem_of_find?_eq_some e)
    have h2 : x.2 = formK f n := of_decide_eq_true (show isFm f n x = true from List.find?_some (p := isFm f n) e)
    obtain ⟨c, y⟩ := x
    simp only at h1 h2
    show (c, true) = _
    rw [h1] at h2
    unfold formK at h2
    by_cases hf : f = 126
    · rw [if_pos hf] at h2
      have := main_found (c := c) (by rw [h2]; exact .inr rfl) (by rw [h2])
      rw [h2] at this
      simp at this
      rw [hf, this]
    · rw [if_neg hf] at h2
      have := main_found (c := c) (by rw [h2]; exact .inl rfl) (by rw [h2])
      rw [h2] at this
      simp at this
      rw [find_num hf n 0, this]
  | none =>
    have hno := List.find?_eq_none.1 e
    cases h2 : (findE f n).2 with
    | false =>
      have := (find_none f n 55 57344 h2).1
      show ((0 : Int), false) = _
      rw [show findE f n = ((findE f n).1, (findE f n).2) from rfl, h2]
      rw [show (findE f n).1 = 0 from this]
    | true =>
      exfalso
      obtain ⟨g1, g2⟩ := found_right h2
      obtain ⟨_, r1, r2⟩ := find_hit f n 55 57344 h2
      have hb : 57344 ≤ (findE f n).1 ∧ (findE f n).1 < 57344 + 55 := ⟨r1, r2⟩
      obtain ⟨c, hc⟩ : ∃ c, (findE f n).1 = c := ⟨_, rfl⟩
      rw [hc] at g1 g2 hb
      obtain ⟨k, rfl⟩ : ∃ k : Fin 55, c = 57344 + k.1 := ⟨⟨(c - 57344).toNat, by omega⟩, by simp; omega⟩
      obtain ⟨z3, z4⟩ := kinds_zero k
      have hm := codes_has k
      obtain ⟨E, hE⟩ : ∃ E, lookE (57344 + k.1) = E := ⟨_, rfl⟩
      unfold hasE at g1
      rw [hE] at g1 g2 z3 z4 hm
      obtain ⟨K, F, N, C, B⟩ := E
      simp only at g1 g2 z3 z4 hm
      simp only [Bool.or_eq_true, Bool.and_eq_true, beq_iff_eq] at g1
      subst g2
      rcases g1 with ⟨a1, a2⟩ | ⟨⟨a1, a2⟩, a3⟩
      · subst a1 a2
        obtain ⟨rfl, rfl⟩ := z3 rfl
        have hq := hno _ (hm (.inl rfl))
        apply hq
        unfold isFm formK
        rw [if_neg (by
          intro hf
          subst hf
          have : ∀ k : Fin 55, (lookE (57344 + k.1)).kind = 3 → (lookE (57344 + k.1)).fin ≠ 126 := by decide +kernel
          exact this k (by rw [hE]) (by rw [hE]))]
        simp
      · subst a1 a2 a3
        obtain ⟨rfl, rfl⟩ := z4 rfl
        have hq := hno _ (hm (.inr rfl))
        apply hq
        unfold isFm formK
        simp
end Go.Proofs.YtmagokkegadmiaaGreatDoor
