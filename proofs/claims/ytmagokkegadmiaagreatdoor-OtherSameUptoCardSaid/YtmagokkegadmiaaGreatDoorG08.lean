/-
  Layer 6's mathematics: modes, set, reset and told, as the document has them. Layer 11's mathematics: a key's event in its old form. Layer 3, walked: the program's small functions: formOf, char, within, isNone.
-/
import Derived.Test.YtmagokkegadmiaaGreatDoorG01
import Derived.Test.YtmagokkegadmiaaGreatDoorG03
import Derived.Test.YtmagokkegadmiaaGreatDoorG05
import Derived.Test.YtmagokkegadmiaaGreatDoorG07
namespace Go.Proofs.YtmagokkegadmiaaGreatDoor

structure Mo where
  cursor : Bool
  keypad : Bool
  back : Bool
  focus : Bool
  paste : Bool
  lock : Bool
  line : Bool
  mouse : Int
  coding : Int
  other : Int
def mo0 : Mo := ⟨false, false, false, false, false, false, false, 0, 0, 0⟩
def sameM (a b : Mo) : Bool := a.cursor == b.cursor && (a.keypad == b.keypad && (a.back == b.back && (a.focus == b.focus && (a.paste == b.paste && (a.lock == b.lock && (a.line == b.line && (a.mouse == b.mouse && (a.coding == b.coding && a.other == b.other))))))))
theorem sameM_iff (a b : Mo) : sameM a b = true ↔ a = b := by
  obtain ⟨a0, a1, a2, a3, a4, a5, a6, a7, a8, a9⟩ := a
  obtain ⟨b0, b1, b2, b3, b4, b5, b6, b7, b8, b9⟩ := b
  simp only [sameM, Bool.and_eq_true, beq_iff_eq, Mo.mk.injEq]
theorem sameM_self (a : Mo) : sameM a a = true := (sameM_iff a a).2 rfl
theorem sameM_no {a b : Mo} (h : a ≠ b) : sameM a b = false := by
  cases hs : sameM a b with
  | false => rfl
  | true => exact absurd ((sameM_iff a b).1 hs) h
def mouseN (n : Int) : Bool := decide (n = 9 ∨ n = 1000 ∨ n = 1002 ∨ n = 1003)
def codingN (n : Int) : Bool := decide (n = 1005 ∨ n = 1006 ∨ n = 1015)
def oneM (was n : Int) (on : Bool) : Int := if on = true then n else if was = n then 0 else was
def plainM (m : Mo) (n : Int) (on : Bool) : Mo × Bool := if n = 2 then ({ m with lock := on }, true) else if n = 20 then ({ m with line := on }, true) else (m, false)
def setM (m : Mo) (p : Bool) (n : Int) (on : Bool) : Mo × Bool :=
  if p = false then plainM m n on
  else if n = 1 then ({ m with cursor := on }, true)
  else if n = 66 then ({ m with keypad := on }, true)
  else if n = 67 then ({ m with back := on }, true)
  else if n = 1004 then ({ m with focus := on }, true)
  else if n = 2004 then ({ m with paste := on }, true)
  else if mouseN n = true then ({ m with mouse := oneM m.mouse n on }, true)
  else if codingN n = true then ({ m with coding := oneM m.coding n on }, true)
  else (m, false)
def fixedM (p : Bool) (n : Int) : Int := if p = true ∧ (n = 7 ∨ n = 25) then 3 else if p = false ∧ (n = 4 ∨ n = 12) then 4 else 0
def getM (m : Mo) (p : Bool) (n : Int) : Int := if (setM m p n true).2 = true then (if sameM (setM m p n true).1 m = true then 1 else 2) else fixedM p n
def mayM (m : Mo) : Bool := decide (m.mouse = 0 ∨ mouseN m.mouse = true) && (decide (m.coding = 0 ∨ codingN m.coding = true) && (decide (0 ≤ m.other) && decide (m.other ≤ 2)))
def ownM : List Int := [1, 9, 66, 67, 1000, 1002, 1003, 1004, 1005, 1006, 1015, 2004]

theorem mouseN_iff (n : Int) : mouseN n = true ↔ n = 9 ∨ n = 1000 ∨ n = 1002 ∨ n = 1003 := by simp [mouseN]
theorem codingN_iff (n : Int) : codingN n = true ↔ n = 1005 ∨ n = 1006 ∨ n = 1015 := by simp [codingN]
/-- Whether it may be set: by its number alone. -/
def canM (p : Bool) (n : Int) : Bool := if p = false then decide (n = 2 ∨ n = 20) else decide (n = 1 ∨ n = 66 ∨ n = 67 ∨ n = 1004 ∨ n = 2004) || (mouseN n || codingN n)
theorem set_can (m : Mo) (p : Bool) (n : Int) (on : Bool) : (setM m p n on).2 = canM p n := by
  unfold setM canM plainM
  by_cases hp : p = false
  · rw [if_pos hp, if_pos hp]
    by_cases h1 : n = 2
    · simp [h1]
    · by_cases h2 : n = 20
      · simp [h2]
      · simp [h1, h2]
  · rw [if_neg hp, if_neg hp]
    by_cases h1 : n = 1
    · simp [h1]
    by_cases h2 : n = 66
    · simp [h2]
    by_cases h3 : n = 67
    · simp [h3]
    by_cases h4 : n = 1004
    · simp [h4]
    by_cases h5 : n = 2004
    · simp [h5]
    simp only [h1, h2, h3, h4, h5, if_false]
    by_cases h6 : mouseN n = true
    · simp [h6]
    have h6' : mouseN n = false := by simpa using h6
    by_cases h7 : codingN n = true
    · simp [h6', h7]
    · simp [h6', h7]
theorem set_no {m : Mo} {p : Bool} {n : Int} {on : Bool} (h : canM p n = false) : setM m p n on = (m, false) := by
  have h2 := set_can m p n on
  rw [h] at h2
  unfold setM plainM at *
  (repeat' split at h2) <;> simp_all
theorem get_no {m : Mo} {p : Bool} {n : Int} (h : canM p n = false) : getM m p n = fixedM p n := by
  unfold getM
  rw [set_no h]
  simp
theorem fixed_rng (p : Bool) (n : Int) : fixedM p n = 0 ∨ fixedM p n = 3 ∨ fixedM p n = 4 := by
  unfold fixedM
  (repeat' split) <;> simp
theorem get_rng (m : Mo) (p : Bool) (n : Int) : 0 ≤ getM m p n ∧ getM m p n ≤ 4 := by
  unfold getM fixedM
  (repeat' split) <;> simp
/-- How a mode is, field by field. -/
def isM (m : Mo) (p : Bool) (n : Int) : Bool :=
  if p = false then (if n = 2 then m.lock else m.line)
  else if n = 1 then m.cursor else if n = 66 then m.keypad else if n = 67 then m.back else if n = 1004 then m.focus else if n = 2004 then m.paste
  else if mouseN n = true then decide (m.mouse = n) else decide (m.coding = n)
theorem get_is {m : Mo} {p : Bool} {n : Int} (h : canM p n = true) : getM m p n = if isM m p n = true then 1 else 2 := by
  have hs : sameM (setM m p n true).1 m = isM m p n := by
    rw [Bool.eq_iff_iff, sameM_iff]
    obtain ⟨a0, a1, a2, a3, a4, a5, a6, a7, a8, a9⟩ := m
    unfold setM isM plainM canM oneM at *
    by_cases hp : p = false
    · rw [if_pos hp] at h ⊢
      rw [if_pos hp]
      by_cases h1 : n = 2
      · simp [h1, eq_comm]
      · have h2 : n = 20 := by simpa [h1] using h
        subst h2
        simp [eq_comm]
    · rw [if_neg hp] at h ⊢
      rw [if_neg hp]
      by_cases h1 : n = 1
      · simp [h1, eq_comm]
      by_cases h2 : n = 66
      · simp [h2, eq_comm]
      by_cases h3 : n = 67
      · simp [h3, eq_comm]
      by_cases h4 : n = 1004
      · simp [h4, eq_comm]
      by_cases h5 : n = 2004
      · simp [h5, eq_comm]
      simp only [h1, h2, h3, h4, h5, if_false]
      by_cases h6 : mouseN n = true
      · simp [h6, eq_comm]
      · have h7 : codingN n = true := by simpa [h1, h2, h3, h4, h5, h6] using h
        simp [h6, h7, eq_comm]
  unfold getM
  rw [set_can, h, if_pos rfl, hs]
/-- What is set is told so. -/
theorem is_set {m : Mo} {p : Bool} {n : Int} (h : canM p n = true) (on : Bool) (h0 : n ≠ 0) : isM (setM m p n on).1 p n = on := by
  unfold setM isM plainM canM oneM at *
  by_cases hp : p = false
  · rw [if_pos hp] at h ⊢
    rw [if_pos hp]
    by_cases h1 : n = 2
    · simp [h1]
    · have h2 : n = 20 := by simpa [h1] using h
      subst h2
      simp
  · rw [if_neg hp] at h ⊢
    rw [if_neg hp]
    by_cases h1 : n = 1
    · simp [h1]
    by_cases h2 : n = 66
    · simp [h2]
    by_cases h3 : n = 67
    · simp [h3]
    by_cases h4 : n = 1004
    · simp [h4]
    by_cases h5 : n = 2004
    · simp [h5]
    simp only [h1, h2, h3, h4, h5, if_false]
    by_cases h6 : mouseN n = true
    · simp only [h6, if_true]
      cases on with
      | true => simp
      | false =>
        by_cases h8 : m.mouse = n
        · simp [h8, Ne.symm h0]
        · simp [h8]
    · have h7 : codingN n = true := by simpa [h1, h2, h3, h4, h5, h6] using h
      simp only [h6, h7, if_true, if_false, Bool.false_eq_true]
      cases on with
      | true => simp
      | false =>
        by_cases h8 : m.coding = n
        · simp [h8, Ne.symm h0]
        · simp [h8]
theorem can_ne {p : Bool} {n : Int} (h : canM p n = true) : n ≠ 0 := by
  rintro rfl
  revert h
  cases p <;> decide
theorem get_set {m : Mo} {p : Bool} {n : Int} (h : canM p n = true) (on : Bool) : getM (setM m p n on).1 p n = if on = true then 1 else 2 := by
  rw [get_is h, is_set h on (can_ne h)]
/-- Set twice is as once. -/
theorem set_twice (m : Mo) (p : Bool) (n : Int) (on : Bool) : setM (setM m p n on).1 p n on = ((setM m p n on).1, canM p n) := by
  by_cases h : canM p n = true
  · have h2 := set_can (setM m p n on).1 p n on
    refine Prod.ext ?_ h2
    clear h2
    unfold setM plainM canM oneM at *
    by_cases hp : p = false
    · simp only [if_pos hp] at h ⊢
      by_cases h1 : n = 2
      · simp [h1]
      · have h2 : n = 20 := by simpa [h1] using h
        subst h2
        simp
    · simp only [if_neg hp] at h ⊢
      by_cases h1 : n = 1
      · simp [h1]
      by_cases h2 : n = 66
      · simp [h2]
      by_cases h3 : n = 67
      · simp [h3]
      by_cases h4 : n = 1004
      · simp [h4]
      by_cases h5 : n = 2004
      · simp [h5]
      simp only [h1, h2, h3, h4, h5, if_false]
      by_cases h6 : mouseN n = true
      · simp only [h6, if_true]
        cases on with
        | true => simp
        | false =>
          by_cases h8 : m.mouse = n
          · simp [h8]
          · simp [h8]
      · have h7 : codingN n = true := by simpa [h1, h2, h3, h4, h5, h6] using h
        simp only [h6, h7, if_true, if_false, Bool.false_eq_true]
        cases on with
        | true => simp
        | false =>
          by_cases h8 : m.coding = n
          · simp [h8]
          · simp [h8]
  · have h' : canM p n = false := by simpa using h
    rw [set_no h', set_no h', h']
theorem may_set (m : Mo) (p : Bool) (n : Int) (on : Bool) (h : mayM m = true) : mayM (setM m p n on).1 = true := by
  unfold mayM at *
  simp only [Bool.and_eq_true, decide_eq_true_eq] at h
  obtain ⟨h1, h2, h3, h4⟩ := h
  have key : ((setM m p n on).1.mouse = 0 ∨ mouseN (setM m p n on).1.mouse = true) ∧ ((setM m p n on).1.coding = 0 ∨ codingN (setM m p n on).1.coding = true) ∧ (setM m p n on).1.other = m.other := by
    unfold setM plainM oneM
    (repeat' split) <;> first
      | exact ⟨h1, h2, rfl⟩
      | exact ⟨.inr (by assumption), h2, rfl⟩
      | exact ⟨.inl rfl, h2, rfl⟩
      | exact ⟨h1, .inr (by assumption), rfl⟩
      | exact ⟨h1, .inl rfl, rfl⟩
  obtain ⟨k1, k2, k3⟩ := key
  simp only [Bool.and_eq_true, decide_eq_true_eq]
  rw [k3]
  exact ⟨k1, k2, h3, h4⟩
end Go.Proofs.YtmagokkegadmiaaGreatDoor
namespace Go.Proofs.YtmagokkegadmiaaGreatDoor

/-- A sequence of numbers, and its bytes (none, if it may not be). -/
def sqN (kind f : Int) (l : List Int) : Sq := ⟨kind, 0, l.map fun n => [n], [], byt f, []⟩
def seqB (kind f : Int) (l : List Int) : List UInt8 := if mayS (sqN kind f l) = 0 then putS (sqN kind f l) else []
def shownC (code shift : Int) (s1 : Bool) : Int := if s1 = false then code else if shift ≠ 0 then shift else if 97 ≤ code ∧ code ≤ 122 then code - 32 else code
theorem shownK_eq (k : Ky) : shownK k = shownC k.code k.shift (hasN k.mods 1) := rfl
def shownG (code shift : Int) (s1 c4 : Bool) (text : List UInt8) : List UInt8 :=
  if c4 = false ∧ text ≠ [] then text else if (c4 && (foldN (shownC code shift s1)).2) = true then [byt (foldN (shownC code shift s1)).1] else putL (shownC code shift s1)
def plainG (m : Mo) (code : Int) (s1 c4 : Bool) : List UInt8 :=
  if code = 9 then (if s1 = true then seqB 1 90 [] else [9]) else if code = 13 then (if m.line = true then [13, 10] else [13]) else if code = 27 then [27] else if (m.back != c4) = true then [8] else [127]
def aheadG (a2 : Bool) (l : List UInt8) : List UInt8 := if a2 = true then 27 :: l else l
def funcG (m : Mo) (e : En) (o : Int) : List UInt8 :=
  if e.kind = 4 then (if o = 0 then seqB 1 126 [e.num] else seqB 1 126 [e.num, 1 + o])
  else if 0 < o then seqB 1 e.fin [1, 1 + o] else if (m.cursor || decide (80 ≤ e.fin)) = true then seqB 2 e.fin [] else seqB 1 e.fin []
def legE (m : Mo) (e : En) (code shift o : Int) (s1 a2 c4 : Bool) (text : List UInt8) : List UInt8 :=
  if e.kind = 1 then aheadG a2 (shownG code shift s1 c4 text) else if e.kind = 2 then aheadG a2 (plainG m code s1 c4) else if e.kind = 3 ∨ e.kind = 4 then funcG m e o else []
def legG (m : Mo) (code shift o : Int) (s1 a2 c4 : Bool) (text : List UInt8) : List UInt8 :=
  if (lookE code).kind = 5 then
    (if m.keypad = true ∧ o = 0 then seqB 2 (lookE code).fin [] else legE m (lookE (lookE code).char) (lookE code).char 0 o s1 a2 c4 text)
  else legE m (lookE code) code shift o s1 a2 c4 text
def legL (m : Mo) (k : Ky) : List UInt8 := if mayK k = false ∨ k.typ = 3 then [] else legG m k.code k.shift (oldN k.mods) (hasN k.mods 1) (hasN k.mods 2) (hasN k.mods 4) k.text.data.toList
theorem leg_no {m : Mo} {k : Ky} (h : mayK k = false ∨ k.typ = 3) : legL m k = [] := if_pos h
theorem leg_yes {m : Mo} {k : Ky} (h : mayK k = true) (h3 : k.typ ≠ 3) : legL m k = legG m k.code k.shift (oldN k.mods) (hasN k.mods 1) (hasN k.mods 2) (hasN k.mods 4) k.text.data.toList :=
  if_neg (by rw [h]; simp [h3])

theorem has_at {n : Int} (h : 0 ≤ n) (b : Int) : hasN n b = (n / b % 2 == 1) := by unfold hasN; rw [Int.max_eq_left h]
theorem has_8 {n k : Int} (h : 0 ≤ n) (h2 : 0 ≤ k) : hasN (n % 8 + 8 * k) 1 = hasN n 1 ∧ hasN (n % 8 + 8 * k) 2 = hasN n 2 ∧ hasN (n % 8 + 8 * k) 4 = hasN n 4 ∧ oldN (n % 8 + 8 * k) = oldN n := by
  rw [has_at h, has_at h, has_at h, has_at (by omega), has_at (by omega), has_at (by omega), old_at h, old_at (by omega)]
  refine ⟨?_, ?_, ?_, by omega⟩
  · rw [show (n % 8 + 8 * k) / 1 % 2 = n / 1 % 2 by omega]
  · rw [show (n % 8 + 8 * k) / 2 % 2 = n / 2 % 2 by omega]
  · rw [show (n % 8 + 8 * k) / 4 % 2 = n / 4 % 2 by omega]
theorem may_typ {k : Ky} (h : mayK k = true) {t : Int} (h1 : 1 ≤ t) (h2 : t ≤ 3) : mayK { k with typ := t } = true := by
  obtain ⟨⟨a, b, c, _, _⟩, d⟩ := (may_parts k).1 h
  exact (may_parts _).2 ⟨⟨a, b, c, h1, h2⟩, d⟩
theorem may_mods {k : Ky} (h : mayK k = true) {n : Int} (h1 : 0 ≤ n) (h2 : n ≤ 255) : mayK { k with mods := n } = true := by
  obtain ⟨⟨a, _, _, b, c⟩, d⟩ := (may_parts k).1 h
  exact (may_parts _).2 ⟨⟨a, h1, h2, b, c⟩, d⟩
theorem may_base {k : Ky} (h : mayK k = true) : mayK { k with base := 0 } = true := by
  obtain ⟨a, b, c, d⟩ := (may_parts k).1 h
  exact (may_parts _).2 ⟨a, b, .inl rfl, d⟩
/-- A repeat is as a press. -/
theorem leg_repeat (m : Mo) {k : Ky} (h : mayK k = true) : legL m { k with typ := 2 } = legL m { k with typ := 1 } := by
  rw [leg_yes (may_typ h (t := 2) (by decide) (by decide)) (by simp), leg_yes (may_typ h (t := 1) (by decide) (by decide)) (by simp)]
/-- Other modifiers, and a base, change nothing. -/
theorem leg_other (m : Mo) {k : Ky} (h : mayK k = true) {j : Int} (h0 : 0 ≤ j) (h1 : j < 32) : legL m { k with typ := 2, mods := k.mods % 8 + 8 * j, base := 0 } = legL m { k with typ := 1 } := by
  obtain ⟨⟨_, a, b, _, _⟩, _⟩ := (may_parts k).1 h
  obtain ⟨e1, e2, e3, e4⟩ := has_8 a h0
  rw [leg_yes (may_base (may_mods (may_typ h (t := 2) (by decide) (by decide)) (n := k.mods % 8 + 8 * j) (by omega) (by omega))) (by simp), leg_yes (may_typ h (t := 1) (by decide) (by decide)) (by simp)]
  simp only [e1, e2, e3, e4]
end Go.Proofs.YtmagokkegadmiaaGreatDoor
namespace Go.Proofs.YtmagokkegadmiaaGreatDoor
open Go.RowKit

/-- A form as a value. -/
def fmV (f : Fm) : Value := .agg #[.string ⟨f.letter.toArray⟩, .bool f.body, .bool f.inter, .int .u8 (f.first.toNat : Int), .string ⟨f.en.toArray⟩]
def kindB (k : Int) : Bool := decide (k = 1 ∨ k = 2 ∨ k = 3 ∨ k = 4 ∨ k = 5)
theorem fm_0 {k : Int} (h1 : k ≠ 1) (h2 : k ≠ 2) (h3 : k ≠ 3) (h4 : k ≠ 4) (h5 : k ≠ 5) : formF k = ⟨[], false, false, 0, []⟩ := by
  unfold formF; rw [if_neg h1, if_neg h2, if_neg h3, if_neg h4, if_neg h5]

set_option maxRecDepth 100000 in
set_option maxHeartbeats 2000000 in
theorem formOf_any (k : Int) (w : World) :
    Calls Tryz.prog 41 #[.int .i64 k] w fun e w' => e = .returned (.tuple #[fmV (formF k), .bool (kindB k)]) ∧ Below w.heap.size w w' := by
  by_cases h1 : k = 1
  · subst h1
    go_enter Tryz.func41, Tryz.ntmps41
    go_wp2
    exact bodyPost_ret (v := .tuple #[fmV (formF 1), .bool (kindB 1)]) (by simp [results, Tryz.results41, go_sem, fmV, formF, kindB]) rfl ⟨rfl, (Below.refl _ _).alloc (Nat.le_refl _) _⟩
  · by_cases h2 : k = 2
    · subst h2
      go_enter Tryz.func41, Tryz.ntmps41
      go_wp2
      exact bodyPost_ret (v := .tuple #[fmV (formF 2), .bool (kindB 2)]) (by simp [results, Tryz.results41, go_sem, fmV, formF, kindB]) rfl ⟨rfl, (Below.refl _ _).alloc (Nat.le_refl _) _⟩
    · by_cases h3 : k = 3
      · subst h3
        go_enter Tryz.func41, Tryz.ntmps41
        go_wp2
        exact bodyPost_ret (v := .tuple #[fmV (formF 3), .bool (kindB 3)]) (by simp [results, Tryz.results41, go_sem, fmV, formF, kindB]) rfl ⟨rfl, (Below.refl _ _).alloc (Nat.le_refl _) _⟩
      · by_cases h4 : k = 4
        · subst h4
          go_enter Tryz.func41, Tryz.ntmps41
          go_wp2
          exact bodyPost_ret (v := .tuple #[fmV (formF 4), .bool (kindB 4)]) (by simp [results, Tryz.results41, go_sem, fmV, formF, kindB]) rfl ⟨rfl, (Below.refl _ _).alloc (Nat.le_refl _) _⟩
        · by_cases h5 : k = 5
          · subst h5
            go_enter Tryz.func41, Tryz.ntmps41
            go_wp2
            exact bodyPost_ret (v := .tuple #[fmV (formF 5), .bool (kindB 5)]) (by simp [results, Tryz.results41, go_sem, fmV, formF, kindB]) rfl ⟨rfl, (Below.refl _ _).alloc (Nat.le_refl _) _⟩
          · have E := Lib.hid (fm_0 h1 h2 h3 h4 h5)
            have EB := Lib.hid (show kindB k = false by unfold kindB; exact decide_eq_false (by omega))
            have t1 : (k == 1) = false := beq_false_of_ne h1
            have t2 : (k == 2) = false := beq_false_of_ne h2
            have t3 : (k == 3) = false := beq_false_of_ne h3
            have t4 : (k == 4) = false := beq_false_of_ne h4
            have t5 : (k == 5) = false := beq_false_of_ne h5
            clear h1 h2 h3 h4 h5
            go_enter Tryz.func41, Tryz.ntmps41
            go_wp2
            rw [E.out, EB.out]
            exact bodyPost_ret (v := .tuple #[fmV ⟨[], false, false, 0, []⟩, .bool false]) (by simp [results, Tryz.results41, go_sem, fmV]) rfl ⟨rfl, (Below.refl _ _).alloc (Nat.le_refl _) _⟩

theorem char_str (c : UInt8) (h : c.toNat < 128) : Utf8.encode (c.toNat : Int) = ⟨[c].toArray⟩ := by
  have v : Utf8.valid (c.toNat : Int) = true := by simp [Utf8.valid]; omega
  simp [Utf8.encode, v, h]
set_option maxRecDepth 100000 in
set_option maxHeartbeats 2000000 in
theorem pwithin_str (s : ByteArray) (a b : Nat) (q : Bool) (w : World) (hl : s.size ≤ 4294967296) (hq : s.data.toList.all (btw a b) = q) :
    Calls Tryz.prog 70 #[.string s, .int .u8 a, .int .u8 b] w fun e w' => e = .returned (.bool q) ∧ w = w' := by
  have HQ := Lib.hid hq
  clear hq
  go_enter Tryz.func70, Tryz.ntmps70
  go_wp2
  go_loop [10] (fun i => ∃ k : Nat, k ≤ s.size ∧ i = .int .i64 k ∧ (s.data.toList.take k).all (btw a b) = true) (fun i => s.size - (intOf i).toNat)
  case atStart => exact ⟨0, Nat.zero_le _, rfl, rfl⟩
  case round =>
    obtain ⟨k, hk, rfl, hall⟩ := hrel
    have HA := Lib.hid hall
    clear hall
    by_cases hlt : k < s.size
    · have hlt2 : k < s.data.toList.length := by simpa using hlt
      have hby := byte_at s k hlt
      have HB := Lib.hid hby
      have hd := (s[k]'hlt).toNat_lt
      have k0 : (0 : Int) ≤ (k : Int) := by omega
      have k1 : (k : Int) < (s.size : Int) := by omega
      clear hby
      by_cases h1 : (s[k]'hlt).toNat < a
      · have E := Lib.hid (HQ.out.symm.trans (all_no (p := btw a b) hlt2 ((btw_no a b _).2 (by rw [← HB.out]; omega))))
        go_wp2
        go_ret
        exact ⟨ret_b E.out.symm, rfl⟩
      · by_cases h2 : b < (s[k]'hlt).toNat
        · have E := Lib.hid (HQ.out.symm.trans (all_no (p := btw a b) hlt2 ((btw_no a b _).2 (by rw [← HB.out]; omega))))
          go_wp2
          go_ret
          exact ⟨ret_b E.out.symm, rfl⟩
        · have E := Lib.hid (show (s.data.toList.take (k + 1)).all (btw a b) = true by rw [List.take_succ_eq_append_getElem hlt2, List.all_append, HA.out, ← HB.out]; simp [(btw_iff a b _).2 ⟨Nat.le_of_not_lt h1, Nat.le_of_not_lt h2⟩])
          go_wp2
          go_round
          case rel => exact ⟨k + 1, by omega, by go_num, E.out⟩
          case measure => simp [intOf]; omega
    · have E := Lib.hid (show q = true by have := HA.out; rw [List.take_of_length_le (by simp; omega)] at this; exact HQ.out.symm.trans this)
      go_wp2
      go_ret
      exact ⟨ret_b E.out.symm, rfl⟩
theorem pwithin_any (l : List UInt8) (a b : Nat) (q : Bool) (w : World) (hl : l.length ≤ 4294967296) (hq : l.all (btw a b) = q) :
    Calls Tryz.prog 70 #[.string ⟨l.toArray⟩, .int .u8 a, .int .u8 b] w fun e w' => e = .returned (.bool q) ∧ w = w' := by
  exact pwithin_str ⟨l.toArray⟩ a b q w hl hq

end Go.Proofs.YtmagokkegadmiaaGreatDoor
