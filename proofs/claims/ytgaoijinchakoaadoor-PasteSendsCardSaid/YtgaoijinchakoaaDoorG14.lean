/-
  A region that draws its order, with one new block that is stored into (and one slice that is handed to a call): what each operation keeps. A region that draws its order, in which an empty row is made, and two slices are appended, one behind the other (append(append([]T{}, a...), b...)). What All answers.
-/
import Derived.Test.YtgaoijinchakoaaDoorG04
import Derived.Test.YtgaoijinchakoaaDoorG05
import Derived.Test.YtgaoijinchakoaaDoorG11
import Derived.Test.YtgaoijinchakoaaDoorG13
namespace Go.Proofs.YtgaoijinchakoaaDoor
open Go.RowKit
section
section
variable {P : Program} {ops : Array Oper} {md : Region.Mode}
theorem getD_up {l : Array Bool} {i j : Nat} (h : l.getD j false = true) : (l.setIfInBounds i true).getD j false = true := by
 by_cases hij : i = j
 ·subst hij
  have hlt : i < l.size := by
   rcases Nat.lt_or_ge i l.size with h1 | h1
   ·exact h1
   ·rw [Array.getD_eq_getD_getElem?, Array.getElem?_eq_none h1] at h
    cases h
  rw [Array.getD_eq_getD_getElem?, Array.getElem?_setIfInBounds_self_of_lt hlt]
  rfl
 ·rw [getD_set_ne false hij]
  exact h
theorem getD_dn {l : Array Bool} {i j : Nat} (h : (l.setIfInBounds i true).getD j false = false) : l.getD j false = false := by
 cases hh : l.getD j false with
 | false => rfl
 | true =>
   rw [getD_up hh] at h
   cases h
structure SM (w1 : World) (ia iz : Nat) (d : Tmp) (ty : TypeId) (z cs : Array Value) (ih ic : Nat) (dh : Tmp) (n : Nat) (xs : List Value) (l : Array Bool) (g : Tmp → Value) (w : World) : Prop where
 below : Below w1.heap.size w1 w
 made : l.getD ia false = true → ∃ b, g d = .pointer (some ⟨b, 0, none⟩) ∧ w1.heap.size ≤ b ∧ Blk w b ty (if l.getD iz false = true then cs else z)
 hand : l.getD ih false = true → l.getD ic false = false → ∃ A c, g dh = .slice A n c ∧ Rd w A xs
 turn : l.getD iz false = true → l.getD ia false = true
variable {w1 : World} {ia iz : Nat} {d : Tmp} {ty : TypeId} {z cs : Array Value} {ih ic : Nat} {dh : Tmp} {n : Nat} {xs : List Value} {l : Array Bool} {g : Tmp → Value} {w w' : World} {aF : (Tmp → Value) → Act} {i : Nat} {o : Oper}
theorem SM.quiet (h : SM w1 ia iz d ty z cs ih ic dh n xs l g w) (hb : Below w.heap.size w w') (hia : i ≠ ia) (hiz : i ≠ iz) (hih : i ≠ ih) : SM w1 ia iz d ty z cs ih ic dh n xs (l.setIfInBounds i true) g w' := by
 refine ⟨h.below.trans (hb.mono h.below.size), fun ha => ?_, fun ha hc => ?_, fun hz => ?_⟩
 ·rw [getD_set_ne false hia] at ha
  obtain ⟨b, h1, h2, h3⟩ := h.made ha
  refine ⟨b, h1, h2, ?_⟩
  rw [getD_set_ne false hiz]
  exact h3.below hb h3.lt
 ·rw [getD_set_ne false hih] at ha
  obtain ⟨A, c, h1, h2⟩ := h.hand ha (getD_dn hc)
  exact ⟨A, c, h1, h2.below hb⟩
 ·rw [getD_set_ne false hiz] at hz
  exact getD_up (h.turn hz)
theorem no_laid (k j : Nat) : (Array.replicate k false).getD j false = false := by
 rw [Array.getD_eq_getD_getElem?, Array.getElem?_replicate]
 split <;> rfl
theorem SM.zero (w1 : World) (hb : Below w1.heap.size w1 w) (k : Nat) : SM w1 ia iz d ty z cs ih ic dh n xs (Array.replicate k false) g w :=
 ⟨hb, (fun h => by rw [no_laid] at h; cases h), (fun h => by rw [no_laid] at h; cases h), (fun h => by rw [no_laid] at h; cases h)⟩
def GoesL (P : Program) (md : Region.Mode) (ops : Array Oper) (aF : (Tmp → Value) → Act) (S : Array Bool → (Tmp → Value) → World → Prop) : Nat → List Oper → Prop
 | _, [] => True
 | i, o :: os => GoesM P md ops aF S i o ∧ GoesL P md ops aF S (i + 1) os
theorem goes_cons {S : Array Bool → (Tmp → Value) → World → Prop} {os : List Oper} (h : GoesM P md ops aF S i o) (hs : GoesL P md ops aF S (i + 1) os) : GoesL P md ops aF S i (o :: os) := ⟨h, hs⟩
theorem goes_nil {S : Array Bool → (Tmp → Value) → World → Prop} : GoesL P md ops aF S i [] := trivial
theorem goesL_get {S : Array Bool → (Tmp → Value) → World → Prop} : ∀ (os : List Oper) (k : Nat), GoesL P md ops aF S k os → ∀ (j : Nat) (o : Oper), os[j]? = some o → GoesM P md ops aF S (k + j) o
 | [], _, _, _, _, h => by simp at h
 | x :: os, k, h, 0, o, ho => by
   simp at ho
   subst ho
   exact h.1
 | x :: os, k, h, j + 1, o, ho => by
   have := goesL_get os (k + 1) h.2 j o (by simpa using ho)
   rwa [show k + 1 + j = k + (j + 1) by omega] at this
theorem goesAllM_of_list {S : Array Bool → (Tmp → Value) → World → Prop} (h : GoesL P md ops aF S 0 ops.toList) : GoesAllM P md ops aF S := fun i o ho => by
 have := goesL_get ops.toList 0 h i o (by rw [← ho, Array.getElem?_toList])
 rwa [Nat.zero_add] at this
end
end
section
section
variable {P : Program} {ops : Array Oper} {md : Region.Mode}
structure SJ (w1 : World) (i0 i1 i2 i3 : Nat) (d0 d1 d2 d3 : Tmp) (te : TypeId) (n1 n2 : Nat) (x1 x2 : List Value) (l : Array Bool) (g : Tmp → Value) (w : World) : Prop where
 below : Below w1.heap.size w1 w
 s0 : l.getD i0 false = true → l.getD i1 false = false → Own w w1.heap.size te 1 (g d0) 0 []
 s1 : l.getD i1 false = true → l.getD i2 false = false → Own w w1.heap.size te 1 (g d1) n1 x1
 s2 : l.getD i2 false = true → Own w w1.heap.size te 1 (g d2) (n1 + n2) (x1 ++ x2)
 s3 : l.getD i3 false = true → g d3 = g d2
 t1 : l.getD i1 false = true → l.getD i0 false = true
 t2 : l.getD i2 false = true → l.getD i1 false = true
 t3 : l.getD i3 false = true → l.getD i2 false = true
variable {w1 : World} {i0 i1 i2 i3 : Nat} {d0 d1 d2 d3 : Tmp} {te : TypeId} {n1 n2 : Nat} {x1 x2 : List Value} {l : Array Bool} {g : Tmp → Value} {w : World} {aF : (Tmp → Value) → Act} {i : Nat} {o : Oper}
theorem SJ.zero (w1 : World) (hb : Below w1.heap.size w1 w) (k : Nat) : SJ w1 i0 i1 i2 i3 d0 d1 d2 d3 te n1 n2 x1 x2 (Array.replicate k false) g w :=
 ⟨hb, (fun h => by rw [no_laid] at h; cases h), (fun h => by rw [no_laid] at h; cases h), (fun h => by rw [no_laid] at h; cases h), (fun h => by rw [no_laid] at h; cases h), (fun h => by rw [no_laid] at h; cases h), (fun h => by rw [no_laid] at h; cases h), (fun h => by rw [no_laid] at h; cases h)⟩
theorem SJ.quiet (h : SJ w1 i0 i1 i2 i3 d0 d1 d2 d3 te n1 n2 x1 x2 l g w) (h0 : i ≠ i0) (h1 : i ≠ i1) (h2 : i ≠ i2) (h3 : i ≠ i3) : SJ w1 i0 i1 i2 i3 d0 d1 d2 d3 te n1 n2 x1 x2 (l.setIfInBounds i true) g w := by
 refine ⟨h.below, ?_, ?_, ?_, ?_, ?_, ?_, ?_⟩ <;> simp only [getD_set_ne false h0, getD_set_ne false h1, getD_set_ne false h2, getD_set_ne false h3]
 ·exact h.s0
 ·exact h.s1
 ·exact h.s2
 ·exact h.s3
 ·exact h.t1
 ·exact h.t2
 ·exact h.t3
end
end
theorem Tryd.intinfo : (Tryd.prog.info? 3).map (fun i => (i.zero, i.size, i.bytes)) = some (some (.int .i64 0), 1, 8) := by kernel_rfl
def Al (o : Option (List Int)) (w : World) (e : Ending) (w' : World) : Prop :=
 match o with
 | some k => ∃ A c, e = .returned (.tuple #[.slice A k.length c, .bool true]) ∧ Rd w' A (is_ k) ∧ Below w.heap.size w w'
 | none => e = .returned (.tuple #[.slice none 0 0, .bool false]) ∧ Below w.heap.size w w'
theorem Al.yes {o : Option (List Int)} {k : List Int} {n : Nat} (h : o = some k) (hn : k.length = n) {w w' : World} {A : Option Addr} {c : Nat} (hr : Rd w' A (is_ k)) (hb : Below w.heap.size w w') : Al o w (.returned (.tuple #[.slice A n c, .bool true])) w' := by
 subst h hn
 exact ⟨A, c, rfl, hr, hb⟩
theorem Al.no {o : Option (List Int)} (h : o = none) {w w' : World} (hb : Below w.heap.size w w') : Al o w (.returned (.tuple #[.slice none 0 0, .bool false])) w' := by
 subst h
 exact ⟨rfl, hb⟩
def AlO (o : Option (List Int)) (w : World) (e : Ending) (w' : World) : Prop :=
 match o with
 | some k => ∃ v, e = .returned (.tuple #[v, .bool true]) ∧ Own w' w.heap.size 3 1 v k.length (is_ k) ∧ Below w.heap.size w w'
 | none => e = .returned (.tuple #[.slice none 0 0, .bool false]) ∧ Below w.heap.size w w'
theorem AlO.yes {o : Option (List Int)} {k : List Int} (h : o = some k) {w w' : World} {v : Value} (hr : Own w' w.heap.size 3 1 v k.length (is_ k)) (hb : Below w.heap.size w w') : AlO o w (.returned (.tuple #[v, .bool true])) w' := by
 subst h
 exact ⟨v, rfl, hr, hb⟩
theorem AlO.no {o : Option (List Int)} (h : o = none) {w w' : World} (hb : Below w.heap.size w w') : AlO o w (.returned (.tuple #[.slice none 0 0, .bool false])) w' := by
 subst h
 exact ⟨rfl, hb⟩
end Go.Proofs.YtgaoijinchakoaaDoor
