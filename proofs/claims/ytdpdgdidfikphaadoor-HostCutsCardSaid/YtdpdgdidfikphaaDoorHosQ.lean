/-
  Layer 5: what a parser tells, in memory: lists of sequences whose addresses are known; a row of them that the call itself appends to; what the mathematics says of what is told.
-/
import Derived.Test.YtdpdgdidfikphaaDoorSqs
import Derived.Test.YtdpdgdidfikphaaDoorHosG
import Derived.Test.YtdpdgdidfikphaaDoorHosS
namespace Go.Proofs.YtdpdgdidfikphaaDoor
open Go.RowKit

theorem sqC_length (s : Sq) (A : Option Addr) (c : Nat) : (sqC s A c).length = 6 := rfl
/-- The cells of sequences, one behind the other. -/
def flatQ : List Sq → (Nat → Option Addr × Nat) → List Value
  | [], _ => []
  | s :: ls, f => sqC s (f 0).1 (f 0).2 ++ flatQ ls (fun k => f (k + 1))
theorem flatQ_length : ∀ (ls : List Sq) (f : Nat → Option Addr × Nat), (flatQ ls f).length = ls.length * 6
  | [], _ => rfl
  | s :: ls, f => by
    rw [flatQ, List.length_append, sqC_length, flatQ_length ls, List.length_cons]
    omega
theorem flatQ_get : ∀ (ls : List Sq) (f : Nat → Option Addr × Nat) (k : Nat) (hk : k < ls.length) (i : Nat), i < 6 → (flatQ ls f)[k * 6 + i]? = (sqC ls[k] (f k).1 (f k).2)[i]?
  | s :: ls, f, 0, _, i, hi => by
    rw [flatQ, Nat.zero_mul, Nat.zero_add, List.getElem?_append_left (by rw [sqC_length]; exact hi)]
    rfl
  | s :: ls, f, k + 1, hk, i, hi => by
    rw [flatQ, List.getElem?_append_right (by rw [sqC_length]; omega), sqC_length, show (k + 1) * 6 + i - 6 = k * 6 + i by omega, flatQ_get ls (fun k => f (k + 1)) k (by simpa using hk) i hi]
    rfl
def joinF (n : Nat) (f g : Nat → Option Addr × Nat) : Nat → Option Addr × Nat := fun k => if k < n then f k else g (k - n)
theorem flatQ_congr : ∀ (ls : List Sq) (f g : Nat → Option Addr × Nat), (∀ k, k < ls.length → f k = g k) → flatQ ls f = flatQ ls g
  | [], _, _, _ => rfl
  | s :: ls, f, g, h => by
    rw [flatQ, flatQ, h 0 (by simp), flatQ_congr ls _ _ fun k hk => h (k + 1) (by simpa using hk)]
theorem flatQ_append (ms : List Sq) (g : Nat → Option Addr × Nat) : ∀ (ls : List Sq) (f : Nat → Option Addr × Nat), flatQ (ls ++ ms) (joinF ls.length f g) = flatQ ls f ++ flatQ ms g
  | [], f => flatQ_congr ms _ _ fun k _ => by simp [joinF]
  | s :: ls, f => by
    rw [List.cons_append, flatQ, flatQ, List.append_assoc, ← flatQ_append ms g ls (fun k => f (k + 1))]
    congr 1
    exact flatQ_congr _ _ _ fun k _ => by
      unfold joinF
      simp only [List.length_cons]
      split
      · rw [if_pos (by omega)]
      · rw [if_neg (by omega)]
        congr 1
        omega
theorem flatQ_one : ∀ (ls : List Sq) (f : Nat → Option Addr × Nat), ∀ u ∈ flatQ ls f, u.oneCell' = true
  | [], _, u, hu => by cases hu
  | s :: ls, f, u, hu => by
    rcases List.mem_append.1 hu with h | h
    · simp only [sqC, List.mem_cons, List.mem_nil_iff, or_false] at h
      rcases h with rfl | rfl | rfl | rfl | rfl | rfl <;> rfl
    · exact flatQ_one ls _ u h

/-- A slice of sequences whose parameters' addresses are known. -/
def RdF (w : World) (A : Option Addr) (ls : List Sq) (f : Nat → Option Addr × Nat) : Prop :=
  Rd w A (flatQ ls f) ∧ ∀ k (hk : k < ls.length), SqIn w ls[k] (f k).1 (f k).2
theorem RdF.q {w : World} {A : Option Addr} {ls : List Sq} {f : Nat → Option Addr × Nat} (h : RdF w A ls f) : RdQ w A ls := fun hp => by
  obtain ⟨b, o, rfl, hb, hc⟩ := h.1 (by rw [flatQ_length]; omega)
  refine ⟨b, o, rfl, hb, fun k hk => ⟨_, _, h.2 k hk, fun i u hu => ?_⟩⟩
  have hi : i < 6 := by
    have := (List.getElem?_eq_some_iff.1 hu).1
    rw [sqC_length] at this
    exact this
  rw [Nat.add_assoc]
  exact hc _ _ ((flatQ_get ls f k hk i hi).trans hu)
theorem RdF.nil (w : World) (A : Option Addr) (f : Nat → Option Addr × Nat) : RdF w A [] f := ⟨Rd.nil _ _, fun _ hk => absurd hk (by simp)⟩

/-- A row of sequences of the call's own, and what its sequences lead to, apart from S. -/
structure RowQ (w : World) (S : Nat → Prop) (B : Nat) (v : Value) (ls : List Sq) (f : Nat → Option Addr × Nat) : Prop where
  own : Own w B 32 6 v ls.length (flatQ ls f)
  apart : ∀ k, v.ownBlock = some k → ¬ S k
  held : Held w (fun k => S k ∨ v.ownBlock = some k) fun W => ∀ k (hk : k < ls.length), SqIn W ls[k] (f k).1 (f k).2
theorem RowQ.nil (w : World) (S : Nat → Prop) (B : Nat) (f : Nat → Option Addr × Nat) : RowQ w S B (.slice none 0 0) [] f :=
  ⟨Own.nil_ _ _ _ _, fun k hk => (by cases hk), Held.true _ _ fun _ k hk => absurd hk (Nat.not_lt_zero k)⟩
theorem RowQ.fr {w w' : World} {S S' : Nat → Prop} {B : Nat} {v : Value} {ls : List Sq} {f : Nat → Option Addr × Nat} (h : RowQ w S B v ls f) (hf : Fr w w' S) (hw : Wid w S S') : RowQ w' S' B v ls f := by
  refine ⟨h.own.fr hf h.apart, fun k hk => hw.out (h.own.lt k hk).2 (h.apart k hk), h.held.go hf (fun k hk => .inl hk) fun k hk => ?_⟩
  rcases hk with hk | hk
  · rcases hw k hk with h1 | h1
    · exact .inl (.inl h1)
    · exact .inr h1
  · exact .inl (.inr hk)
theorem RowQ.rdQ {w : World} {S : Nat → Prop} {B : Nat} {A : Option Addr} {c : Nat} {ls : List Sq} {f : Nat → Option Addr × Nat} (h : RowQ w S B (.slice A ls.length c) ls f) : RdF w A ls f := ⟨h.own.rd, h.held.out⟩
/-- Behind an append of what a parser told. -/
theorem RowQ.app {w w' : World} {S : Nat → Prop} {B n : Nat} {v v' : Value} {ls ms : List Sq} {f g : Nat → Option Addr × Nat} (h : RowQ w S B v ls f) (hi : ∀ k, S k → k < w.heap.size)
    (hm : Held w (fun k => S k ∨ v.ownBlock = some k) fun W => ∀ k (hk : k < ms.length), SqIn W ms[k] (g k).1 (g k).2) (hn : ls.length + ms.length = n)
    (ho : Own w' B 32 6 v' n (flatQ ls f ++ flatQ ms g)) (hg : w.grownBy w' v.ownBlock) (hk : ∀ k, v'.ownBlock = some k → v.ownBlock = some k ∨ w.heap.size ≤ k) : RowQ w' S B v' (ls ++ ms) (joinF ls.length f g) := by
  have hS : ∀ k, (S k ∨ v'.ownBlock = some k) → (S k ∨ v.ownBlock = some k) ∨ w.heap.size ≤ k := fun k h1 => by
    rcases h1 with h1 | h1
    · exact .inl (.inl h1)
    · rcases hk k h1 with h2 | h2
      · exact .inl (.inr h2)
      · exact .inr h2
  refine ⟨by rw [flatQ_append, List.length_append, hn]; exact ho, fun k h1 hs => ?_, ?_⟩
  · rcases hk k h1 with h2 | h2
    · exact h.apart k h2 hs
    · have := hi k hs; omega
  · have h1 := (h.held.and hm).go (S' := fun k => S k ∨ v'.ownBlock = some k) (Fr.of_grown hg) (fun k hk => .inr hk) hS
    refine h1.imp fun W hW k hkl => ?_
    by_cases hl : k < ls.length
    · have := hW.1 k hl
      rw [List.getElem_append_left hl]
      unfold joinF
      rw [if_pos hl]
      exact this
    · have := hW.2 (k - ls.length) (by rw [List.length_append] at hkl; omega)
      rw [List.getElem_append_right (by omega)]
      unfold joinF
      rw [if_neg hl]
      exact this

/-- All that is told may be. -/
theorem told_may (p : HP) : ∀ s ∈ toldH p, mayS s = 0 := fun s hs => by
  unfold toldH at hs
  split at hs
  · cases hs
  · split at hs
    · rename_i h
      rw [List.mem_singleton.1 hs]
      exact h
    · cases hs
theorem told_len (p : HP) : (toldH p).length ≤ 1 := by
  unfold toldH
  split
  · simp
  · split <;> simp
def Tells (x : HP × List Sq) : Prop := x.2 = [] ∨ ∃ q, x.2 = toldH q
theorem Tells.no (p : HP) : Tells (p, []) := .inl rfl
theorem Tells.yes (p q : HP) : Tells (p, toldH q) := .inr ⟨q, rfl⟩
theorem esc_tells (p : HP) (c : UInt8) : Tells (escH p c) := by
  unfold escH
  (repeat' split) <;> first | exact Tells.no _ | exact Tells.yes _ _
theorem head_tells (p : HP) (c : UInt8) : Tells (headH p c) := by
  unfold headH
  (repeat' split) <;> first | exact Tells.no _ | exact Tells.yes _ _
theorem data_tells (p : HP) (c : UInt8) : Tells (dataH p c) := by
  unfold dataH
  (repeat' split) <;> first | exact Tells.no _ | exact Tells.yes _ _
theorem one_tells (p : HP) (c : UInt8) : Tells (oneH p c) := by
  unfold oneH
  (repeat' split) <;> first | exact Tells.no _ | exact Tells.yes _ _ | exact esc_tells _ _ | exact head_tells _ _ | exact data_tells _ _
theorem feed_may (p : HP) (b : List UInt8) : ∀ s ∈ (feedH p b).2, mayS s = 0 := by
  induction b generalizing p with
  | nil => intro s hs; cases hs
  | cons c b ih =>
    intro s hs
    rw [feedH] at hs
    rcases List.mem_append.1 hs with h | h
    · obtain h1 | ⟨q, h1⟩ := one_tells p c
      · rw [h1] at h; cases h
      · rw [h1] at h; exact told_may q s h
    · exact ih _ s h
theorem feed_len (p : HP) (b : List UInt8) : (feedH p b).2.length ≤ b.length := by
  induction b generalizing p with
  | nil => exact Nat.le_refl _
  | cons c b ih =>
    rw [feedH, List.length_append, List.length_cons]
    have h2 := ih (oneH p c).1
    obtain h1 | ⟨q, h1⟩ := one_tells p c
    · rw [h1]; simp; omega
    · rw [h1]
      have := told_len q
      omega
theorem short_may {s : Sq} (h : mayS s = 0) : ShortS s := by
  obtain ⟨_, _, hp, _⟩ := ok_parts h
  simp only [parOk, Bool.and_eq_true, decide_eq_true_eq, List.all_eq_true] at hp
  refine ⟨by omega, fun p hp2 => ?_⟩
  have := (hp.2 p hp2).1.2
  omega
end Go.Proofs.YtdpdgdidfikphaaDoor
