/-
  Lists of numbers, read in memory; the document's comparison of two of them. (For layers that don't load layer 2's own texts.) Layer 3's mathematics: the sequence with which bytes begin is told there and back, and there is one at most. Cut out of WirP: what names no function of any dump. Layer 3's mathematics: what a reader of bytes reads, a piece at a time; that it is just the sequence with which the bytes begin. Cut out of RepM: what names no function of any dump. The cells of a block of five, and of six.
-/
import Derived.Test.YthcafgningpdnaaDoorG01
import Derived.Test.YthcafgningpdnaaDoorG03
import Derived.Test.YthcafgningpdnaaDoorG04
import Derived.Test.YthcafgningpdnaaDoorG05
import Derived.Test.YthcafgningpdnaaDoorG06
import Derived.BigQuiet
import Derived.Deep.QuietTactic
namespace Go.Proofs.YthcafgningpdnaaDoor
open Go.RowKit
def is_ (l : List Int) : List Value := l.map (Value.int .i64)
theorem is_length (l : List Int) : (is_ l).length = l.length := by simp [is_]
theorem Rd.int_at {w : World} {A : Option Addr} {l : List Int} (h : Rd w A (is_ l)) (hp : 0 < l.length) :
 ∃ b o, A = some ⟨b, o, none⟩ ∧ b < w.heap.size ∧ ∀ k (hk : k < l.length), w.cell? ⟨b, o + k, none⟩ = some (.int .i64 l[k]) := by
 obtain ⟨b, o, rfl, hb, hc⟩ := h (by rw [is_length]; exact hp)
 exact ⟨b, o, rfl, hb, fun k hk => hc k _ (by simp [is_, hk])⟩
def RdP (w : World) (A : Option Addr) (ps : List (List Int)) : Prop :=
 0 < ps.length → ∃ b o, A = some ⟨b, o, none⟩ ∧ b < w.heap.size ∧ ∀ k (hk : k < ps.length), ∃ A' c', w.cell? ⟨b, o + k, none⟩ = some (.slice A' (ps[k]).length c') ∧ Rd w A' (is_ ps[k])
theorem RdP.nil (w : World) (A : Option Addr) : RdP w A [] := fun h => absurd h (by simp)
theorem RdP.below {w w' : World} {A : Option Addr} {ps : List (List Int)} (h : RdP w A ps) (hb : Below w.heap.size w w') : RdP w' A ps := fun hp => by
 obtain ⟨b, o, rfl, hlt, hc⟩ := h hp
 refine ⟨b, o, rfl, Nat.lt_of_lt_of_le hlt hb.size, fun k hk => ?_⟩
 obtain ⟨A', c', h1, h2⟩ := hc k hk
 exact ⟨A', c', (hb.cell (p := ⟨b, o + k, none⟩) hlt).trans h1, h2.below hb⟩
theorem RdP.drewN {w : World} {A : Option Addr} {ps : List (List Int)} (h : RdP w A ps) (n : Nat) : RdP (w.drewN n) A ps := h
theorem RdP.alloc {w : World} {A : Option Addr} {ps : List (List Int)} (h : RdP w A ps) (o : Obj) : RdP (w.alloc o) A ps := h.below ((Below.refl _ _).alloc (Nat.le_refl _) o)
end Go.Proofs.YthcafgningpdnaaDoor
namespace Go.Proofs.YthcafgningpdnaaDoor
end Go.Proofs.YthcafgningpdnaaDoor
namespace Go.Proofs.YthcafgningpdnaaDoor
open Go.RowKit
theorem all_no {p : UInt8 → Bool} {l : List UInt8} {k : Nat} (hk : k < l.length) (h : p l[k] = false) : l.all p = false := by
 rw [List.all_eq_false]
 exact ⟨_, List.getElem_mem hk, by simp [h]⟩
def partB (p : List Int) : Bool := decide (1 ≤ p.length) && decide (p.length ≤ 8) && p.all fun n => decide (-1 ≤ n) && decide (n ≤ 1114111)
theorem parOk_eq (l : List (List Int)) : parOk l = (decide (l.length ≤ 16) && decide (l ≠ [[-1]]) && l.all partB) := rfl
theorem par_long {l : List (List Int)} (h : 16 < l.length) : parOk l = false := by rw [parOk_eq, decide_eq_false (by omega)]; rfl
theorem par_no {l : List (List Int)} {k : Nat} (hk : k < l.length) (h : partB l[k] = false) : parOk l = false := by
 rw [parOk_eq, show l.all partB = false from List.all_eq_false.2 ⟨_, List.getElem_mem hk, by simp [h]⟩, Bool.and_false]
theorem part_len {p : List Int} (h : ¬ (1 ≤ p.length ∧ p.length ≤ 8)) : partB p = false := by
 unfold partB
 by_cases h1 : 1 ≤ p.length
 ·rw [decide_eq_false (p := p.length ≤ 8) (by omega), Bool.and_false, Bool.false_and]
 ·rw [decide_eq_false h1, Bool.false_and, Bool.false_and]
def numOk (n : Int) : Bool := decide (-1 ≤ n) && decide (n ≤ 1114111)
theorem partB_yes {p : List Int} (h1 : 1 ≤ p.length) (h2 : p.length ≤ 8) (h : p.all numOk = true) : partB p = true := by
 unfold partB
 rw [decide_eq_true h1, decide_eq_true h2]
 exact h
theorem parOk_yes {l : List (List Int)} (h : l.length ≤ 16) (h1 : l ≠ [[-1]]) (h2 : l.all partB = true) : parOk l = true := by
 rw [parOk_eq, decide_eq_true h, decide_eq_true h1, h2]; rfl
theorem numOk_iff (n : Int) : numOk n = true ↔ -1 ≤ n ∧ n ≤ 1114111 := by simp [numOk]
end Go.Proofs.YthcafgningpdnaaDoor
namespace Go.Proofs.YthcafgningpdnaaDoor
theorem rpart_len : ∀ (p : List Int), (∀ n ∈ p, -1 ≤ n ∧ n ≤ 1114111) → (partL p).length ≤ 22 * p.length
 | [], _ => Nat.zero_le _
 | [n], h => by
   have := textL_length n (by have := (h n (by simp)).2; omega)
   show (textL n).length ≤ _
   simp
   omega
 | n :: m :: p, h => by
   have h1 := textL_length n (by have := (h n (by simp)).2; omega)
   have h2 := rpart_len (m :: p) (fun x hx => h x (List.mem_cons_of_mem _ hx))
   show (textL n ++ (58 :: partL (m :: p))).length ≤ _
   simp only [List.length_append, List.length_cons] at h2 ⊢
   omega
theorem parl_len : ∀ (l : List (List Int)), (∀ p ∈ l, pOk p) → (parL l).length ≤ 177 * l.length
 | [], _ => Nat.zero_le _
 | [p], h => by
   obtain ⟨⟨_, h8⟩, hn⟩ := h p (by simp)
   have := rpart_len p hn
   show (partL p).length ≤ _
   simp
   omega
 | p :: q :: l, h => by
   obtain ⟨⟨_, h8⟩, hn⟩ := h p (by simp)
   have h1 := rpart_len p hn
   have h2 := parl_len (q :: l) (fun x hx => h x (List.mem_cons_of_mem _ hx))
   show (partL p ++ (59 :: parL (q :: l))).length ≤ _
   simp only [List.length_append, List.length_cons] at h2 ⊢
   omega
end Go.Proofs.YthcafgningpdnaaDoor
namespace Go.Proofs.YthcafgningpdnaaDoor
open Go.RowKit
theorem Blk.cells6 {w : World} {g : Nat} {t : TypeId} {a b c d e f : Value} (h : Blk w g t #[a, b, c, d, e, f]) :
 w.cell? ⟨g, 0, none⟩ = some a ∧ w.cell? ⟨g, 1, none⟩ = some b ∧ w.cell? ⟨g, 2, none⟩ = some c ∧ w.cell? ⟨g, 3, none⟩ = some d ∧ w.cell? ⟨g, 4, none⟩ = some e ∧ w.cell? ⟨g, 5, none⟩ = some f :=
 ⟨h.cell 0, h.cell 1, h.cell 2, h.cell 3, h.cell 4, h.cell 5⟩
end Go.Proofs.YthcafgningpdnaaDoor
