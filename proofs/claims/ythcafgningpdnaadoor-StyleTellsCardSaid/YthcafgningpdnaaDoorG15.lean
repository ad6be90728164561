/-
  Cut out of WpT: what names no function of any dump. Layer 3's mathematics: what a reader of bytes reads, a piece at a time; that it is just the sequence with which the bytes begin. Cut out of RepM: what names no function of any dump. Cut out of RepM: what names no function of any dump. Two strings of known bytes, compared.
-/
import Derived.Test.YthcafgningpdnaaDoorG01
import Derived.Test.YthcafgningpdnaaDoorG03
import Derived.Test.YthcafgningpdnaaDoorG04
import Derived.Test.YthcafgningpdnaaDoorG14
import Derived.Lib.Join
namespace Go.Proofs.YthcafgningpdnaaDoor
open Go.RowKit
def ss_ (l : List (List UInt8)) : List Value := l.map fun t => .string ⟨t.toArray⟩
theorem join_cons2 (sep p q : List UInt8) (l : List (List UInt8)) : Lib.join (p :: q :: l) sep = p ++ sep ++ Lib.join (q :: l) sep := by
 simp [Lib.join, List.intercalate_cons_cons]
theorem join_part (p : List Int) : Lib.join (p.map textL) [58] = partL p := by
 match p with
 | [] => rfl
 | [n] => simp [Lib.join, partL]
 | n :: m :: p =>
   rw [List.map_cons, List.map_cons, join_cons2, ← List.map_cons, join_part (m :: p)]
   simp [partL]
theorem join_par (l : List (List Int)) : Lib.join (l.map partL) [59] = parL l := by
 match l with
 | [] => rfl
 | [n] => simp [Lib.join, parL]
 | n :: m :: p =>
   rw [List.map_cons, List.map_cons, join_cons2, ← List.map_cons, join_par (m :: p)]
   simp [parL]
end Go.Proofs.YthcafgningpdnaaDoor
namespace Go.Proofs.YthcafgningpdnaaDoor
theorem rpart_len : ∀ (p : List Int), (∀ n ∈ p, -1 ≤ n ∧ n ≤ 1114111) → (partL p).length ≤ 22 * p.length
 | [], _ => Nat.zero_le _
 | [n], h => by
   have := textL_length n (by have := (h n (by simp)).2; omega)
   show (textL n).length ≤ _
   simp
   omega
 | n :: m :: p, h => by
   have h1 := textL_length n (by have := (h n (by simp)).2; omega)
   have h2 := rpart_len (m :: p) (fun x hx => h x (List.mem_cons_of_mem _ hx))
   show (textL n ++ (58 :: partL (m :: p))).length ≤ _
   simp only [List.length_append, List.length_cons] at h2 ⊢
   omega
theorem parl_len : ∀ (l : List (List Int)), (∀ p ∈ l, pOk p) → (parL l).length ≤ 177 * l.length
 | [], _ => Nat.zero_le _
 | [p], h => by
   obtain ⟨⟨_, h8⟩, hn⟩ := h p (by simp)
   have := rpart_len p hn
   show (partL p).length ≤ _
   simp
   omega
 | p :: q :: l, h => by
   obtain ⟨⟨_, h8⟩, hn⟩ := h p (by simp)
   have h1 := rpart_len p hn
   have h2 := parl_len (q :: l) (fun x hx => h x (List.mem_cons_of_mem _ hx))
   show (partL p ++ (59 :: parL (q :: l))).length ≤ _
   simp only [List.length_append, List.length_cons] at h2 ⊢
   omega
theorem pok_of {l : List (List Int)} (h : parOk l = true) : l.length ≤ 16 ∧ ∀ p ∈ l, pOk p := by
 unfold parOk at h
 simp only [Bool.and_eq_true, decide_eq_true_eq, List.all_eq_true] at h
 exact ⟨h.1.1, fun p hp => ⟨⟨(h.2 p hp).1.1, (h.2 p hp).1.2⟩, (h.2 p hp).2⟩⟩
end Go.Proofs.YthcafgningpdnaaDoor
namespace Go.Proofs.YthcafgningpdnaaDoor
open Go.RowKit
end Go.Proofs.YthcafgningpdnaaDoor
