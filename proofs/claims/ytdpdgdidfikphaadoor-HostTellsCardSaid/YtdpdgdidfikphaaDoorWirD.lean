/-
  Layer 3's mathematics: a sequence's body, a parameter at a time; its length.
-/
import Derived.Test.YtdpdgdidfikphaaDoorWirY
import Derived.Test.YtdpdgdidfikphaaDoorFigW
namespace Go.Proofs.YtdpdgdidfikphaaDoor
open Go.RowKit

theorem str_cat (a b c : List UInt8) (h : a ++ b = c) : (⟨a.toArray⟩ : ByteArray) ++ (⟨b.toArray⟩ : ByteArray) = ⟨c.toArray⟩ := by
  subst h
  apply ByteArray.ext
  simp [ByteArray.data_append]
theorem partL_snoc (p : List Int) (n : Int) : partL (p ++ [n]) = partL p ++ (if p = [] then [] else [58]) ++ textL n := by
  match p with
  | [] => simp [partL]
  | [m] => simp [partL]
  | m :: k :: p =>
    have ih := partL_snoc (k :: p) n
    show textL m ++ (58 :: partL (k :: p ++ [n])) = _
    rw [ih]
    simp [partL]
theorem parL_snoc (l : List (List Int)) (p : List Int) : parL (l ++ [p]) = parL l ++ (if l = [] then [] else [59]) ++ partL p := by
  match l with
  | [] => simp [parL]
  | [m] => simp [parL]
  | m :: k :: l =>
    have ih := parL_snoc (k :: l) p
    show partL m ++ (59 :: parL (k :: l ++ [p])) = _
    rw [ih]
    simp [parL]
theorem partL_len : ∀ (p : List Int), partOk p → (partL p).length ≤ 22 * p.length := by
  intro p ho
  match p with
  | [] => simp [partL]
  | [n] =>
    have := textL_length n (by have := ho n (List.mem_cons_self ..); omega)
    simp only [partL, List.length_cons, List.length_nil]; omega
  | n :: m :: p =>
    have h1 := textL_length n (by have := ho n (List.mem_cons_self ..); omega)
    have h2 := partL_len (m :: p) (fun x hx => ho x (List.mem_cons_of_mem _ hx))
    show (textL n ++ (58 :: partL (m :: p))).length ≤ _
    rw [List.length_append, List.length_cons]
    simp only [List.length_cons] at *
    omega
theorem partL_take {p : List Int} {k : Nat} (h : k < p.length) : partL (p.take (k + 1)) = partL (p.take k) ++ (if k = 0 then [] else [58]) ++ textL p[k] := by
  rw [List.take_succ_eq_append_getElem h, partL_snoc]
  congr 2
  by_cases hk : k = 0
  · subst hk; simp
  · rw [if_neg hk, if_neg]
    intro e
    have := congrArg List.length e
    rw [List.length_take, List.length_nil] at this
    omega
theorem parL_take {l : List (List Int)} {k : Nat} (h : k < l.length) : parL (l.take (k + 1)) = parL (l.take k) ++ (if k = 0 then [] else [59]) ++ partL l[k] := by
  rw [List.take_succ_eq_append_getElem h, parL_snoc]
  congr 2
  by_cases hk : k = 0
  · subst hk; simp
  · rw [if_neg hk, if_neg]
    intro e
    have := congrArg List.length e
    rw [List.length_take, List.length_nil] at this
    omega
theorem parL_len : ∀ (l : List (List Int)), (∀ p ∈ l, p.length ≤ 8 ∧ partOk p) → (parL l).length ≤ 177 * l.length := by
  intro l ho
  match l with
  | [] => simp [parL]
  | [p] =>
    have h := ho p (List.mem_cons_self ..)
    have := partL_len p h.2
    simp only [parL, List.length_cons, List.length_nil]; omega
  | p :: q :: l =>
    have h := ho p (List.mem_cons_self ..)
    have h1 := partL_len p h.2
    have h2 := parL_len (q :: l) (fun x hx => ho x (List.mem_cons_of_mem _ hx))
    show (partL p ++ (59 :: parL (q :: l))).length ≤ _
    rw [List.length_append, List.length_cons]
    simp only [List.length_cons] at *
    omega
theorem parOk_lens {l : List (List Int)} (h : parOk l = true) : l.length ≤ 16 ∧ ∀ p ∈ l, p.length ≤ 8 ∧ partOk p := by
  simp only [parOk, Bool.and_eq_true, decide_eq_true_eq, List.all_eq_true] at h
  refine ⟨h.1.1, fun p hp => ?_⟩
  obtain ⟨⟨_, h1⟩, h2⟩ := h.2 p hp
  exact ⟨h1, fun n hn => h2 n hn⟩
end Go.Proofs.YtdpdgdidfikphaaDoor
