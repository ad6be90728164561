/-
  Layer 3's mathematics: a sequence, whether it may be, its bytes, and the sequence with which bytes begin.
-/
import Derived.Test.YthcafgningpdnaaDoorG03
namespace Go.Proofs.YthcafgningpdnaaDoor
structure Sq where
 kind : Int
 priv : UInt8
 params : List (List Int)
 inter : List UInt8
 final : UInt8
 data : List UInt8
def btw (a b : Nat) (c : UInt8) : Bool := decide (a ≤ c.toNat) && decide (c.toNat ≤ b)
theorem btw_iff (a b : Nat) (c : UInt8) : btw a b c = true ↔ a ≤ c.toNat ∧ c.toNat ≤ b := by simp [btw]
theorem btw_no (a b : Nat) (c : UInt8) : btw a b c = false ↔ ¬ (a ≤ c.toNat ∧ c.toNat ≤ b) := by rw [← btw_iff]; simp
def parOk (l : List (List Int)) : Bool := decide (l.length ≤ 16) && decide (l ≠ [[-1]]) && l.all fun p => decide (1 ≤ p.length) && decide (p.length ≤ 8) && p.all fun n => decide (-1 ≤ n) && decide (n ≤ 1114111)
def lastOk (s : Sq) : Bool :=
 if s.kind = 1 ∨ s.kind = 2 ∨ s.kind = 3 then btw 64 126 s.final
 else if s.kind = 5 then btw 48 126 s.final && (decide (s.inter ≠ []) || !([79, 80, 88, 91, 93, 92, 94, 95] : List UInt8).contains s.final)
 else decide (s.kind = 4) && decide (s.final = 0)
def bareOk (s : Sq) : Bool :=
 !(decide (s.kind = 2 ∨ s.kind = 4 ∨ s.kind = 5) && (decide (s.priv ≠ 0) || decide (s.params ≠ []))) && !(decide (s.kind = 2 ∨ s.kind = 4) && decide (s.inter ≠ [])) && (decide (s.data = []) || decide (s.kind = 3 ∨ s.kind = 4))
def privOk (c : UInt8) : Bool := decide (c = 0) || btw 60 63 c
def okS (s : Sq) : Bool := privOk s.priv && parOk s.params && decide (s.inter.length ≤ 2) && s.inter.all (btw 32 47) && s.data.all (btw 32 126) && lastOk s && bareOk s
def mayS (s : Sq) : Int := if 4096 < s.data.length then 4 else if okS s = true then 0 else 1
def partL : List Int → List UInt8
 | [] => []
 | [n] => textL n
 | n :: m :: p => textL n ++ (58 :: partL (m :: p))
def parL : List (List Int) → List UInt8
 | [] => []
 | [p] => partL p
 | p :: q :: l => partL p ++ (59 :: parL (q :: l))
def numsGo (n : Int) (one : List Int) : List UInt8 → List (List Int)
 | [] => [one ++ [n]]
 | c :: l => if isD c = true then numsGo (rd 1114112 n c) one l else if c = 59 then (one ++ [n]) :: numsGo (-1) [] l else numsGo (-1) (one ++ [n]) l
def numsL (l : List UInt8) : List (List Int) := if l = [] then [] else numsGo (-1) [] l
theorem go_figs (l m : List UInt8) (n : Int) (one : List Int) (h : ∀ c ∈ l, isD c = true) : numsGo n one (l ++ m) = numsGo (l.foldl (rd 1114112) n) one m := by
 induction l generalizing n with
 | nil => rfl
 | cons c l ih =>
   have hc := h c (List.mem_cons_self ..)
   rw [List.cons_append]
   show (if isD c = true then numsGo (rd 1114112 n c) one (l ++ m) else _) = _
   rw [if_pos hc, ih _ (fun d hd => h d (List.mem_cons_of_mem _ hd))]
   rfl
theorem go_text (n : Int) (h0 : -1 ≤ n) (h1 : n ≤ 1114111) (m : List UInt8) (one : List Int) : numsGo (-1) one (textL n ++ m) = numsGo n one m := by
 rw [go_figs _ _ _ _ (text_all_isD n)]
 by_cases h : n < 0
 ·rw [textL_neg n h, show n = -1 by omega]; rfl
 ·rw [text_read _ _ (by omega) (by omega), show min n 1114112 = n by omega]
def partOk (p : List Int) : Prop := ∀ n ∈ p, -1 ≤ n ∧ n ≤ 1114111
theorem go_part : ∀ (p : List Int) (_ : p ≠ []) (_ : partOk p) (one : List Int), numsGo (-1) one (partL p) = [one ++ p] ∧ ∀ m, numsGo (-1) one (partL p ++ (59 :: m)) = (one ++ p) :: numsGo (-1) [] m := by
 intro p
 induction p with
 | nil => intro h; exact absurd rfl h
 | cons n p ih =>
   intro _ ho one
   obtain ⟨h0, h1⟩ := ho n (List.mem_cons_self ..)
   cases p with
   | nil =>
     refine ⟨?_, fun m => ?_⟩
     ·have := go_text n h0 h1 [] one
      rw [List.append_nil] at this
      exact this
     ·have := go_text n h0 h1 (59 :: m) one
      exact this
   | cons k p =>
     have ih' := ih (by simp) (fun x hx => ho x (List.mem_cons_of_mem _ hx)) (one ++ [n])
     have e : partL (n :: k :: p) = textL n ++ (58 :: partL (k :: p)) := rfl
     refine ⟨?_, fun m => ?_⟩
     ·rw [e, go_text n h0 h1]
      show numsGo (-1) (one ++ [n]) (partL (k :: p)) = _
      rw [ih'.1, List.append_assoc]; rfl
     ·rw [e, List.append_assoc, go_text n h0 h1]
      show numsGo (-1) (one ++ [n]) (partL (k :: p) ++ (59 :: m)) = _
      rw [ih'.2 m, List.append_assoc]; rfl
theorem go_par : ∀ (l : List (List Int)), l ≠ [] → (∀ p ∈ l, p ≠ [] ∧ partOk p) → numsGo (-1) [] (parL l) = l := by
 intro l
 induction l with
 | nil => intro h; exact absurd rfl h
 | cons p l ih =>
   intro _ ho
   obtain ⟨h0, h1⟩ := ho p (List.mem_cons_self ..)
   cases l with
   | nil => exact (go_part p h0 h1 []).1
   | cons q l =>
     have ih' := ih (by simp) (fun x hx => ho x (List.mem_cons_of_mem _ hx))
     have e : parL (p :: q :: l) = partL p ++ (59 :: parL (q :: l)) := rfl
     rw [e, (go_part p h0 h1 []).2, ih']; rfl
theorem part_nil : ∀ (p : List Int), partOk p → p ≠ [] → partL p = [] → p = [-1] := by
 intro p ho hn h
 match p with
 | [] => exact absurd rfl hn
 | [n] =>
   obtain ⟨h0, h1⟩ := ho n (List.mem_cons_self ..)
   by_cases hneg : n < 0
   ·rw [show n = -1 by omega]
   ·exact absurd h (text_ne n (by omega))
 | n :: m :: p => simp [partL] at h
theorem par_nil : ∀ (l : List (List Int)), (∀ p ∈ l, p ≠ [] ∧ partOk p) → parL l = [] → l = [] ∨ l = [[-1]] := by
 intro l ho h
 match l with
 | [] => exact .inl rfl
 | [p] => exact .inr (by rw [part_nil p (ho p (List.mem_cons_self ..)).2 (ho p (List.mem_cons_self ..)).1 h])
 | p :: q :: l => simp [parL] at h
theorem parOk_all {l : List (List Int)} (h : parOk l = true) : (∀ p ∈ l, p ≠ [] ∧ partOk p) ∧ l ≠ [[-1]] := by
 simp only [parOk, Bool.and_eq_true, decide_eq_true_eq, List.all_eq_true] at h
 refine ⟨fun p hp => ?_, h.1.2⟩
 obtain ⟨⟨h1, _⟩, h2⟩ := h.2 p hp
 refine ⟨fun e => by rw [e] at h1; simp at h1, fun n hn => h2 n hn⟩
theorem nums_par {l : List (List Int)} (h : parOk l = true) : numsL (parL l) = l := by
 obtain ⟨h1, h2⟩ := parOk_all h
 unfold numsL
 by_cases he : l = []
 ·subst he; rfl
 ·rw [if_neg (fun e => (par_nil l h1 e).elim he h2)]
  exact go_par l he h1
end Go.Proofs.YthcafgningpdnaaDoor
