/-
  Layer 3's mathematics: a sequence, whether it may be, its bytes, and the sequence with which bytes begin. Words for memory that several things share: what has a footprint (a set of blocks), and stays as it is wherever only other blocks turn; append that tells which block its row lies in; copy into a row of the call's own; slices cut short.
-/
import Derived.Test.YtdfojkbgdoiglaaDoorG03
import Derived.Laws.IdiomCopy
import Derived.Laws.Slices
namespace Go.Proofs.YtdfojkbgdoiglaaDoor
structure Sq where
 kind : Int
 priv : UInt8
 params : List (List Int)
 inter : List UInt8
 final : UInt8
 data : List UInt8
def btw (a b : Nat) (c : UInt8) : Bool := decide (a ≤ c.toNat) && decide (c.toNat ≤ b)
theorem btw_iff (a b : Nat) (c : UInt8) : btw a b c = true ↔ a ≤ c.toNat ∧ c.toNat ≤ b := by simp [btw]
theorem btw_no (a b : Nat) (c : UInt8) : btw a b c = false ↔ ¬ (a ≤ c.toNat ∧ c.toNat ≤ b) := by rw [← btw_iff]; simp
def parOk (l : List (List Int)) : Bool := decide (l.length ≤ 16) && decide (l ≠ [[-1]]) && l.all fun p => decide (1 ≤ p.length) && decide (p.length ≤ 8) && p.all fun n => decide (-1 ≤ n) && decide (n ≤ 1114111)
def lastOk (s : Sq) : Bool :=
 if s.kind = 1 ∨ s.kind = 2 ∨ s.kind = 3 then btw 64 126 s.final
 else if s.kind = 5 then btw 48 126 s.final && (decide (s.inter ≠ []) || !([79, 80, 88, 91, 93, 92, 94, 95] : List UInt8).contains s.final)
 else decide (s.kind = 4) && decide (s.final = 0)
def bareOk (s : Sq) : Bool :=
 !(decide (s.kind = 2 ∨ s.kind = 4 ∨ s.kind = 5) && (decide (s.priv ≠ 0) || decide (s.params ≠ []))) && !(decide (s.kind = 2 ∨ s.kind = 4) && decide (s.inter ≠ [])) && (decide (s.data = []) || decide (s.kind = 3 ∨ s.kind = 4))
def privOk (c : UInt8) : Bool := decide (c = 0) || btw 60 63 c
def okS (s : Sq) : Bool := privOk s.priv && parOk s.params && decide (s.inter.length ≤ 2) && s.inter.all (btw 32 47) && s.data.all (btw 32 126) && lastOk s && bareOk s
def mayS (s : Sq) : Int := if 4096 < s.data.length then 4 else if okS s = true then 0 else 1
def partL : List Int → List UInt8
 | [] => []
 | [n] => textL n
 | n :: m :: p => textL n ++ (58 :: partL (m :: p))
def parL : List (List Int) → List UInt8
 | [] => []
 | [p] => partL p
 | p :: q :: l => partL p ++ (59 :: parL (q :: l))
def privL (c : UInt8) : List UInt8 := if c = 0 then [] else [c]
def bodyL (s : Sq) : List UInt8 := privL s.priv ++ parL s.params ++ s.inter
def putS (s : Sq) : List UInt8 :=
 if s.kind = 1 then 27 :: 91 :: (bodyL s ++ [s.final])
 else if s.kind = 2 then [27, 79, s.final]
 else if s.kind = 3 then 27 :: 80 :: (bodyL s ++ (s.final :: (s.data ++ [27, 92])))
 else if s.kind = 4 then 27 :: 93 :: (s.data ++ [27, 92])
 else 27 :: (s.inter ++ [s.final])
def numsGo (n : Int) (one : List Int) : List UInt8 → List (List Int)
 | [] => [one ++ [n]]
 | c :: l => if isD c = true then numsGo (rd 1114112 n c) one l else if c = 59 then (one ++ [n]) :: numsGo (-1) [] l else numsGo (-1) (one ++ [n]) l
def numsL (l : List UInt8) : List (List Int) := if l = [] then [] else numsGo (-1) [] l
theorem go_figs (l m : List UInt8) (n : Int) (one : List Int) (h : ∀ c ∈ l, isD c = true) : numsGo n one (l ++ m) = numsGo (l.foldl (rd 1114112) n) one m := by
 induction l generalizing n with
 | nil => rfl
 | cons c l ih =>
   have hc := h c (List.mem_cons_self ..)
   rw [List.cons_append]
   show (if isD c = true then numsGo (rd 1114112 n c) one (l ++ m) else _) = _
   rw [if_pos hc, ih _ (fun d hd => h d (List.mem_cons_of_mem _ hd))]
   rfl
theorem go_text (n : Int) (h0 : -1 ≤ n) (h1 : n ≤ 1114111) (m : List UInt8) (one : List Int) : numsGo (-1) one (textL n ++ m) = numsGo n one m := by
 rw [go_figs _ _ _ _ (text_all_isD n)]
 by_cases h : n < 0
 ·rw [textL_neg n h, show n = -1 by omega]; rfl
 ·rw [text_read _ _ (by omega) (by omega), show min n 1114112 = n by omega]
def partOk (p : List Int) : Prop := ∀ n ∈ p, -1 ≤ n ∧ n ≤ 1114111
theorem go_part : ∀ (p : List Int) (_ : p ≠ []) (_ : partOk p) (one : List Int), numsGo (-1) one (partL p) = [one ++ p] ∧ ∀ m, numsGo (-1) one (partL p ++ (59 :: m)) = (one ++ p) :: numsGo (-1) [] m := by
 intro p
 induction p with
 | nil => intro h; exact absurd rfl h
 | cons n p ih =>
   intro _ ho one
   obtain ⟨h0, h1⟩ := ho n (List.mem_cons_self ..)
   cases p with
   | nil =>
     refine ⟨?_, fun m => ?_⟩
     ·have := go_text n h0 h1 [] one
      rw [List.append_nil] at this
      exact this
     ·have := go_text n h0 h1 (59 :: m) one
      exact this
   | cons k p =>
     have ih' := ih (by simp) (fun x hx => ho x (List.mem_cons_of_mem _ hx)) (one ++ [n])
     have e : partL (n :: k :: p) = textL n ++ (58 :: partL (k :: p)) := rfl
     refine ⟨?_, fun m => ?_⟩
     ·rw [e, go_text n h0 h1]
      show numsGo (-1) (one ++ [n]) (partL (k :: p)) = _
      rw [ih'.1, List.append_assoc]; rfl
     ·rw [e, List.append_assoc, go_text n h0 h1]
      show numsGo (-1) (one ++ [n]) (partL (k :: p) ++ (59 :: m)) = _
      rw [ih'.2 m, List.append_assoc]; rfl
theorem go_par : ∀ (l : List (List Int)), l ≠ [] → (∀ p ∈ l, p ≠ [] ∧ partOk p) → numsGo (-1) [] (parL l) = l := by
 intro l
 induction l with
 | nil => intro h; exact absurd rfl h
 | cons p l ih =>
   intro _ ho
   obtain ⟨h0, h1⟩ := ho p (List.mem_cons_self ..)
   cases l with
   | nil => exact (go_part p h0 h1 []).1
   | cons q l =>
     have ih' := ih (by simp) (fun x hx => ho x (List.mem_cons_of_mem _ hx))
     have e : parL (p :: q :: l) = partL p ++ (59 :: parL (q :: l)) := rfl
     rw [e, (go_part p h0 h1 []).2, ih']; rfl
theorem part_nil : ∀ (p : List Int), partOk p → p ≠ [] → partL p = [] → p = [-1] := by
 intro p ho hn h
 match p with
 | [] => exact absurd rfl hn
 | [n] =>
   obtain ⟨h0, h1⟩ := ho n (List.mem_cons_self ..)
   by_cases hneg : n < 0
   ·rw [show n = -1 by omega]
   ·exact absurd h (text_ne n (by omega))
 | n :: m :: p => simp [partL] at h
theorem par_nil : ∀ (l : List (List Int)), (∀ p ∈ l, p ≠ [] ∧ partOk p) → parL l = [] → l = [] ∨ l = [[-1]] := by
 intro l ho h
 match l with
 | [] => exact .inl rfl
 | [p] => exact .inr (by rw [part_nil p (ho p (List.mem_cons_self ..)).2 (ho p (List.mem_cons_self ..)).1 h])
 | p :: q :: l => simp [parL] at h
theorem parOk_all {l : List (List Int)} (h : parOk l = true) : (∀ p ∈ l, p ≠ [] ∧ partOk p) ∧ l ≠ [[-1]] := by
 simp only [parOk, Bool.and_eq_true, decide_eq_true_eq, List.all_eq_true] at h
 refine ⟨fun p hp => ?_, h.1.2⟩
 obtain ⟨⟨h1, _⟩, h2⟩ := h.2 p hp
 refine ⟨fun e => by rw [e] at h1; simp at h1, fun n hn => h2 n hn⟩
theorem nums_par {l : List (List Int)} (h : parOk l = true) : numsL (parL l) = l := by
 obtain ⟨h1, h2⟩ := parOk_all h
 unfold numsL
 by_cases he : l = []
 ·subst he; rfl
 ·rw [if_neg (fun e => (par_nil l h1 e).elim he h2)]
  exact go_par l he h1
theorem part_btw (p : List Int) : ∀ c ∈ partL p, btw 48 59 c = true := by
 have ht : ∀ n, ∀ c ∈ textL n, btw 48 59 c = true := fun n c hc => by
  have := of_decide_eq_true (text_all_isD n c hc)
  rw [btw_iff]; omega
 match p with
 | [] => intro c hc; cases hc
 | [n] => exact ht n
 | n :: m :: p =>
   intro c hc
   rcases List.mem_append.1 (show c ∈ textL n ++ (58 :: partL (m :: p)) from hc) with h | h
   ·exact ht n c h
   ·rcases List.mem_cons.1 h with rfl | h
    ·decide
    ·exact part_btw (m :: p) c h
theorem par_btw (l : List (List Int)) : ∀ c ∈ parL l, btw 48 59 c = true := by
 match l with
 | [] => intro c hc; cases hc
 | [p] => exact part_btw p
 | p :: q :: l =>
   intro c hc
   rcases List.mem_append.1 (show c ∈ partL p ++ (59 :: parL (q :: l)) from hc) with h | h
   ·exact part_btw p c h
   ·rcases List.mem_cons.1 h with rfl | h
    ·decide
    ·exact par_btw (q :: l) c h
end Go.Proofs.YtdfojkbgdoiglaaDoor
namespace Go.Proofs.YtdfojkbgdoiglaaDoor
open Go.RowKit
structure Fr (w w' : World) (S : Nat → Prop) : Prop where
 os : w'.os = w.os
 tape : w'.tape = w.tape
 output : w'.output = w.output
 size : w.heap.size ≤ w'.heap.size
 block : ∀ k, k < w.heap.size → ¬ S k → w'.heap[k]? = w.heap[k]?
def Wid (w : World) (S S' : Nat → Prop) : Prop := ∀ k, S' k → S k ∨ w.heap.size ≤ k
section
variable {w w' w'' : World} {S S' S'' : Nat → Prop}
theorem Fr.refl (w : World) (S : Nat → Prop) : Fr w w S := ⟨rfl, rfl, rfl, Nat.le_refl _, fun _ _ _ => rfl⟩
theorem Fr.drewN (w : World) (n : Nat) (S : Nat → Prop) : Fr w (w.drewN n) S := ⟨rfl, rfl, rfl, Nat.le_refl _, fun _ _ _ => rfl⟩
theorem Fr.mono (h : Fr w w' S) (hS : ∀ k, S k → S' k) : Fr w w' S' := ⟨h.os, h.tape, h.output, h.size, fun k hk hn => h.block k hk (fun hs => hn (hS k hs))⟩
theorem Fr.trans (h : Fr w w' S) (h' : Fr w' w'' S') (hS : ∀ k, S' k → S k ∨ w.heap.size ≤ k) : Fr w w'' S :=
 ⟨h'.os.trans h.os, h'.tape.trans h.tape, h'.output.trans h.output, Nat.le_trans h.size h'.size, fun k hk hn => (h'.block k (Nat.lt_of_lt_of_le hk h.size) (fun hs => by rcases hS k hs with h1 | h1; exact hn h1; omega)).trans (h.block k hk hn)⟩
theorem Fr.of_below (h : Below w.heap.size w w') (S : Nat → Prop) : Fr w w' S := ⟨h.os, h.tape, h.output, h.size, fun k hk _ => h.block k hk⟩
theorem Fr.setCell (w : World) (g i : Nat) (u : Value) (S : Nat → Prop) (h : S g) : Fr w (w.setCell ⟨g, i, none⟩ u) S :=
 ⟨rfl, rfl, rfl, by simp [World.setCell], fun k _ hn => Below.heap_setCell w ⟨g, i, none⟩ u k (fun e => hn (by rw [show k = g from e]; exact h))⟩
theorem Fr.below {B : Nat} (h : Fr w w' S) (hB : B ≤ w.heap.size) (hS : ∀ k, S k → B ≤ k) : Below B w w' :=
 ⟨h.os, h.tape, h.output, h.size, fun k hk => h.block k (by omega) (fun hs => by have := hS k hs; omega)⟩
theorem Wid.refl (w : World) (S : Nat → Prop) : Wid w S S := fun _ h => .inl h
theorem Wid.trans (h : Wid w S S') (h' : Wid w' S' S'') (hs : w.heap.size ≤ w'.heap.size) : Wid w S S'' := fun k hk => by
 rcases h' k hk with h1 | h1
 ·exact h k h1
 ·exact .inr (by omega)
theorem Wid.out (h : Wid w S S') {k : Nat} (hk : k < w.heap.size) (hn : ¬ S k) : ¬ S' k := fun hs => by
 rcases h k hs with h1 | h1
 ·exact hn h1
 ·omega
theorem Blk.fr {g : Nat} {t : TypeId} {cs : Array Value} (h : Blk w g t cs) (hf : Fr w w' S) (hn : ¬ S g) : Blk w' g t cs := (hf.block g h.lt hn).trans h
theorem Own.fr {base : Nat} {e : TypeId} {sz : Nat} {v : Value} {n : Nat} {xs : List Value} (h : Own w base e sz v n xs) (hf : Fr w w' S) (hn : ∀ k, v.ownBlock = some k → ¬ S k) : Own w' base e sz v n xs :=
 h.keep fun k hk => hf.block k (h.lt k hk).2 (hn k hk)
def RdOff (w : World) (S : Nat → Prop) (A : Option Addr) (xs : List Value) : Prop :=
 0 < xs.length → ∃ b o, A = some ⟨b, o, none⟩ ∧ b < w.heap.size ∧ ¬ S b ∧ ∀ k u, xs[k]? = some u → w.cell? ⟨b, o + k, none⟩ = some u
variable {A : Option Addr} {xs : List Value}
theorem RdOff.nil (w : World) (S : Nat → Prop) (A : Option Addr) : RdOff w S A [] := fun h => absurd h (by simp)
theorem RdOff.rd (h : RdOff w S A xs) : Rd w A xs := fun hp => by
 obtain ⟨b, o, rfl, hb, _, hc⟩ := h hp
 exact ⟨b, o, rfl, hb, hc⟩
theorem RdOff.fr (h : RdOff w S A xs) (hf : Fr w w' S) (hw : Wid w S S') : RdOff w' S' A xs := fun hp => by
 obtain ⟨b, o, rfl, hb, hn, hc⟩ := h hp
 exact ⟨b, o, rfl, Nat.lt_of_lt_of_le hb hf.size, hw.out hb hn, fun k u hu => (World.cell?_of_block (w := w) (a := ⟨b, o + k, none⟩) (hf.block b hb hn)).trans (hc k u hu)⟩
theorem RdOff.mono (h : RdOff w S A xs) (hS : ∀ k, S' k → S k) : RdOff w S' A xs := fun hp => by
 obtain ⟨b, o, rfl, hb, hn, hc⟩ := h hp
 exact ⟨b, o, rfl, hb, fun hs => hn (hS b hs), hc⟩
theorem RdOff.new (S : Nat → Prop) (o : Obj) (h : Rd (w.alloc o) (some ⟨w.heap.size, 0, none⟩) xs) (hS : ∀ k, S k → k < w.heap.size) : RdOff (w.alloc o) S (some ⟨w.heap.size, 0, none⟩) xs := fun hp => by
 obtain ⟨b, o', hA, hlt, hc⟩ := h hp
 injection hA with hA
 injection hA with h1 h2
 subst h1 h2
 exact ⟨w.heap.size, 0, rfl, hlt, fun hs => Nat.lt_irrefl _ (hS _ hs), hc⟩
end
section
variable {P : Program} (w : World)
end
section
variable {w : World} {base : Nat} {e : TypeId} {A : Option Addr} {n c : Nat} {xs : List Value}
theorem Own.short (h : Own w base e 1 (.slice A n c) n xs) (m : Nat) (hm : m ≤ n) (ys : List Value) (hy : xs.take m = ys) : Own w base e 1 (.slice A m c) m ys := by
 subst hy
 have hl := h.1
 refine ⟨by rw [List.length_take]; omega, ?_⟩
 rcases h.2 with ⟨hv, h0⟩ | ⟨g, cap, hv, hb, hh, hnc, hcm, hx, hc⟩
 ·injection hv with h1 h2 h3
  exact .inl ⟨by rw [h1, h3, show m = 0 by omega], by omega⟩
 ·injection hv with h1 h2 h3
  subst h1 h3
  refine .inr ⟨g, c, rfl, hb, hh, by omega, hcm, fun j u hu => ?_, hc⟩
  apply hx
  rw [List.getElem?_take] at hu
  split at hu
  ·exact hu
  ·cases hu
theorem Own.cap (h : Own w base e 1 (.slice A n c) n xs) : n ≤ c ∧ c ≤ maxLen := by
 rcases h.2 with ⟨hv, h0⟩ | ⟨g, cap, hv, hb, hh, hnc, hcm, hx, hc⟩
 ·injection hv with h1 h2 h3
  subst h0 h3
  exact ⟨Nat.le_refl _, Nat.zero_le _⟩
 ·injection hv with h1 h2 h3
  subst h3
  exact ⟨hnc, hcm⟩
def Head (A : Option Addr) : Prop := A = none ∨ ∃ g, A = some ⟨g, 0, none⟩
theorem Own.head (h : Own w base e 1 (.slice A n c) n xs) : Head A := by
 rcases h.2 with ⟨hv, h0⟩ | ⟨g, cap, hv, hb, hh, hnc, hcm, hx, hc⟩
 ·injection hv with h1 h2 h3
  exact .inl h1
 ·injection hv with h1 h2 h3
  exact .inr ⟨g, h1⟩
theorem Own.made (w : World) (base : Nat) (e : TypeId) (n : Nat) (xs : List Value) (hl : xs.length = n) (hb : base ≤ w.heap.size) (hm : n ≤ maxLen) : Own (w.alloc (.cells xs.toArray e)) base e 1 (.slice (some ⟨w.heap.size, 0, none⟩) n n) n xs := by
 refine Own.of ⟨by omega, .inr ⟨w.heap.size, n, xs.toArray, rfl, hb, heap_alloc_new w _, Nat.le_refl _, hm, by simp [hl], ?_⟩⟩
 rw [List.take_of_length_le (by simp [hl])]
end
end Go.Proofs.YtdfojkbgdoiglaaDoor
