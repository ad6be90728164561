/-
  Words for memory that several things share: what has a footprint (a set of blocks), and stays as it is wherever only other blocks turn; append that tells which block its row lies in; copy into a row of the call's own; slices cut short. Layer 3's mathematics: a sequence, whether it may be, its bytes, and the sequence with which bytes begin. Layer 3's mathematics: the sequence with which bytes begin is told there and back, and there is one at most.
-/
import Derived.Test.YtjlhhelikiegdaaGreatDoorG01
import Derived.Test.YtjlhhelikiegdaaGreatDoorG03
import Derived.Laws.IdiomCopy
import Derived.Laws.Slices
namespace Go.Proofs.YtjlhhelikiegdaaGreatDoor
open Go.RowKit
section
structure Fr (w w' : World) (S : Nat → Prop) : Prop where
 os : w'.os = w.os
 tape : w'.tape = w.tape
 output : w'.output = w.output
 size : w.heap.size ≤ w'.heap.size
 block : ∀ k, k < w.heap.size → ¬ S k → w'.heap[k]? = w.heap[k]?
def Wid (w : World) (S S' : Nat → Prop) : Prop := ∀ k, S' k → S k ∨ w.heap.size ≤ k
section
variable {w w' w'' : World} {S S' S'' : Nat → Prop}
theorem Fr.refl (w : World) (S : Nat → Prop) : Fr w w S := ⟨rfl, rfl, rfl, Nat.le_refl _, fun _ _ _ => rfl⟩
theorem Fr.drewN (w : World) (n : Nat) (S : Nat → Prop) : Fr w (w.drewN n) S := ⟨rfl, rfl, rfl, Nat.le_refl _, fun _ _ _ => rfl⟩
theorem Fr.mono (h : Fr w w' S) (hS : ∀ k, S k → S' k) : Fr w w' S' := ⟨h.os, h.tape, h.output, h.size, fun k hk hn => h.block k hk (fun hs => hn (hS k hs))⟩
theorem Fr.trans (h : Fr w w' S) (h' : Fr w' w'' S') (hS : ∀ k, S' k → S k ∨ w.heap.size ≤ k) : Fr w w'' S :=
 ⟨h'.os.trans h.os, h'.tape.trans h.tape, h'.output.trans h.output, Nat.le_trans h.size h'.size, fun k hk hn => (h'.block k (Nat.lt_of_lt_of_le hk h.size) (fun hs => by rcases hS k hs with h1 | h1; exact hn h1; omega)).trans (h.block k hk hn)⟩
theorem Fr.setCell (w : World) (g i : Nat) (u : Value) (S : Nat → Prop) (h : S g) : Fr w (w.setCell ⟨g, i, none⟩ u) S :=
 ⟨rfl, rfl, rfl, by simp [World.setCell], fun k _ hn => Below.heap_setCell w ⟨g, i, none⟩ u k (fun e => hn (by rw [show k = g from e]; exact h))⟩
theorem Fr.below {B : Nat} (h : Fr w w' S) (hB : B ≤ w.heap.size) (hS : ∀ k, S k → B ≤ k) : Below B w w' :=
 ⟨h.os, h.tape, h.output, h.size, fun k hk => h.block k (by omega) (fun hs => by have := hS k hs; omega)⟩
theorem Wid.refl (w : World) (S : Nat → Prop) : Wid w S S := fun _ h => .inl h
theorem Wid.trans (h : Wid w S S') (h' : Wid w' S' S'') (hs : w.heap.size ≤ w'.heap.size) : Wid w S S'' := fun k hk => by
 rcases h' k hk with h1 | h1
 ·exact h k h1
 ·exact .inr (by omega)
theorem Wid.out (h : Wid w S S') {k : Nat} (hk : k < w.heap.size) (hn : ¬ S k) : ¬ S' k := fun hs => by
 rcases h k hs with h1 | h1
 ·exact hn h1
 ·omega
theorem Blk.fr {g : Nat} {t : TypeId} {cs : Array Value} (h : Blk w g t cs) (hf : Fr w w' S) (hn : ¬ S g) : Blk w' g t cs := (hf.block g h.lt hn).trans h
theorem Own.fr {base : Nat} {e : TypeId} {sz : Nat} {v : Value} {n : Nat} {xs : List Value} (h : Own w base e sz v n xs) (hf : Fr w w' S) (hn : ∀ k, v.ownBlock = some k → ¬ S k) : Own w' base e sz v n xs :=
 h.keep fun k hk => hf.block k (h.lt k hk).2 (hn k hk)
def RdOff (w : World) (S : Nat → Prop) (A : Option Addr) (xs : List Value) : Prop :=
 0 < xs.length → ∃ b o, A = some ⟨b, o, none⟩ ∧ b < w.heap.size ∧ ¬ S b ∧ ∀ k u, xs[k]? = some u → w.cell? ⟨b, o + k, none⟩ = some u
variable {A : Option Addr} {xs : List Value}
theorem RdOff.nil (w : World) (S : Nat → Prop) (A : Option Addr) : RdOff w S A [] := fun h => absurd h (by simp)
theorem RdOff.rd (h : RdOff w S A xs) : Rd w A xs := fun hp => by
 obtain ⟨b, o, rfl, hb, _, hc⟩ := h hp
 exact ⟨b, o, rfl, hb, hc⟩
theorem RdOff.fr (h : RdOff w S A xs) (hf : Fr w w' S) (hw : Wid w S S') : RdOff w' S' A xs := fun hp => by
 obtain ⟨b, o, rfl, hb, hn, hc⟩ := h hp
 exact ⟨b, o, rfl, Nat.lt_of_lt_of_le hb hf.size, hw.out hb hn, fun k u hu => (World.cell?_of_block (w := w) (a := ⟨b, o + k, none⟩) (hf.block b hb hn)).trans (hc k u hu)⟩
theorem RdOff.mono (h : RdOff w S A xs) (hS : ∀ k, S' k → S k) : RdOff w S' A xs := fun hp => by
 obtain ⟨b, o, rfl, hb, hn, hc⟩ := h hp
 exact ⟨b, o, rfl, hb, fun hs => hn (hS b hs), hc⟩
theorem RdOff.new (S : Nat → Prop) (o : Obj) (h : Rd (w.alloc o) (some ⟨w.heap.size, 0, none⟩) xs) (hS : ∀ k, S k → k < w.heap.size) : RdOff (w.alloc o) S (some ⟨w.heap.size, 0, none⟩) xs := fun hp => by
 obtain ⟨b, o', hA, hlt, hc⟩ := h hp
 injection hA with hA
 injection hA with h1 h2
 subst h1 h2
 exact ⟨w.heap.size, 0, rfl, hlt, fun hs => Nat.lt_irrefl _ (hS _ hs), hc⟩
end
section
variable {P : Program} (w : World)
end
section
variable {w : World} {base : Nat} {e : TypeId} {A : Option Addr} {n c : Nat} {xs : List Value}
theorem Own.cap (h : Own w base e 1 (.slice A n c) n xs) : n ≤ c ∧ c ≤ maxLen := by
 rcases h.2 with ⟨hv, h0⟩ | ⟨g, cap, hv, hb, hh, hnc, hcm, hx, hc⟩
 ·injection hv with h1 h2 h3
  subst h0 h3
  exact ⟨Nat.le_refl _, Nat.zero_le _⟩
 ·injection hv with h1 h2 h3
  subst h3
  exact ⟨hnc, hcm⟩
def Head (A : Option Addr) : Prop := A = none ∨ ∃ g, A = some ⟨g, 0, none⟩
theorem Own.head (h : Own w base e 1 (.slice A n c) n xs) : Head A := by
 rcases h.2 with ⟨hv, h0⟩ | ⟨g, cap, hv, hb, hh, hnc, hcm, hx, hc⟩
 ·injection hv with h1 h2 h3
  exact .inl h1
 ·injection hv with h1 h2 h3
  exact .inr ⟨g, h1⟩
theorem Own.made (w : World) (base : Nat) (e : TypeId) (n : Nat) (xs : List Value) (hl : xs.length = n) (hb : base ≤ w.heap.size) (hm : n ≤ maxLen) : Own (w.alloc (.cells xs.toArray e)) base e 1 (.slice (some ⟨w.heap.size, 0, none⟩) n n) n xs := by
 refine Own.of ⟨by omega, .inr ⟨w.heap.size, n, xs.toArray, rfl, hb, heap_alloc_new w _, Nat.le_refl _, hm, by simp [hl], ?_⟩⟩
 rw [List.take_of_length_le (by simp [hl])]
end
end
end Go.Proofs.YtjlhhelikiegdaaGreatDoor
namespace Go.Proofs.YtjlhhelikiegdaaGreatDoor
structure Sq where
 kind : Int
 priv : UInt8
 params : List (List Int)
 inter : List UInt8
 final : UInt8
 data : List UInt8
def btw (a b : Nat) (c : UInt8) : Bool := decide (a ≤ c.toNat) && decide (c.toNat ≤ b)
theorem btw_iff (a b : Nat) (c : UInt8) : btw a b c = true ↔ a ≤ c.toNat ∧ c.toNat ≤ b := by simp [btw]
theorem btw_no (a b : Nat) (c : UInt8) : btw a b c = false ↔ ¬ (a ≤ c.toNat ∧ c.toNat ≤ b) := by rw [← btw_iff]; simp
def parOk (l : List (List Int)) : Bool := decide (l.length ≤ 16) && decide (l ≠ [[-1]]) && l.all fun p => decide (1 ≤ p.length) && decide (p.length ≤ 8) && p.all fun n => decide (-1 ≤ n) && decide (n ≤ 1114111)
def lastOk (s : Sq) : Bool :=
 if s.kind = 1 ∨ s.kind = 2 ∨ s.kind = 3 then btw 64 126 s.final
 else if s.kind = 5 then btw 48 126 s.final && (decide (s.inter ≠ []) || !([79, 80, 88, 91, 93, 92, 94, 95] : List UInt8).contains s.final)
 else decide (s.kind = 4) && decide (s.final = 0)
def bareOk (s : Sq) : Bool :=
 !(decide (s.kind = 2 ∨ s.kind = 4 ∨ s.kind = 5) && (decide (s.priv ≠ 0) || decide (s.params ≠ []))) && !(decide (s.kind = 2 ∨ s.kind = 4) && decide (s.inter ≠ [])) && (decide (s.data = []) || decide (s.kind = 3 ∨ s.kind = 4))
def privOk (c : UInt8) : Bool := decide (c = 0) || btw 60 63 c
def okS (s : Sq) : Bool := privOk s.priv && parOk s.params && decide (s.inter.length ≤ 2) && s.inter.all (btw 32 47) && s.data.all (btw 32 126) && lastOk s && bareOk s
def mayS (s : Sq) : Int := if 4096 < s.data.length then 4 else if okS s = true then 0 else 1
def partL : List Int → List UInt8
 | [] => []
 | [n] => textL n
 | n :: m :: p => textL n ++ (58 :: partL (m :: p))
def parL : List (List Int) → List UInt8
 | [] => []
 | [p] => partL p
 | p :: q :: l => partL p ++ (59 :: parL (q :: l))
def privL (c : UInt8) : List UInt8 := if c = 0 then [] else [c]
def bodyL (s : Sq) : List UInt8 := privL s.priv ++ parL s.params ++ s.inter
def putS (s : Sq) : List UInt8 :=
 if s.kind = 1 then 27 :: 91 :: (bodyL s ++ [s.final])
 else if s.kind = 2 then [27, 79, s.final]
 else if s.kind = 3 then 27 :: 80 :: (bodyL s ++ (s.final :: (s.data ++ [27, 92])))
 else if s.kind = 4 then 27 :: 93 :: (s.data ++ [27, 92])
 else 27 :: (s.inter ++ [s.final])
def numsGo (n : Int) (one : List Int) : List UInt8 → List (List Int)
 | [] => [one ++ [n]]
 | c :: l => if isD c = true then numsGo (rd 1114112 n c) one l else if c = 59 then (one ++ [n]) :: numsGo (-1) [] l else numsGo (-1) (one ++ [n]) l
def numsL (l : List UInt8) : List (List Int) := if l = [] then [] else numsGo (-1) [] l
theorem go_figs (l m : List UInt8) (n : Int) (one : List Int) (h : ∀ c ∈ l, isD c = true) : numsGo n one (l ++ m) = numsGo (l.foldl (rd 1114112) n) one m := by
 induction l generalizing n with
 | nil => rfl
 | cons c l ih =>
   have hc := h c (List.mem_cons_self ..)
   rw [List.cons_append]
   show (if isD c = true then numsGo (rd 1114112 n c) one (l ++ m) else _) = _
   rw [if_pos hc, ih _ (fun d hd => h d (List.mem_cons_of_mem _ hd))]
   rfl
theorem go_text (n : Int) (h0 : -1 ≤ n) (h1 : n ≤ 1114111) (m : List UInt8) (one : List Int) : numsGo (-1) one (textL n ++ m) = numsGo n one m := by
 rw [go_figs _ _ _ _ (text_all_isD n)]
 by_cases h : n < 0
 ·rw [textL_neg n h, show n = -1 by omega]; rfl
 ·rw [text_read _ _ (by omega) (by omega), show min n 1114112 = n by omega]
def partOk (p : List Int) : Prop := ∀ n ∈ p, -1 ≤ n ∧ n ≤ 1114111
theorem go_part : ∀ (p : List Int) (_ : p ≠ []) (_ : partOk p) (one : List Int), numsGo (-1) one (partL p) = [one ++ p] ∧ ∀ m, numsGo (-1) one (partL p ++ (59 :: m)) = (one ++ p) :: numsGo (-1) [] m := by
 intro p
 induction p with
 | nil => intro h; exact absurd rfl h
 | cons n p ih =>
   intro _ ho one
   obtain ⟨h0, h1⟩ := ho n (List.mem_cons_self ..)
   cases p with
   | nil =>
     refine ⟨?_, fun m => ?_⟩
     ·have := go_text n h0 h1 [] one
      rw [List.append_nil] at this
      exact this
     ·have := go_text n h0 h1 (59 :: m) one
      exact this
   | cons k p =>
     have ih' := ih (by simp) (fun x hx => ho x (List.mem_cons_of_mem _ hx)) (one ++ [n])
     have e : partL (n :: k :: p) = textL n ++ (58 :: partL (k :: p)) := rfl
     refine ⟨?_, fun m => ?_⟩
     ·rw [e, go_text n h0 h1]
      show numsGo (-1) (one ++ [n]) (partL (k :: p)) = _
      rw [ih'.1, List.append_assoc]; rfl
     ·rw [e, List.append_assoc, go_text n h0 h1]
      show numsGo (-1) (one ++ [n]) (partL (k :: p) ++ (59 :: m)) = _
      rw [ih'.2 m, List.append_assoc]; rfl
theorem go_par : ∀ (l : List (List Int)), l ≠ [] → (∀ p ∈ l, p ≠ [] ∧ partOk p) → numsGo (-1) [] (parL l) = l := by
 intro l
 induction l with
 | nil => intro h; exact absurd rfl h
 | cons p l ih =>
   intro _ ho
   obtain ⟨h0, h1⟩ := ho p (List.mem_cons_self ..)
   cases l with
   | nil => exact (go_part p h0 h1 []).1
   | cons q l =>
     have ih' := ih (by simp) (fun x hx => ho x (List.mem_cons_of_mem _ hx))
     have e : parL (p :: q :: l) = partL p ++ (59 :: parL (q :: l)) := rfl
     rw [e, (go_part p h0 h1 []).2, ih']; rfl
theorem part_nil : ∀ (p : List Int), partOk p → p ≠ [] → partL p = [] → p = [-1] := by
 intro p ho hn h
 match p with
 | [] => exact absurd rfl hn
 | [n] =>
   obtain ⟨h0, h1⟩ := ho n (List.mem_cons_self ..)
   by_cases hneg : n < 0
   ·rw [show n = -1 by omega]
   ·exact absurd h (text_ne n (by omega))
 | n :: m :: p => simp [partL] at h
theorem par_nil : ∀ (l : List (List Int)), (∀ p ∈ l, p ≠ [] ∧ partOk p) → parL l = [] → l = [] ∨ l = [[-1]] := by
 intro l ho h
 match l with
 | [] => exact .inl rfl
 | [p] => exact .inr (by rw [part_nil p (ho p (List.mem_cons_self ..)).2 (ho p (List.mem_cons_self ..)).1 h])
 | p :: q :: l => simp [parL] at h
theorem parOk_all {l : List (List Int)} (h : parOk l = true) : (∀ p ∈ l, p ≠ [] ∧ partOk p) ∧ l ≠ [[-1]] := by
 simp only [parOk, Bool.and_eq_true, decide_eq_true_eq, List.all_eq_true] at h
 refine ⟨fun p hp => ?_, h.1.2⟩
 obtain ⟨⟨h1, _⟩, h2⟩ := h.2 p hp
 refine ⟨fun e => by rw [e] at h1; simp at h1, fun n hn => h2 n hn⟩
theorem nums_par {l : List (List Int)} (h : parOk l = true) : numsL (parL l) = l := by
 obtain ⟨h1, h2⟩ := parOk_all h
 unfold numsL
 by_cases he : l = []
 ·subst he; rfl
 ·rw [if_neg (fun e => (par_nil l h1 e).elim he h2)]
  exact go_par l he h1
theorem part_btw (p : List Int) : ∀ c ∈ partL p, btw 48 59 c = true := by
 have ht : ∀ n, ∀ c ∈ textL n, btw 48 59 c = true := fun n c hc => by
  have := of_decide_eq_true (text_all_isD n c hc)
  rw [btw_iff]; omega
 match p with
 | [] => intro c hc; cases hc
 | [n] => exact ht n
 | n :: m :: p =>
   intro c hc
   rcases List.mem_append.1 (show c ∈ textL n ++ (58 :: partL (m :: p)) from hc) with h | h
   ·exact ht n c h
   ·rcases List.mem_cons.1 h with rfl | h
    ·decide
    ·exact part_btw (m :: p) c h
theorem par_btw (l : List (List Int)) : ∀ c ∈ parL l, btw 48 59 c = true := by
 match l with
 | [] => intro c hc; cases hc
 | [p] => exact part_btw p
 | p :: q :: l =>
   intro c hc
   rcases List.mem_append.1 (show c ∈ partL p ++ (59 :: parL (q :: l)) from hc) with h | h
   ·exact part_btw p c h
   ·rcases List.mem_cons.1 h with rfl | h
    ·decide
    ·exact par_btw (q :: l) c h
theorem tw {p : UInt8 → Bool} {c : UInt8} : ∀ (a m : List UInt8), (∀ x ∈ a, p x = true) → p c = false → (a ++ c :: m).takeWhile p = a := by
 intro a
 induction a with
 | nil => intro m _ hc; rw [List.nil_append, List.takeWhile_cons_of_neg (by rw [hc]; simp)]
 | cons x a ih =>
   intro m h hc
   rw [List.cons_append, List.takeWhile_cons_of_pos (h x (List.mem_cons_self ..)), ih m (fun y hy => h y (List.mem_cons_of_mem _ hy)) hc]
def escS (r : List UInt8) : Option (Sq × Nat) :=
 match r.drop (r.takeWhile (btw 32 47)).length with
 | [] => none
 | f :: _ => some (⟨5, 0, [], r.takeWhile (btw 32 47), f, []⟩, 1 + (r.takeWhile (btw 32 47)).length + 1)
def tailS (k : Int) (pv : UInt8) (n : Nat) (r : List UInt8) : Option (Sq × Nat) :=
 match (r.drop (r.takeWhile (btw 48 59)).length).drop ((r.drop (r.takeWhile (btw 48 59)).length).takeWhile (btw 32 47)).length with
 | [] => none
 | f :: d => some (⟨k, pv, numsL (r.takeWhile (btw 48 59)), (r.drop (r.takeWhile (btw 48 59)).length).takeWhile (btw 32 47), f, if k = 3 then d.takeWhile (btw 32 126) else []⟩,
     n + (r.takeWhile (btw 48 59)).length + ((r.drop (r.takeWhile (btw 48 59)).length).takeWhile (btw 32 47)).length + 1 + if k = 3 then (d.takeWhile (btw 32 126)).length + 2 else 0)
def seqS (k : Int) (r : List UInt8) : Option (Sq × Nat) :=
 match r with
 | c :: r' => if btw 60 63 c = true then tailS k c 3 r' else tailS k 0 2 (c :: r')
 | [] => tailS k 0 2 []
def guessS (t : List UInt8) : Option (Sq × Nat) :=
 match t with
 | c0 :: c1 :: r =>
   if c0 ≠ 27 then none
   else if c1 = 79 then (match r with | f :: _ => some (⟨2, 0, [], [], f, []⟩, 3) | [] => none)
   else if c1 = 93 then some (⟨4, 0, [], [], 0, r.takeWhile (btw 32 126)⟩, 2 + (r.takeWhile (btw 32 126)).length + 2)
   else if c1 = 91 then seqS 1 r
   else if c1 = 80 then seqS 3 r
   else escS (c1 :: r)
 | _ => none
theorem tail_put (k : Int) (pv : UInt8) (n : Nat) (ps : List (List Int)) (it : List UInt8) (f : UInt8) (d m : List UInt8) (hp : parOk ps = true) (hi : ∀ c ∈ it, btw 32 47 c = true) (hf : btw 64 126 f = true) (hd : k = 3 → (∃ m', m = 27 :: m') ∧ ∀ c ∈ d, btw 32 126 c = true) (hk : k ≠ 3 → d = []) :
 tailS k pv n (parL ps ++ (it ++ (f :: (d ++ m)))) = some (⟨k, pv, ps, it, f, d⟩, n + (parL ps).length + it.length + 1 + if k = 3 then d.length + 2 else 0) := by
 have f1 : btw 48 59 f = false := by rw [btw_no]; have := (btw_iff _ _ _).1 hf; omega
 have f2 : btw 32 47 f = false := by rw [btw_no]; have := (btw_iff _ _ _).1 hf; omega
 have e1 : (parL ps ++ (it ++ (f :: (d ++ m)))).takeWhile (btw 48 59) = parL ps := by
  cases it with
  | nil => exact tw _ _ (par_btw ps) f1
  | cons c it =>
    refine tw _ _ (par_btw ps) ?_
    have := (btw_iff _ _ _).1 (hi c (List.mem_cons_self ..))
    rw [btw_no]; omega
 have e2 : (parL ps ++ (it ++ (f :: (d ++ m)))).drop (parL ps).length = it ++ (f :: (d ++ m)) := List.drop_left
 have e3 : (it ++ (f :: (d ++ m))).takeWhile (btw 32 47) = it := tw _ _ hi f2
 have e4 : (it ++ (f :: (d ++ m))).drop it.length = f :: (d ++ m) := List.drop_left
 unfold tailS
 simp only [e1, e2, e3, e4]
 rw [nums_par hp]
 by_cases h3 : k = 3
 ·obtain ⟨⟨m', rfl⟩, hd2⟩ := hd h3
  have e5 : (d ++ 27 :: m').takeWhile (btw 32 126) = d := tw _ _ hd2 (by decide)
  rw [if_pos h3, e5, if_pos h3]
 ·rw [hk h3, if_neg h3, if_neg h3, if_neg h3]
theorem ok_parts {s : Sq} (h : mayS s = 0) : s.data.length ≤ 4096 ∧ privOk s.priv = true ∧ parOk s.params = true ∧ s.inter.length ≤ 2 ∧ (∀ c ∈ s.inter, btw 32 47 c = true) ∧ (∀ c ∈ s.data, btw 32 126 c = true) ∧ lastOk s = true ∧ bareOk s = true := by
 unfold mayS at h
 split at h
 ·cases h
 ·split at h
  ·rename_i h1 h2
   simp only [okS, Bool.and_eq_true, decide_eq_true_eq, List.all_eq_true] at h2
   obtain ⟨⟨⟨⟨⟨⟨a, b⟩, c⟩, d⟩, e⟩, f⟩, g⟩ := h2
   exact ⟨by omega, a, b, c, d, e, f, g⟩
  ·cases h
theorem seq_put (k : Int) (pv : UInt8) (ps : List (List Int)) (it : List UInt8) (f : UInt8) (d m : List UInt8) (hv : privOk pv = true) (hp : parOk ps = true) (hi : ∀ c ∈ it, btw 32 47 c = true) (hf : btw 64 126 f = true) (hd : k = 3 → (∃ m', m = 27 :: m') ∧ ∀ c ∈ d, btw 32 126 c = true) (hk : k ≠ 3 → d = []) :
 seqS k (privL pv ++ (parL ps ++ (it ++ (f :: (d ++ m))))) = some (⟨k, pv, ps, it, f, d⟩, 2 + (privL pv).length + (parL ps).length + it.length + 1 + if k = 3 then d.length + 2 else 0) := by
 by_cases h0 : pv = 0
 ·subst h0
  have ht := tail_put k 0 2 ps it f d m hp hi hf hd hk
  show seqS k (parL ps ++ (it ++ (f :: (d ++ m)))) = _
  have hhead : ∀ c r, parL ps ++ (it ++ (f :: (d ++ m))) = c :: r → btw 60 63 c = false := by
   intro c r e
   rw [btw_no]
   cases hps : parL ps with
   | cons x xs =>
     rw [hps] at e
     obtain rfl : x = c := by simpa using congrArg List.head? e
     have := (btw_iff _ _ _).1 (par_btw ps x (by rw [hps]; exact List.mem_cons_self ..))
     omega
   | nil =>
     rw [hps] at e
     cases it with
     | cons x xs =>
       obtain rfl : x = c := by simpa using congrArg List.head? e
       have := (btw_iff _ _ _).1 (hi x (List.mem_cons_self ..))
       omega
     | nil =>
       obtain rfl : f = c := by simpa using congrArg List.head? e
       have := (btw_iff _ _ _).1 hf
       omega
  generalize parL ps ++ (it ++ (f :: (d ++ m))) = t at *
  cases t with
  | nil => exact ht
  | cons c r =>
    unfold seqS
    dsimp only
    rw [if_neg (by rw [hhead c r rfl]; decide)]
    exact ht
 ·have e : privL pv = [pv] := if_neg h0
  have hb : btw 60 63 pv = true := by
   simp only [privOk, Bool.or_eq_true, decide_eq_true_eq] at hv
   exact hv.resolve_left h0
  rw [e]
  unfold seqS
  simp only [List.cons_append, List.nil_append]
  rw [if_pos hb, tail_put k pv 3 ps it f d m hp hi hf hd hk]
  simp
theorem guess_put {s : Sq} (h : mayS s = 0) (m : List UInt8) : guessS (putS s ++ m) = some (s, (putS s).length) := by
 obtain ⟨_, hv, hp, _, hi, hd, hl, hb⟩ := ok_parts h
 obtain ⟨k, pv, ps, it, f, d⟩ := s
 dsimp only at hv hp hi hd
 have hcases : k = 1 ∨ k = 2 ∨ k = 3 ∨ k = 4 ∨ k = 5 := by
  unfold lastOk at hl
  dsimp only at hl
  split at hl
  ·omega
  ·split at hl
   ·omega
   ·simp only [Bool.and_eq_true, decide_eq_true_eq] at hl; omega
 rcases hcases with rfl | rfl | rfl | rfl | rfl
 ·
  have hf : btw 64 126 f = true := by simpa [lastOk] using hl
  have hd0 : d = [] := by simpa [bareOk] using hb
  subst hd0
  have := seq_put 1 pv ps it f [] m hv hp hi hf (by omega) (fun _ => rfl)
  have e : putS ⟨1, pv, ps, it, f, []⟩ ++ m = 27 :: 91 :: (privL pv ++ (parL ps ++ (it ++ (f :: ([] ++ m))))) := by
   simp [putS, bodyL]
  rw [e]
  show seqS 1 _ = _
  rw [this]
  simp [putS, bodyL]; omega
 ·
  have h1 : pv = 0 ∧ ps = [] ∧ it = [] ∧ d = [] := by
   simp [bareOk] at hb
   obtain ⟨⟨⟨a, b⟩, c⟩, e⟩ := hb
   exact ⟨a, b, c, e⟩
  obtain ⟨rfl, rfl, rfl, rfl⟩ := h1
  rfl
 ·
  have hf : btw 64 126 f = true := by simpa [lastOk] using hl
  have := seq_put 3 pv ps it f d (27 :: 92 :: m) hv hp hi hf (fun _ => ⟨⟨_, rfl⟩, hd⟩) (fun h => absurd rfl h)
  have e : putS ⟨3, pv, ps, it, f, d⟩ ++ m = 27 :: 80 :: (privL pv ++ (parL ps ++ (it ++ (f :: (d ++ (27 :: 92 :: m)))))) := by
   simp [putS, bodyL]
  rw [e]
  show seqS 3 _ = _
  rw [this]
  simp [putS, bodyL]; omega
 ·
  have h1 : pv = 0 ∧ ps = [] ∧ it = [] := by
   simp [bareOk] at hb
   exact ⟨hb.1.1, hb.1.2, hb.2⟩
  have hf : f = 0 := by simpa [lastOk] using hl
  obtain ⟨rfl, rfl, rfl⟩ := h1
  subst hf
  have e : putS ⟨4, 0, [], [], 0, d⟩ ++ m = 27 :: 93 :: (d ++ (27 :: 92 :: m)) := by simp [putS]
  rw [e]
  show some _ = _
  rw [tw d (92 :: m) hd (by decide)]
  simp [putS]; omega
 ·
  have h1 : pv = 0 ∧ ps = [] ∧ d = [] := by
   simp [bareOk] at hb
   exact ⟨hb.1.1, hb.1.2, hb.2⟩
  obtain ⟨rfl, rfl, rfl⟩ := h1
  have hf : btw 48 126 f = true ∧ (it ≠ [] ∨ ¬ (f = 79 ∨ f = 80 ∨ f = 88 ∨ f = 91 ∨ f = 93 ∨ f = 92 ∨ f = 94 ∨ f = 95)) := by
   simp [lastOk] at hl
   refine ⟨hl.1, ?_⟩
   rcases hl.2 with h | h
   ·exact .inl h
   ·right
    intro hh
    rcases hh with rfl | rfl | rfl | rfl | rfl | rfl | rfl | rfl <;> simp at h
  have f2 : btw 32 47 f = false := by rw [btw_no]; have := (btw_iff _ _ _).1 hf.1; omega
  have e : putS ⟨5, 0, [], it, f, []⟩ ++ m = 27 :: (it ++ (f :: m)) := by simp [putS]
  have hg : ∀ c1 r, it ++ (f :: m) = c1 :: r → c1 ≠ 79 ∧ c1 ≠ 93 ∧ c1 ≠ 91 ∧ c1 ≠ 80 := by
   intro c1 r e
   cases it with
   | cons x xs =>
     obtain rfl : x = c1 := by simpa using congrArg List.head? e
     have := (btw_iff _ _ _).1 (hi x (List.mem_cons_self ..))
     refine ⟨?_, ?_, ?_, ?_⟩ <;> (rintro rfl; simp at this)
   | nil =>
     obtain rfl : f = c1 := by simpa using congrArg List.head? e
     have := hf.2.resolve_left (by simp)
     refine ⟨?_, ?_, ?_, ?_⟩ <;> (intro h; exact this (by simp [h]))
  rw [e]
  have es : escS (it ++ (f :: m)) = some (⟨5, 0, [], it, f, []⟩, 1 + it.length + 1) := by
   unfold escS
   rw [tw it m hi f2, List.drop_left]
  cases ht : it ++ (f :: m) with
  | nil => simp at ht
  | cons c1 r =>
    obtain ⟨g1, g2, g3, g4⟩ := hg c1 r ht
    show (if (27 : UInt8) ≠ 27 then none else _) = _
    rw [if_neg (by simp), if_neg g1, if_neg g2, if_neg g3, if_neg g4, ← ht, es]
    simp [putS]; omega
def takeS (b : List UInt8) : Option (Sq × Nat) :=
 match guessS b with
 | some (s, n) => if n ≤ b.length ∧ mayS s = 0 ∧ putS s = b.take n then some (s, n) else none
 | none => none
theorem takeS_put {s : Sq} (h : mayS s = 0) (m : List UInt8) : takeS (putS s ++ m) = some (s, (putS s).length) := by
 unfold takeS
 rw [guess_put h m]
 dsimp only
 rw [if_pos ⟨by rw [List.length_append]; omega, h, by rw [List.take_left]⟩]
theorem takeS_some {b : List UInt8} {s : Sq} {n : Nat} (h : takeS b = some (s, n)) : mayS s = 0 ∧ n = (putS s).length ∧ b = putS s ++ b.drop n := by
 unfold takeS at h
 split at h
 ·rename_i s' n' hg
  split at h
  ·rename_i hc
   simp only [Option.some.injEq, Prod.mk.injEq] at h
   obtain ⟨rfl, rfl⟩ := h
   refine ⟨hc.2.1, ?_, by rw [hc.2.2, List.take_append_drop]⟩
   rw [hc.2.2, List.length_take]; omega
  ·cases h
 ·cases h
end Go.Proofs.YtjlhhelikiegdaaGreatDoor
