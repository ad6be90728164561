/-
  Numbers in figures, plainly: no program is named here. (Later layers' texts take this in the place of layer 1's own.) Layer 3's mathematics: a sequence, whether it may be, its bytes, and the sequence with which bytes begin. Words for memory that several things share: what has a footprint (a set of blocks), and stays as it is wherever only other blocks turn; append that tells which block its row lies in; copy into a row of the call's own; slices cut short. The library's comparison of two lists of numbers, walked.
-/
import Derived.Test.YtmagokkegadmiaaGreatDoorG03
import Derived.Lib.ItoaLen
import Derived.Laws.IdiomCopy
import Derived.Laws.Slices
import Derived.Deep.QuietTactic
import Derived.BigQuiet
namespace Go.Proofs.YtmagokkegadmiaaGreatDoor

/-- A number in figures. -/
def textL (n : Int) : List UInt8 := if n < 0 then [] else Lib.decDigits n.toNat
theorem textL_neg (n : Int) (h : n < 0) : textL n = [] := if_pos h
theorem textL_small (n : Int) (h0 : 0 ≤ n) (h : n < 10) : textL n = [UInt8.ofNat (48 + n.toNat)] := by
  unfold textL; rw [if_neg (by omega), Lib.decDigits, dif_pos (by omega)]
theorem textL_big (n : Int) (h : 10 ≤ n) : textL n = textL (n / 10) ++ [UInt8.ofNat (48 + (n % 10).toNat)] := by
  unfold textL
  rw [if_neg (by omega), if_neg (by omega), Lib.decDigits, dif_neg (by omega)]
  rw [show (n / 10).toNat = n.toNat / 10 by omega, show (n % 10).toNat = n.toNat % 10 by omega]
theorem textL_length (n : Int) (h1 : n ≤ 9223372036854775807) : (textL n).length ≤ 21 := by
  by_cases h : n < 0
  · rw [textL_neg n h]; simp
  · rw [show textL n = Lib.itoa n by unfold textL Lib.itoa; rw [if_neg h, if_neg h]]
    exact Lib.itoa_length_le n (by omega) h1

def isD (c : UInt8) : Bool := decide (48 ≤ c.toNat ∧ c.toNat ≤ 57)
theorem digit_isD (k : Nat) (h : k < 10) : isD (UInt8.ofNat (48 + k)) = true ∧ (UInt8.ofNat (48 + k)).toNat = 48 + k := by
  have e : (UInt8.ofNat (48 + k)).toNat = 48 + k := UInt8.toNat_ofNat_of_lt' (by show 48 + k < 256; omega)
  unfold isD
  rw [e]
  exact ⟨decide_eq_true (by omega), rfl⟩
theorem dec_step (u : Nat) (h : ¬ u < 10) : Lib.decDigits u = Lib.decDigits (u / 10) ++ [UInt8.ofNat (48 + u % 10)] := by rw [Lib.decDigits, dif_neg h]
theorem dec_small (u : Nat) (h : u < 10) : Lib.decDigits u = [UInt8.ofNat (48 + u)] := by rw [Lib.decDigits, dif_pos h]
theorem dec_all (u : Nat) : ∀ c ∈ Lib.decDigits u, isD c = true := by
  induction u using Nat.strongRecOn with
  | _ u ih =>
    by_cases h : u < 10
    · rw [dec_small u h]
      intro c hc
      rw [List.mem_singleton] at hc
      subst hc
      exact (digit_isD u h).1
    · rw [dec_step u h]
      intro c hc
      rcases List.mem_append.1 hc with hc | hc
      · exact ih (u / 10) (by omega) c hc
      · rw [List.mem_singleton] at hc
        subst hc
        exact (digit_isD (u % 10) (by omega)).1
theorem dec_ne (u : Nat) : Lib.decDigits u ≠ [] := by
  by_cases h : u < 10
  · rw [dec_small u h]; simp
  · rw [dec_step u h]; simp
/-- Figures read on, held down at a greatest number. -/
def rd (M : Int) (n : Int) (c : UInt8) : Int := min (10 * max n 0 + ((c.toNat : Int) - 48)) M
theorem dec_read (M : Int) (u : Nat) (hM : 9 ≤ M) : (Lib.decDigits u).foldl (rd M) (-1) = min (u : Int) M := by
  induction u using Nat.strongRecOn with
  | _ u ih =>
    by_cases h : u < 10
    · rw [dec_small u h, List.foldl_cons, List.foldl_nil, rd, (digit_isD u h).2]; omega
    · rw [dec_step u h, List.foldl_append, ih (u / 10) (by omega), List.foldl_cons, List.foldl_nil, rd, (digit_isD (u % 10) (by omega)).2]; omega
theorem text_read (M n : Int) (hM : 9 ≤ M) (h : 0 ≤ n) : (textL n).foldl (rd M) (-1) = min n M := by
  unfold textL
  rw [if_neg (by omega), dec_read M _ hM]
  omega
theorem text_all_isD (n : Int) : ∀ c ∈ textL n, isD c = true := by
  unfold textL
  split
  · intro c hc; cases hc
  · exact dec_all _
theorem text_ne (n : Int) (h : 0 ≤ n) : textL n ≠ [] := by
  unfold textL
  rw [if_neg (by omega)]
  exact dec_ne _
end Go.Proofs.YtmagokkegadmiaaGreatDoor
namespace Go.Proofs.YtmagokkegadmiaaGreatDoor

structure Sq where
  kind : Int
  priv : UInt8
  params : List (List Int)
  inter : List UInt8
  final : UInt8
  data : List UInt8

/-- From one byte to another one. -/
def btw (a b : Nat) (c : UInt8) : Bool := decide (a ≤ c.toNat) && decide (c.toNat ≤ b)
theorem btw_iff (a b : Nat) (c : UInt8) : btw a b c = true ↔ a ≤ c.toNat ∧ c.toNat ≤ b := by simp [btw]
theorem btw_no (a b : Nat) (c : UInt8) : btw a b c = false ↔ ¬ (a ≤ c.toNat ∧ c.toNat ≤ b) := by rw [← btw_iff]; simp
def parOk (l : List (List Int)) : Bool := decide (l.length ≤ 16) && decide (l ≠ [[-1]]) && l.all fun p => decide (1 ≤ p.length) && decide (p.length ≤ 8) && p.all fun n => decide (-1 ≤ n) && decide (n ≤ 1114111)
def lastOk (s : Sq) : Bool :=
  if s.kind = 1 ∨ s.kind = 2 ∨ s.kind = 3 then btw 64 126 s.final
  else if s.kind = 5 then btw 48 126 s.final && (decide (s.inter ≠ []) || !([79, 80, 88, 91, 93, 92, 94, 95] : List UInt8).contains s.final)
  else decide (s.kind = 4) && decide (s.final = 0)
def bareOk (s : Sq) : Bool :=
  !(decide (s.kind = 2 ∨ s.kind = 4 ∨ s.kind = 5) && (decide (s.priv ≠ 0) || decide (s.params ≠ []))) && !(decide (s.kind = 2 ∨ s.kind = 4) && decide (s.inter ≠ [])) && (decide (s.data = []) || decide (s.kind = 3 ∨ s.kind = 4))
def privOk (c : UInt8) : Bool := decide (c = 0) || btw 60 63 c
def okS (s : Sq) : Bool := privOk s.priv && parOk s.params && decide (s.inter.length ≤ 2) && s.inter.all (btw 32 47) && s.data.all (btw 32 126) && lastOk s && bareOk s
/-- The error's number. -/
def mayS (s : Sq) : Int := if 4096 < s.data.length then 4 else if okS s = true then 0 else 1

/-- A parameter's parts; all parameters; the body. -/
def partL : List Int → List UInt8
  | [] => []
  | [n] => textL n
  | n :: m :: p => textL n ++ (58 :: partL (m :: p))
def parL : List (List Int) → List UInt8
  | [] => []
  | [p] => partL p
  | p :: q :: l => partL p ++ (59 :: parL (q :: l))
def privL (c : UInt8) : List UInt8 := if c = 0 then [] else [c]
def bodyL (s : Sq) : List UInt8 := privL s.priv ++ parL s.params ++ s.inter
def putS (s : Sq) : List UInt8 :=
  if s.kind = 1 then 27 :: 91 :: (bodyL s ++ [s.final])
  else if s.kind = 2 then [27, 79, s.final]
  else if s.kind = 3 then 27 :: 80 :: (bodyL s ++ (s.final :: (s.data ++ [27, 92])))
  else if s.kind = 4 then 27 :: 93 :: (s.data ++ [27, 92])
  else 27 :: (s.inter ++ [s.final])

/-- The parameters in bytes of figures, colons and semicolons. -/
def numsGo (n : Int) (one : List Int) : List UInt8 → List (List Int)
  | [] => [one ++ [n]]
  | c :: l => if isD c = true then numsGo (rd 1114112 n c) one l else if c = 59 then (one ++ [n]) :: numsGo (-1) [] l else numsGo (-1) (one ++ [n]) l
def numsL (l : List UInt8) : List (List Int) := if l = [] then [] else numsGo (-1) [] l

/-- What follows figures isn't one. -/
theorem go_figs (l m : List UInt8) (n : Int) (one : List Int) (h : ∀ c ∈ l, isD c = true) : numsGo n one (l ++ m) = numsGo (l.foldl (rd 1114112) n) one m := by
  induction l generalizing n with
  | nil => rfl
  | cons c l ih =>
    have hc := h c (List.mem_cons_self ..)
    rw [List.cons_append]
    show (if isD c = true then numsGo (rd 1114112 n c) one (l ++ m) else _) = _
    rw [if_pos hc, ih _ (fun d hd => h d (List.mem_cons_of_mem _ hd))]
    rfl
theorem go_text (n : Int) (h0 : -1 ≤ n) (h1 : n ≤ 1114111) (m : List UInt8) (one : List Int) : numsGo (-1) one (textL n ++ m) = numsGo n one m := by
  rw [go_figs _ _ _ _ (text_all_isD n)]
  by_cases h : n < 0
  · rw [textL_neg n h, show n = -1 by omega]; rfl
  · rw [text_read _ _ (by omega) (by omega), show min n 1114112 = n by omega]
def partOk (p : List Int) : Prop := ∀ n ∈ p, -1 ≤ n ∧ n ≤ 1114111
theorem go_part : ∀ (p : List Int) (_ : p ≠ []) (_ : partOk p) (one : List Int), numsGo (-1) one (partL p) = [one ++ p] ∧ ∀ m, numsGo (-1) one (partL p ++ (59 :: m)) = (one ++ p) :: numsGo (-1) [] m := by
  intro p
  induction p with
  | nil => intro h; exact absurd rfl h
  | cons n p ih =>
    intro _ ho one
    obtain ⟨h0, h1⟩ := ho n (List.mem_cons_self ..)
    cases p with
    | nil =>
      refine ⟨?_, fun m => ?_⟩
      · have := go_text n h0 h1 [] one
        rw [List.append_nil] at this
        exact this
      · have := go_text n h0 h1 (59 :: m) one
        exact this
    | cons k p =>
      have ih' := ih (by simp) (fun x hx => ho x (List.mem_cons_of_mem _ hx)) (one ++ [n])
      have e : partL (n :: k :: p) = textL n ++ (58 :: partL (k :: p)) := rfl
      refine ⟨?_, fun m => ?_⟩
      · rw [e, go_text n h0 h1]
        show numsGo (-1) (one ++ [n]) (partL (k :: p)) = _
        rw [ih'.1, List.append_assoc]; rfl
      · rw [e, List.append_assoc, go_text n h0 h1]
        show numsGo (-1) (one ++ [n]) (partL (k :: p) ++ (59 :: m)) = _
        rw [ih'.2 m, List.append_assoc]; rfl
theorem go_par : ∀ (l : List (List Int)), l ≠ [] → (∀ p ∈ l, p ≠ [] ∧ partOk p) → numsGo (-1) [] (parL l) = l := by
  intro l
  induction l with
  | nil => intro h; exact absurd rfl h
  | cons p l ih =>
    intro _ ho
    obtain ⟨h0, h1⟩ := ho p (List.mem_cons_self ..)
    cases l with
    | nil => exact (go_part p h0 h1 []).1
    | cons q l =>
      have ih' := ih (by simp) (fun x hx => ho x (List.mem_cons_of_mem _ hx))
      have e : parL (p :: q :: l) = partL p ++ (59 :: parL (q :: l)) := rfl
      rw [e, (go_part p h0 h1 []).2, ih']; rfl
theorem part_nil : ∀ (p : List Int), partOk p → p ≠ [] → partL p = [] → p = [-1] := by
  intro p ho hn h
  match p with
  | [] => exact absurd rfl hn
  | [n] =>
    obtain ⟨h0, h1⟩ := ho n (List.mem_cons_self ..)
    by_cases hneg : n < 0
    · rw [show n = -1 by omega]
    · exact absurd h (text_ne n (by omega))
  | n :: m :: p => simp [partL] at h
theorem par_nil : ∀ (l : List (List Int)), (∀ p ∈ l, p ≠ [] ∧ partOk p) → parL l = [] → l = [] ∨ l = [[-1]] := by
  intro l ho h
  match l with
  | [] => exact .inl rfl
  | [p] => exact .inr (by rw [part_nil p (ho p (List.mem_cons_self ..)).2 (ho p (List.mem_cons_self ..)).1 h])
  | p :: q :: l => simp [parL] at h
theorem parOk_all {l : List (List Int)} (h : parOk l = true) : (∀ p ∈ l, p ≠ [] ∧ partOk p) ∧ l ≠ [[-1]] := by
  simp only [parOk, Bool.and_eq_true, decide_eq_true_eq, List.all_eq_true] at h
  refine ⟨fun p hp => ?_, h.1.2⟩
  obtain ⟨⟨h1, _⟩, h2⟩ := h.2 p hp
  refine ⟨fun e => by rw [e] at h1; simp at h1, fun n hn => h2 n hn⟩
theorem nums_par {l : List (List Int)} (h : parOk l = true) : numsL (parL l) = l := by
  obtain ⟨h1, h2⟩ := parOk_all h
  unfold numsL
  by_cases he : l = []
  · subst he; rfl
  · rw [if_neg (fun e => (par_nil l h1 e).elim he h2)]
    exact go_par l he h1
/-- A parameter's bytes: figures, colons, semicolons. -/
theorem part_btw (p : List Int) : ∀ c ∈ partL p, btw 48 59 c = true := by
  have ht : ∀ n, ∀ c ∈ textL n, btw 48 59 c = true := fun n c hc => by
    have := of_decide_eq_true (text_all_isD n c hc)
    rw [btw_iff]; omega
  match p with
  | [] => intro c hc; cases hc
  | [n] => exact ht n
  | n :: m :: p =>
    intro c hc
    rcases List.mem_append.1 (show c ∈ textL n ++ (58 :: partL (m :: p)) from hc) with h | h
    · exact ht n c h
    · rcases List.mem_cons.1 h with rfl | h
      · decide
      · exact part_btw (m :: p) c h
theorem par_btw (l : List (List Int)) : ∀ c ∈ parL l, btw 48 59 c = true := by
  match l with
  | [] => intro c hc; cases hc
  | [p] => exact part_btw p
  | p :: q :: l =>
    intro c hc
    rcases List.mem_append.1 (show c ∈ partL p ++ (59 :: parL (q :: l)) from hc) with h | h
    · exact part_btw p c h
    · rcases List.mem_cons.1 h with rfl | h
      · decide
      · exact par_btw (q :: l) c h
end Go.Proofs.YtmagokkegadmiaaGreatDoor
namespace Go.Proofs.YtmagokkegadmiaaGreatDoor
open Go.RowKit

/-- Nothing turns but blocks of S, and new ones. -/
structure Fr (w w' : World) (S : Nat → Prop) : Prop where
  os : w'.os = w.os
  tape : w'.tape = w.tape
  output : w'.output = w.output
  size : w.heap.size ≤ w'.heap.size
  block : ∀ k, k < w.heap.size → ¬ S k → w'.heap[k]? = w.heap[k]?
/-- S' is S, but for new blocks. -/
def Wid (w : World) (S S' : Nat → Prop) : Prop := ∀ k, S' k → S k ∨ w.heap.size ≤ k

section
variable {w w' w'' : World} {S S' S'' : Nat → Prop}
theorem Fr.refl (w : World) (S : Nat → Prop) : Fr w w S := ⟨rfl, rfl, rfl, Nat.le_refl _, fun _ _ _ => rfl⟩
theorem Fr.drewN (w : World) (n : Nat) (S : Nat → Prop) : Fr w (w.drewN n) S := ⟨rfl, rfl, rfl, Nat.le_refl _, fun _ _ _ => rfl⟩
theorem Fr.mono (h : Fr w w' S) (hS : ∀ k, S k → S' k) : Fr w w' S' := ⟨h.os, h.tape, h.output, h.size, fun k hk hn => h.block k hk (fun hs => hn (hS k hs))⟩
theorem Fr.trans (h : Fr w w' S) (h' : Fr w' w'' S') (hS : ∀ k, S' k → S k ∨ w.heap.size ≤ k) : Fr w w'' S :=
  ⟨h'.os.trans h.os, h'.tape.trans h.tape, h'.output.trans h.output, Nat.le_trans h.size h'.size, fun k hk hn => (h'.block k (Nat.lt_of_lt_of_le hk h.size) (fun hs => by rcases hS k hs with h1 | h1; exact hn h1; omega)).trans (h.block k hk hn)⟩
theorem Fr.of_below (h : Below w.heap.size w w') (S : Nat → Prop) : Fr w w' S := ⟨h.os, h.tape, h.output, h.size, fun k hk _ => h.block k hk⟩
theorem Fr.of_grown {row : Option Nat} (h : w.grownBy w' row) : Fr w w' (fun k => row = some k) := ⟨h.os, h.tape, h.output, h.size, fun k hk hn => h.block k hk (fun e => hn e.symm)⟩
theorem Fr.setCell (w : World) (g i : Nat) (u : Value) (S : Nat → Prop) (h : S g) : Fr w (w.setCell ⟨g, i, none⟩ u) S :=
  ⟨rfl, rfl, rfl, by simp [World.setCell], fun k _ hn => Below.heap_setCell w ⟨g, i, none⟩ u k (fun e => hn (by rw [show k = g from e]; exact h))⟩
theorem Fr.below {B : Nat} (h : Fr w w' S) (hB : B ≤ w.heap.size) (hS : ∀ k, S k → B ≤ k) : Below B w w' :=
  ⟨h.os, h.tape, h.output, h.size, fun k hk => h.block k (by omega) (fun hs => by have := hS k hs; omega)⟩
theorem Wid.refl (w : World) (S : Nat → Prop) : Wid w S S := fun _ h => .inl h
theorem Wid.trans (h : Wid w S S') (h' : Wid w' S' S'') (hs : w.heap.size ≤ w'.heap.size) : Wid w S S'' := fun k hk => by
  rcases h' k hk with h1 | h1
  · exact h k h1
  · exact .inr (by omega)
/-- What lies outside S, and was there, lies outside S', too. -/
theorem Wid.out (h : Wid w S S') {k : Nat} (hk : k < w.heap.size) (hn : ¬ S k) : ¬ S' k := fun hs => by
  rcases h k hs with h1 | h1
  · exact hn h1
  · omega

theorem Blk.fr {g : Nat} {t : TypeId} {cs : Array Value} (h : Blk w g t cs) (hf : Fr w w' S) (hn : ¬ S g) : Blk w' g t cs := (hf.block g h.lt hn).trans h
theorem Own.fr {base : Nat} {e : TypeId} {sz : Nat} {v : Value} {n : Nat} {xs : List Value} (h : Own w base e sz v n xs) (hf : Fr w w' S) (hn : ∀ k, v.ownBlock = some k → ¬ S k) : Own w' base e sz v n xs :=
  h.keep fun k hk => hf.block k (h.lt k hk).2 (hn k hk)

/-- A slice that reads as xs, and lies outside S. -/
def RdOff (w : World) (S : Nat → Prop) (A : Option Addr) (xs : List Value) : Prop :=
  0 < xs.length → ∃ b o, A = some ⟨b, o, none⟩ ∧ b < w.heap.size ∧ ¬ S b ∧ ∀ k u, xs[k]? = some u → w.cell? ⟨b, o + k, none⟩ = some u
variable {A : Option Addr} {xs : List Value}
theorem RdOff.nil (w : World) (S : Nat → Prop) (A : Option Addr) : RdOff w S A [] := fun h => absurd h (by simp)
theorem RdOff.rd (h : RdOff w S A xs) : Rd w A xs := fun hp => by
  obtain ⟨b, o, rfl, hb, _, hc⟩ := h hp
  exact ⟨b, o, rfl, hb, hc⟩
theorem RdOff.fr (h : RdOff w S A xs) (hf : Fr w w' S) (hw : Wid w S S') : RdOff w' S' A xs := fun hp => by
  obtain ⟨b, o, rfl, hb, hn, hc⟩ := h hp
  exact ⟨b, o, rfl, Nat.lt_of_lt_of_le hb hf.size, hw.out hb hn, fun k u hu => (World.cell?_of_block (w := w) (a := ⟨b, o + k, none⟩) (hf.block b hb hn)).trans (hc k u hu)⟩
theorem RdOff.of_rdIn {n₁ : Nat} (h : RdIn n₁ w A xs) (hn : n₁ ≤ w.heap.size) (hS : ∀ k, S k → n₁ ≤ k) : RdOff w S A xs := fun hp => by
  obtain ⟨b, o, rfl, hb, hc⟩ := h hp
  exact ⟨b, o, rfl, by omega, fun hs => by have := hS b hs; omega, hc⟩
theorem RdOff.mono (h : RdOff w S A xs) (hS : ∀ k, S' k → S k) : RdOff w S' A xs := fun hp => by
  obtain ⟨b, o, rfl, hb, hn, hc⟩ := h hp
  exact ⟨b, o, rfl, hb, fun hs => hn (hS b hs), hc⟩
/-- What was there ahead of all of S. -/
theorem RdOff.ahead (h : Rd w A xs) (hb : Below w.heap.size w w') (hS : ∀ k, S k → w.heap.size ≤ k) : RdOff w' S A xs := RdOff.of_rdIn ((RdIn.of h).below hb) hb.size hS
/-- What lies in a block behind all of S. -/
theorem RdOff.new (S : Nat → Prop) (o : Obj) (h : Rd (w.alloc o) (some ⟨w.heap.size, 0, none⟩) xs) (hS : ∀ k, S k → k < w.heap.size) : RdOff (w.alloc o) S (some ⟨w.heap.size, 0, none⟩) xs := fun hp => by
  obtain ⟨b, o', hA, hlt, hc⟩ := h hp
  injection hA with hA
  injection hA with h1 h2
  subst h1 h2
  exact ⟨w.heap.size, 0, rfl, hlt, fun hs => Nat.lt_irrefl _ (hS _ hs), hc⟩
theorem RdOff.of_own {base : Nat} {e : TypeId} {n : Nat} {c : Nat} (h : Own w base e 1 (.slice A n c) n xs) (hS : ∀ k, (Value.slice A n c).ownBlock = some k → ¬ S k) : RdOff w S A xs := fun hp => by
  have hl := h.1
  obtain ⟨g, cap, hv, _, hg, _⟩ := h.some_ (by omega)
  injection hv with hA
  subst hA
  obtain ⟨b, o, hb, hlt, hc⟩ := h.rd hp
  simp only [Option.some.injEq, Addr.mk.injEq, and_true] at hb
  obtain ⟨rfl, rfl⟩ := hb
  exact ⟨g, 0, rfl, hlt, hS g rfl, hc⟩
end

section
variable {P : Program} (w : World)
/-- append, and which block its row lies in. -/
theorem run_appB (base : Nat) (t ty e : TypeId) (i : TypeInfo) (z : Value) (sz bytes : Nat) (ht : P.underlying t = some (.slice e)) (hi : P.info? e = some i) (hz : i.zero = some z) (hsize : i.size = sz) (hby : i.bytes = bytes) (hzs : z.cells.size = sz) (hsz : 0 < sz)
    (v : Value) (n : Nat) (xs : List Value) (hown : Own w base e sz v n xs) (A : Option Addr) (m c : Nat) (news : List Value) (hl : news.length = m * sz) (hr : Rd w A news) (h1 : ∀ u ∈ news, u.oneCell' = true)
    (h63 : n + m ≤ maxLen) (hlim : (n + m) * bytes ≤ 140737488355328) (hbase : base ≤ w.heap.size) :
    ∃ v' w', (Builtin.append_ #[t, t] ty #[v, .slice A m c]).run P w = .ok v' w' ∧ Own w' base e sz v' (n + m) (xs ++ news) ∧ w.grownBy w' v.ownBlock ∧ (∀ k, v'.ownBlock = some k → v.ownBlock = some k ∨ w.heap.size ≤ k) := by
  by_cases hv : v = .slice none 0 0 ∧ n = 0
  · obtain ⟨rfl, rfl⟩ := hv
    obtain ⟨v', w', r1, r2, r3⟩ := run_app (P := P) w w.heap.size t ty e i z sz bytes ht hi hz hsize hby hzs hsz (.slice none 0 0) 0 xs ⟨hown.1, .inl ⟨rfl, rfl⟩⟩ A m c news hl hr h1 h63 hlim (Nat.le_refl _)
    exact ⟨v', w', r1, r2.mono hbase, r3, fun k hk => .inr (r2.lt k hk).1⟩
  · obtain ⟨v', w', r1, r2, r3⟩ := run_app (P := P) w base t ty e i z sz bytes ht hi hz hsize hby hzs hsz v n xs hown A m c news hl hr h1 h63 hlim hbase
    refine ⟨v', w', r1, r2, r3, ?_⟩
    rcases hown.2 with hn | ⟨g, cap, rfl, hbg, ⟨cur, fz, hh⟩, hnc, hcm, hx, hcl⟩
    · exact absurd hn hv
    · have hxl : xs.length = n * sz := hown.1
      have hmul : (n + m) * sz = n * sz + m * sz := Nat.add_mul n m sz
      by_cases hm : m = 0
      · subst hm
        have hrun : (Builtin.append_ #[t, t] ty #[.slice (some ⟨g, 0, none⟩) n cap, .slice A 0 c]).run P w = .ok (.slice (some ⟨g, 0, none⟩) n cap) w := by
          rcases A with _ | a
          · simp [Builtin.append_, run_underlying ht, sizeOf, typeInfo, hi, Builtin.lenOf, Builtin.firstCells, hnc, storeCells]
          · simp [Builtin.append_, run_underlying ht, sizeOf, typeInfo, hi, Builtin.lenOf, Builtin.firstCells, hnc, storeCells, loadCells, loadCellsFrom]
        rw [hrun] at r1
        injection r1 with r1 _
        subst r1
        exact fun k hk => .inl hk
      · have hp : 0 < news.length := by rw [hl]; exact Nat.mul_pos (by omega) hsz
        obtain ⟨b, o, rfl, hb, hc⟩ := hr hp
        have hnews : ∀ j u, news[j]? = some u → w.cell? ((⟨b, o, none⟩ : Addr).add j) = some u := fun j u hu => by rw [addr_add_at]; exact hc j u hu
        by_cases hroom : n + m ≤ cap
        · have hcap : (n + m) * sz ≤ cap * sz := Nat.mul_le_mul_right _ hroom
          have hrun := run_append_room_cells (P := P) w t ty e i ht hi g 0 n cap ⟨b, o, none⟩ m c news (by rw [hsize]; exact hl) hnews h1 hroom
            (fun j hj => by rw [hsize, Nat.zero_add]; exact (hcl _ (by omega)).1) (fun j hj => by rw [hsize, Nat.zero_add]; exact (hcl _ (by omega)).2)
          rw [hrun] at r1
          injection r1 with r1 _
          subst r1
          exact fun k hk => .inl hk
        · have holds : ∀ j u, xs[j]? = some u → w.cell? ((⟨g, 0, none⟩ : Addr).add j) = some u := fun j u hu => by rw [addr_add]; exact hx j u hu
          have hsmall : n + m ≤ 9223372036854775807 := by simp only [maxLen] at h63; omega
          have hrun := run_append_grow (P := P) w t ty e i z ht hi hz ⟨g, 0, none⟩ n cap xs (by rw [hsize]; exact hxl) holds ⟨b, o, none⟩ m c news (by rw [hsize]; exact hl) hnews (by omega) (by omega) (by rw [hby]; exact growslice_fits (by omega) hlim)
          rw [hrun] at r1
          injection r1 with r1 _
          subst r1
          intro k hk
          injection hk with hk
          exact .inr (by rw [← hk]; exact Nat.le_refl _)

theorem wp_appB {o : Oper} {a : Act} {K : Act → World → Prop} {Q : Exit → Act → World → Prop} (s x : Operand) (t : TypeId) (ho : o.op = .call { callee := .builtin .append, args := #[s, x], argTypes := #[t, t] })
    (base : Nat) (e : TypeId) (i : TypeInfo) (z : Value) (sz bytes : Nat) (ht : P.underlying t = some (.slice e)) (hi : P.info? e = some i) (hz : i.zero = some z) (hsize : i.size = sz) (hby : i.bytes = bytes) (hzs : z.cells.size = sz) (hsz : 0 < sz)
    (v : Value) (n : Nat) (xs : List Value) (hs : a.eval s = v) (hown : Own w base e sz v n xs) (A : Option Addr) (m c : Nat) (news : List Value) (hx : a.eval x = .slice A m c) (hl : news.length = m * sz) (hr : Rd w A news) (h1 : ∀ u ∈ news, u.oneCell' = true)
    (h63 : n + m ≤ maxLen) (hlim : (n + m) * bytes ≤ 140737488355328) (hbase : base ≤ w.heap.size)
    (h : ∀ v' w', Own w' base e sz v' (n + m) (xs ++ news) → w.grownBy w' v.ownBlock → (∀ k, v'.ownBlock = some k → v.ownBlock = some k ∨ w.heap.size ≤ k) → K (a.put o.dst v') w') : o.wp P a w K Q := by
  obtain ⟨v', w', hrun, h2, h3, h4⟩ := run_appB (P := P) w base t o.type e i z sz bytes ht hi hz hsize hby hzs hsz v n xs hown A m c news hl hr h1 h63 hlim hbase
  unfold Oper.wp execOp
  simp only [ho, resolve, invoke, builtin, Sem.run_bind, Sem.run_pure, Result.andThen_ok, List.map_toArray, List.map_cons, List.map_nil, hs, hx, hrun]
  exact h v' w' h2 h3 h4
theorem list_appB {ops : Array Oper} {rest : List Oper} {o : Oper} {a : Act} {Q : Exit → Act → World → Prop} (hgd : o.guard = none) (s x : Operand) (t : TypeId) (ho : o.op = .call { callee := .builtin .append, args := #[s, x], argTypes := #[t, t] })
    (base : Nat) (e : TypeId) (i : TypeInfo) (z : Value) (sz bytes : Nat) (ht : P.underlying t = some (.slice e)) (hi : P.info? e = some i) (hz : i.zero = some z) (hsize : i.size = sz) (hby : i.bytes = bytes) (hzs : z.cells.size = sz) (hsz : 0 < sz)
    (v : Value) (n : Nat) (xs : List Value) (hs : a.eval s = v) (hown : Own w base e sz v n xs) (A : Option Addr) (m c : Nat) (news : List Value) (hx : a.eval x = .slice A m c) (hl : news.length = m * sz) (hr : Rd w A news) (h1 : ∀ u ∈ news, u.oneCell' = true)
    (h63 : n + m ≤ maxLen) (hlim : (n + m) * bytes ≤ 140737488355328) (hbase : base ≤ w.heap.size)
    (h : ∀ v' w', Own w' base e sz v' (n + m) (xs ++ news) → w.grownBy w' v.ownBlock → (∀ k, v'.ownBlock = some k → v.ownBlock = some k ∨ w.heap.size ≤ k) → wpList P ops Q rest (a.put o.dst v') w') : wpList P ops Q (o :: rest) a w :=
  wpList_plain hgd fun _ hK => wp_appB w s x t ho base e i z sz bytes ht hi hz hsize hby hzs hsz v n xs hs hown A m c news hx hl hr h1 h63 hlim hbase fun v' w' h2 h3 h4 => hK _ _ (h v' w' h2 h3 h4)

/-- copy into a row of the call's own, from anywhere, from itself, too: all is read before anything is written. -/
theorem run_copy_any (base : Nat) (t ty e : TypeId) (ht : P.underlying t = some (.slice e)) (hi : (P.info? e).map (·.size) = some 1)
    (v : Value) (n : Nat) (xs : List Value) (hown : Own w base e 1 v n xs) (A : Option Addr) (m c : Nat) (news : List Value) (hl : news.length = m) (hr : Rd w A news) (h1 : ∀ u ∈ news, u.oneCell' = true) :
    ∃ w', (Builtin.copy_ #[t, t] ty #[v, .slice A m c]).run P w = .ok (goInt (Nat.min m n)) w' ∧ Own w' base e 1 v n (news.take n ++ xs.drop m) ∧ w.grownBy w' v.ownBlock := by
  have hxl : xs.length = n := by have := hown.1; omega
  obtain ⟨A0, c0, rfl, _⟩ := hown.form
  by_cases h0 : Nat.min m n = 0
  · refine ⟨w, ?_, ?_, ⟨rfl, rfl, rfl, Nat.le_refl _, fun _ _ _ => rfl⟩⟩
    · rw [h0]
      exact run_copy_none (P := P) w t t ty e A0 A n c0 m c ht hi h0
    · have : m = 0 ∨ n = 0 := by
        have := h0
        simp only [Nat.min_def] at this
        split at this <;> omega
      rcases this with rfl | rfl
      · have : news = [] := List.eq_nil_of_length_eq_zero hl
        subst this
        simpa using hown
      · have : xs = [] := List.eq_nil_of_length_eq_zero hxl
        subst this
        simpa using hown
  · have hmn : 0 < m ∧ 0 < n ∧ Nat.min m n ≤ m ∧ Nat.min m n ≤ n := by
      have h1 : Nat.min m n ≤ m := Nat.min_le_left m n
      have h2 : Nat.min m n ≤ n := Nat.min_le_right m n
      omega
    obtain ⟨hm, hn, hmm, hmn⟩ := hmn
    obtain ⟨b, o, rfl, hb, hc⟩ := hr (by omega)
    rcases hown.2 with ⟨_, h'⟩ | ⟨g, cap, hv, hbg, ⟨cur, fz, hh⟩, hnc, hcm, hx, hcl⟩
    · omega
    · injection hv with hA hn2 hc2
      subst hA hc2
      have hlen : (news.take n).length = Nat.min m n := by rw [List.length_take, hl]; exact Nat.min_comm _ _
      have hrun := run_copy_cells (P := P) w t t ty e g 0 n c0 ⟨b, o, none⟩ m c (news.take n) ht hi hlen
        (fun j u hu => by
          rw [addr_add_at]
          apply hc
          rw [List.getElem?_take] at hu
          split at hu
          · exact hu
          · cases hu)
        (fun j hj => by rw [Nat.zero_add]; exact (hcl j (by rw [hlen] at hj; omega)).1) (fun j hj => by rw [Nat.zero_add]; exact (hcl j (by rw [hlen] at hj; omega)).2) (fun u hu => h1 u (List.mem_of_mem_take hu))
      rw [hlen] at hrun
      obtain ⟨cur', hh'⟩ := tag_setCells (news.take n) 0 w cur hh
      refine ⟨_, hrun, ⟨?_, .inr ⟨g, c0, rfl, hbg, ⟨cur', fz, hh'⟩, hnc, hcm, fun j u hu => ?_, fun j hj => ?_⟩⟩, grown_setCells g _ _ w⟩
      · rw [List.length_append, hlen, List.length_drop, hxl]
        simp only [Nat.min_def]
        split <;> omega
      · by_cases hj : j < (news.take n).length
        · rw [List.getElem?_append_left hj] at hu
          have := World.cell?_setCells_in g (news.take n) 0 w (fun k hk => by rw [Nat.zero_add]; exact (hcl k (by rw [hlen] at hk; omega)).1) j hj
          rw [Nat.zero_add] at this
          rw [this, ← hu, List.getElem?_eq_getElem hj]
        · rw [List.getElem?_append_right (by omega), List.getElem?_drop] at hu
          rw [World.cell?_setCells_out g _ 0 w ⟨g, j, none⟩ (fun _ _ => .inr (by show 0 + _ ≤ j; omega))]
          have hjm : (news.take n).length = m := by
            rw [hlen]
            have hj2 := (List.getElem?_eq_some_iff.1 hu).1
            rw [hlen] at hj2 hj
            simp only [Nat.min_def] at hj2 hj ⊢
            split
            · rfl
            · rw [if_neg (by assumption)] at hj2 hj; omega
          rw [hjm] at hu
          apply hx
          rw [← hu]
          congr 1
          omega
      · refine ⟨?_, by rw [World.frozen?_setCells]; exact (hcl j hj).2⟩
        by_cases hin : j < (news.take n).length
        · have := World.cell?_setCells_in g (news.take n) 0 w (fun k hk => by rw [Nat.zero_add]; exact (hcl k (by rw [hlen] at hk; omega)).1) j hin
          rw [Nat.zero_add] at this
          rw [this]; rfl
        · rw [World.cell?_setCells_out g _ 0 w ⟨g, j, none⟩ (fun _ _ => .inr (by show 0 + _ ≤ j; omega))]
          exact (hcl j hj).1
theorem wp_copy_any {o : Oper} {a : Act} {K : Act → World → Prop} {Q : Exit → Act → World → Prop} (s x : Operand) (t : TypeId) (ho : o.op = .call { callee := .builtin .copy, args := #[s, x], argTypes := #[t, t] })
    (base : Nat) (e : TypeId) (ht : P.underlying t = some (.slice e)) (hi : (P.info? e).map (·.size) = some 1)
    (v : Value) (n : Nat) (xs : List Value) (hs : a.eval s = v) (hown : Own w base e 1 v n xs) (A : Option Addr) (m c : Nat) (news : List Value) (hx : a.eval x = .slice A m c) (hl : news.length = m) (hr : Rd w A news) (h1 : ∀ u ∈ news, u.oneCell' = true)
    (r : Int) (hrr : goInt (Nat.min m n) = .int .i64 r) (ys : List Value) (hys : news.take n ++ xs.drop m = ys)
    (h : ∀ w', Own w' base e 1 v n ys → w.grownBy w' v.ownBlock → K (a.put o.dst (.int .i64 r)) w') : o.wp P a w K Q := by
  obtain ⟨w', hrun, h2, h3⟩ := run_copy_any (P := P) w base t o.type e ht hi v n xs hown A m c news hl hr h1
  rw [hrr] at hrun
  rw [hys] at h2
  unfold Oper.wp execOp
  simp only [ho, resolve, invoke, builtin, Sem.run_bind, Sem.run_pure, Result.andThen_ok, List.map_toArray, List.map_cons, List.map_nil, hs, hx, hrun]
  exact h w' h2 h3
theorem list_copy_any {ops : Array Oper} {rest : List Oper} {o : Oper} {a : Act} {Q : Exit → Act → World → Prop} (hgd : o.guard = none) (s x : Operand) (t : TypeId) (ho : o.op = .call { callee := .builtin .copy, args := #[s, x], argTypes := #[t, t] })
    (base : Nat) (e : TypeId) (ht : P.underlying t = some (.slice e)) (hi : (P.info? e).map (·.size) = some 1)
    (v : Value) (n : Nat) (xs : List Value) (hs : a.eval s = v) (hown : Own w base e 1 v n xs) (A : Option Addr) (m c : Nat) (news : List Value) (hx : a.eval x = .slice A m c) (hl : news.length = m) (hr : Rd w A news) (h1 : ∀ u ∈ news, u.oneCell' = true)
    (r : Int) (hrr : goInt (Nat.min m n) = .int .i64 r) (ys : List Value) (hys : news.take n ++ xs.drop m = ys)
    (h : ∀ w', Own w' base e 1 v n ys → w.grownBy w' v.ownBlock → wpList P ops Q rest (a.put o.dst (.int .i64 r)) w') : wpList P ops Q (o :: rest) a w :=
  wpList_plain hgd fun _ hK => wp_copy_any w s x t ho base e ht hi v n xs hs hown A m c news hx hl hr h1 r hrr ys hys fun w' h2 h3 => hK _ _ (h w' h2 h3)
theorem step_copy_any {ops : Array Oper} {o : Oper} {a : Act} {K : Act → World → Prop} {Q : Exit → Act → World → Prop} {E : Prop} (hgd : o.guard = none) (s x : Operand) (t : TypeId) (ho : o.op = .call { callee := .builtin .copy, args := #[s, x], argTypes := #[t, t] })
    (base : Nat) (e : TypeId) (ht : P.underlying t = some (.slice e)) (hi : (P.info? e).map (·.size) = some 1)
    (v : Value) (n : Nat) (xs : List Value) (hs : a.eval s = v) (hown : Own w base e 1 v n xs) (A : Option Addr) (m c : Nat) (news : List Value) (hx : a.eval x = .slice A m c) (hl : news.length = m) (hr : Rd w A news) (h1 : ∀ u ∈ news, u.oneCell' = true)
    (r : Int) (hrr : goInt (Nat.min m n) = .int .i64 r) (ys : List Value) (hys : news.take n ++ xs.drop m = ys)
    (h : ∀ w', Own w' base e 1 v n ys → w.grownBy w' v.ownBlock → K (a.put o.dst (.int .i64 r)) w') :
    if Region.wanted o (yielded ops a.tmps) = true then Oper.wp P o a w K Q else E := by
  have hw : Region.wanted o (yielded ops a.tmps) = true := by simp [Region.wanted, hgd]
  rw [if_pos hw]
  exact wp_copy_any w s x t ho base e ht hi v n xs hs hown A m c news hx hl hr h1 r hrr ys hys h
end

section
variable {w : World} {base : Nat} {e : TypeId} {A : Option Addr} {n c : Nat} {xs : List Value}
/-- A row cut short. -/
theorem Own.short (h : Own w base e 1 (.slice A n c) n xs) (m : Nat) (hm : m ≤ n) (ys : List Value) (hy : xs.take m = ys) : Own w base e 1 (.slice A m c) m ys := by
  subst hy
  have hl := h.1
  refine ⟨by rw [List.length_take]; omega, ?_⟩
  rcases h.2 with ⟨hv, h0⟩ | ⟨g, cap, hv, hb, hh, hnc, hcm, hx, hc⟩
  · injection hv with h1 h2 h3
    exact .inl ⟨by rw [h1, h3, show m = 0 by omega], by omega⟩
  · injection hv with h1 h2 h3
    subst h1 h3
    refine .inr ⟨g, c, rfl, hb, hh, by omega, hcm, fun j u hu => ?_, hc⟩
    apply hx
    rw [List.getElem?_take] at hu
    split at hu
    · exact hu
    · cases hu
theorem Own.cap (h : Own w base e 1 (.slice A n c) n xs) : n ≤ c ∧ c ≤ maxLen := by
  rcases h.2 with ⟨hv, h0⟩ | ⟨g, cap, hv, hb, hh, hnc, hcm, hx, hc⟩
  · injection hv with h1 h2 h3
    subst h0 h3
    exact ⟨Nat.le_refl _, Nat.zero_le _⟩
  · injection hv with h1 h2 h3
    subst h3
    exact ⟨hnc, hcm⟩
/-- The address of a row: none, or a block's head. -/
def Head (A : Option Addr) : Prop := A = none ∨ ∃ g, A = some ⟨g, 0, none⟩
theorem Own.head (h : Own w base e 1 (.slice A n c) n xs) : Head A := by
  rcases h.2 with ⟨hv, h0⟩ | ⟨g, cap, hv, hb, hh, hnc, hcm, hx, hc⟩
  · injection hv with h1 h2 h3
    exact .inl h1
  · injection hv with h1 h2 h3
    exact .inr ⟨g, h1⟩
/-- A row made. -/
theorem Own.made (w : World) (base : Nat) (e : TypeId) (n : Nat) (xs : List Value) (hl : xs.length = n) (hb : base ≤ w.heap.size) (hm : n ≤ maxLen) : Own (w.alloc (.cells xs.toArray e)) base e 1 (.slice (some ⟨w.heap.size, 0, none⟩) n n) n xs := by
  refine Own.of ⟨by omega, .inr ⟨w.heap.size, n, xs.toArray, rfl, hb, heap_alloc_new w _, Nat.le_refl _, hm, by simp [hl], ?_⟩⟩
  rw [List.take_of_length_le (by simp [hl])]
end
/-- A slice cut short. -/
theorem cuth_run {P : Program} {T e : TypeId} (he : P.elem T = e) (hT : P.underlying T = some (.slice e)) (hs : ∀ w, (sizeOf e).run P w = .ok 1 w) {A : Option Addr} (hA : Head A) (n c k : Nat) (hk : k ≤ c) :
    ∀ w : World, (Instr.slice T (.slice A n c) none (some (.int .i64 (k : Int))) none).run P w = .ok (.slice A k c) w := fun w => by
  subst he
  rw [run_slice_h w T A n c hT .i64 (k : Int) (by omega) (by omega), hs]
  rcases hA with rfl | ⟨g, rfl⟩ <;> simp [Result.andThen, sliced, Addr.add]
theorem cuthm_run {P : Program} {T e : TypeId} (he : P.elem T = e) (hT : P.underlying T = some (.slice e)) (hs : ∀ w, (sizeOf e).run P w = .ok 1 w) {A : Option Addr} (hA : Head A) (n c k : Nat) (hk : k ≤ c) :
    ∀ w : World, (Instr.slice T (.slice A n c) none (some (.int .i64 (k : Int))) (some (.int .i64 (k : Int)))).run P w = .ok (.slice A k k) w := fun w => by
  subst he
  rw [run_slice_hm w T A n c hT .i64 .i64 (k : Int) (k : Int) (by omega) (by omega) (by omega), hs]
  rcases hA with rfl | ⟨g, rfl⟩ <;> simp [Result.andThen, sliced, Addr.add]
/-- A slice cut at a place, wherever it lies. -/
theorem cutl_run {P : Program} {T e : TypeId} (he : P.elem T = e) (hT : P.underlying T = some (.slice e)) (hs : ∀ w, (sizeOf e).run P w = .ok 1 w) (A : Option Addr) (n c k : Nat) (hk : k ≤ n) (hn : n ≤ c) :
    ∃ A', (∀ w : World, (Instr.slice T (.slice A n c) (some (.int .i64 (k : Int))) none none).run P w = .ok (.slice A' (n - k) (c - k)) w) ∧
      ∀ (S : Nat → Prop) (w : World) (l : List Value), l.length = n → RdOff w S A l → RdOff w S A' (l.drop k) := by
  subst he
  refine ⟨if c = k then A else A.map (·.add (k * 1)), fun w => ?_, fun S w l hl hr => ?_⟩
  · rw [run_slice_l w T A n c hT .i64 (k : Int) (by omega) (by omega), hs]
    simp [Result.andThen, sliced]
  · intro hp
    rw [List.length_drop] at hp
    obtain ⟨b, o, rfl, hb, hn, hc⟩ := hr (by omega)
    rw [if_neg (by omega)]
    refine ⟨b, o + k, ?_, hb, hn, fun i u hu => ?_⟩
    · rw [Option.map_some, addr_add_at, Nat.mul_one]
    · rw [Nat.add_assoc]
      apply hc
      simp only [List.getElem?_drop] at hu
      exact hu
/-- A slice cut short, wherever it lies. -/
theorem cutk_run {P : Program} {T e : TypeId} (he : P.elem T = e) (hT : P.underlying T = some (.slice e)) (hs : ∀ w, (sizeOf e).run P w = .ok 1 w) (A : Option Addr) (n c k : Nat) (hk : k ≤ n) (hn : n ≤ c) :
    ∃ A', (∀ w : World, (Instr.slice T (.slice A n c) none (some (.int .i64 (k : Int))) none).run P w = .ok (.slice A' k c) w) ∧
      ∀ (S : Nat → Prop) (w : World) (l : List Value), l.length = n → RdOff w S A l → RdOff w S A' (l.take k) := by
  subst he
  refine ⟨if c = 0 then A else A.map (·.add (0 * 1)), fun w => ?_, fun S w l hl hr => ?_⟩
  · rw [run_slice_h w T A n c hT .i64 (k : Int) (by omega) (by omega), hs]
    simp [Result.andThen, sliced]
  · intro hp
    rw [List.length_take] at hp
    obtain ⟨b, o, rfl, hb, hn, hc⟩ := hr (by omega)
    rw [if_neg (by omega)]
    refine ⟨b, o, ?_, hb, hn, fun i u hu => ?_⟩
    · rw [Option.map_some, addr_add_at, Nat.zero_mul, Nat.add_zero]
    · apply hc
      rw [List.getElem?_take] at hu
      split at hu
      · exact hu
      · cases hu
end Go.Proofs.YtmagokkegadmiaaGreatDoor
namespace Go.Proofs.YtmagokkegadmiaaGreatDoor
open Go.RowKit

set_option maxRecDepth 100000 in
set_option maxHeartbeats 4000000 in
theorem eq_any (A B : Option Addr) (c d : Nat) (a b : List Int) (w : World) (hl : a.length ≤ 4294967296) (hl2 : b.length ≤ 4294967296) (hra : Rd w A (is_ a)) (hrb : Rd w B (is_ b)) :
    Calls Tryz.prog 57 #[.slice A a.length c, .slice B b.length d] w fun e w' => e = .returned (.bool (decide (a = b))) ∧ Below w.heap.size w w' := by
  by_cases hlen : a.length = b.length
  · go_enter Tryz.func57, Tryz.ntmps57
    go_wp2
    go_loopw [13] (fun i wr => ∃ k : Nat, k ≤ a.length ∧ i = .int .i64 k ∧ a.take k = b.take k ∧ Below w.heap.size w wr) (fun i _ => a.length - (intOf i).toNat)
    case atStart => exact ⟨0, Nat.zero_le _, rfl, rfl, Below.refl _ _⟩
    case round =>
      obtain ⟨k, hk, rfl, hab, hbw⟩ := hrel
      have HAB := Lib.hid hab
      clear hab
      by_cases hlt : k < a.length
      · have hltb : k < b.length := by omega
        obtain ⟨p, o, rfl, hp, hc⟩ := hra.int_at (by omega)
        obtain ⟨q, u, rfl, hq, hd⟩ := hrb.int_at (by omega)
        have hck := (hbw.cell (p := ⟨p, o + k, none⟩) hp).trans (hc k hlt)
        have hdk := (hbw.cell (p := ⟨q, u + k, none⟩) hq).trans (hd k hltb)
        clear hc hd
        have g0 : (0 : Int) ≤ (k : Int) := by omega
        have g1 : (k : Int) < (a.length : Int) := by omega
        have g2 : (k : Int) < (b.length : Int) := by omega
        by_cases he : a[k]'hlt = b[k]'hltb
        · have H := Lib.hid (show a.take (k + 1) = b.take (k + 1) by rw [List.take_succ_eq_append_getElem hlt, List.take_succ_eq_append_getElem hltb, HAB.out, he])
          obtain ⟨x, hx⟩ : ∃ x, a[k]'hlt = x := ⟨_, rfl⟩
          obtain ⟨y, hy⟩ : ∃ y, b[k]'hltb = y := ⟨_, rfl⟩
          rw [hx] at hck he
          rw [hy] at hdk he
          subst he
          clear hx hy
          go_wp2
          go_quiet (fail)
          go_wp2
          go_roundw
          case rel => exact ⟨k + 1, by omega, by go_num, H.out, below_drewN hbw _⟩
          case measure => simp [intOf]; omega
        · have E := Lib.hid (show decide (a = b) = false from decide_eq_false (fun e => he (by subst e; rfl)))
          have t1 : (a[k]'hlt == b[k]'hltb) = false := beq_false_of_ne he
          have t2 : (a[k]'hlt != b[k]'hltb) = true := by simp [bne, t1]
          clear he
          go_wp2
          go_quiet (fail)
          go_wp2
          go_ret
          exact ⟨ret_b E.out.symm, below_drewN hbw _⟩
      · have E := Lib.hid (show decide (a = b) = true from decide_eq_true (by
          have h1 := HAB.out
          rw [List.take_of_length_le (by omega), List.take_of_length_le (by omega)] at h1
          exact h1))
        go_wp2
        go_ret
        exact ⟨ret_b E.out.symm, hbw⟩
  · have E := Lib.hid (show decide (a = b) = false from decide_eq_false (fun e => hlen (by rw [e])))
    have t1 : ((a.length : Int) == (b.length : Int)) = false := beq_false_of_ne (by omega)
    have t2 : ((a.length : Int) != (b.length : Int)) = true := by simp [bne, t1]
    clear hlen
    go_enter Tryz.func57, Tryz.ntmps57
    go_wp2
    go_ret
    exact ⟨ret_b E.out.symm, Below.refl _ _⟩

theorem eq_at (A B : Option Addr) (n m c d : Nat) (a b : List Int) (q : Bool) (w : World) (hn : a.length = n) (hm : b.length = m) (hq : decide (a = b) = q) (hl : n ≤ 4294967296) (hl2 : m ≤ 4294967296) (hra : Rd w A (is_ a)) (hrb : Rd w B (is_ b)) :
    Calls Tryz.prog 57 #[.slice A n c, .slice B m d] w fun e w' => e = .returned (.bool q) ∧ Below w.heap.size w w' := by
  subst hn hm hq
  exact eq_any A B c d a b w hl hl2 hra hrb
end Go.Proofs.YtmagokkegadmiaaGreatDoor
