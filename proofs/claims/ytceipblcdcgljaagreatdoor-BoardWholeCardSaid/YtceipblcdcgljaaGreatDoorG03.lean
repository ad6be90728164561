/-
  Layer 3's mathematics: a sequence, whether it may be, its bytes, and the sequence with which bytes begin. Layer 3's mathematics: the sequence with which bytes begin is told there and back, and there is one at most. Layer 3's mathematics: what a reader of bytes reads, a piece at a time; that it is just the sequence with which the bytes begin.
-/
import Derived.Test.YtceipblcdcgljaaGreatDoorG02
namespace Go.Proofs.YtceipblcdcgljaaGreatDoor
structure Sq where
 kind : Int
 priv : UInt8
 params : List (List Int)
 inter : List UInt8
 final : UInt8
 data : List UInt8
def btw (a b : Nat) (c : UInt8) : Bool := decide (a ≤ c.toNat) && decide (c.toNat ≤ b)
theorem btw_iff (a b : Nat) (c : UInt8) : btw a b c = true ↔ a ≤ c.toNat ∧ c.toNat ≤ b := by simp [btw]
theorem btw_no (a b : Nat) (c : UInt8) : btw a b c = false ↔ ¬ (a ≤ c.toNat ∧ c.toNat ≤ b) := by rw [← btw_iff]; simp
def parOk (l : List (List Int)) : Bool := decide (l.length ≤ 16) && decide (l ≠ [[-1]]) && l.all fun p => decide (1 ≤ p.length) && decide (p.length ≤ 8) && p.all fun n => decide (-1 ≤ n) && decide (n ≤ 1114111)
def lastOk (s : Sq) : Bool :=
 if s.kind = 1 ∨ s.kind = 2 ∨ s.kind = 3 then btw 64 126 s.final
 else if s.kind = 5 then btw 48 126 s.final && (decide (s.inter ≠ []) || !([79, 80, 88, 91, 93, 92, 94, 95] : List UInt8).contains s.final)
 else decide (s.kind = 4) && decide (s.final = 0)
def bareOk (s : Sq) : Bool :=
 !(decide (s.kind = 2 ∨ s.kind = 4 ∨ s.kind = 5) && (decide (s.priv ≠ 0) || decide (s.params ≠ []))) && !(decide (s.kind = 2 ∨ s.kind = 4) && decide (s.inter ≠ [])) && (decide (s.data = []) || decide (s.kind = 3 ∨ s.kind = 4))
def privOk (c : UInt8) : Bool := decide (c = 0) || btw 60 63 c
def okS (s : Sq) : Bool := privOk s.priv && parOk s.params && decide (s.inter.length ≤ 2) && s.inter.all (btw 32 47) && s.data.all (btw 32 126) && lastOk s && bareOk s
def mayS (s : Sq) : Int := if 4096 < s.data.length then 4 else if okS s = true then 0 else 1
def partL : List Int → List UInt8
 | [] => []
 | [n] => textL n
 | n :: m :: p => textL n ++ (58 :: partL (m :: p))
def parL : List (List Int) → List UInt8
 | [] => []
 | [p] => partL p
 | p :: q :: l => partL p ++ (59 :: parL (q :: l))
def privL (c : UInt8) : List UInt8 := if c = 0 then [] else [c]
def bodyL (s : Sq) : List UInt8 := privL s.priv ++ parL s.params ++ s.inter
def putS (s : Sq) : List UInt8 :=
 if s.kind = 1 then 27 :: 91 :: (bodyL s ++ [s.final])
 else if s.kind = 2 then [27, 79, s.final]
 else if s.kind = 3 then 27 :: 80 :: (bodyL s ++ (s.final :: (s.data ++ [27, 92])))
 else if s.kind = 4 then 27 :: 93 :: (s.data ++ [27, 92])
 else 27 :: (s.inter ++ [s.final])
def numsGo (n : Int) (one : List Int) : List UInt8 → List (List Int)
 | [] => [one ++ [n]]
 | c :: l => if isD c = true then numsGo (rd 1114112 n c) one l else if c = 59 then (one ++ [n]) :: numsGo (-1) [] l else numsGo (-1) (one ++ [n]) l
def numsL (l : List UInt8) : List (List Int) := if l = [] then [] else numsGo (-1) [] l
theorem go_figs (l m : List UInt8) (n : Int) (one : List Int) (h : ∀ c ∈ l, isD c = true) : numsGo n one (l ++ m) = numsGo (l.foldl (rd 1114112) n) one m := by
 induction l generalizing n with
 | nil => rfl
 | cons c l ih =>
   have hc := h c (List.mem_cons_self ..)
   rw [List.cons_append]
   show (if isD c = true then numsGo (rd 1114112 n c) one (l ++ m) else _) = _
   rw [if_pos hc, ih _ (fun d hd => h d (List.mem_cons_of_mem _ hd))]
   rfl
theorem go_text (n : Int) (h0 : -1 ≤ n) (h1 : n ≤ 1114111) (m : List UInt8) (one : List Int) : numsGo (-1) one (textL n ++ m) = numsGo n one m := by
 rw [go_figs _ _ _ _ (text_all_isD n)]
 by_cases h : n < 0
 ·rw [textL_neg n h, show n = -1 by omega]; rfl
 ·rw [text_read _ _ (by omega) (by omega), show min n 1114112 = n by omega]
def partOk (p : List Int) : Prop := ∀ n ∈ p, -1 ≤ n ∧ n ≤ 1114111
theorem go_part : ∀ (p : List Int) (_ : p ≠ []) (_ : partOk p) (one : List Int), numsGo (-1) one (partL p) = [one ++ p] ∧ ∀ m, numsGo (-1) one (partL p ++ (59 :: m)) = (one ++ p) :: numsGo (-1) [] m := by
 intro p
 induction p with
 | nil => intro h; exact absurd rfl h
 | cons n p ih =>
   intro _ ho one
   obtain ⟨h0, h1⟩ := ho n (List.mem_cons_self ..)
   cases p with
   | nil =>
     refine ⟨?_, fun m => ?_⟩
     ·have := go_text n h0 h1 [] one
      rw [List.append_nil] at this
      exact this
     ·have := go_text n h0 h1 (59 :: m) one
      exact this
   | cons k p =>
     have ih' := ih (by simp) (fun x hx => ho x (List.mem_cons_of_mem _ hx)) (one ++ [n])
     have e : partL (n :: k :: p) = textL n ++ (58 :: partL (k :: p)) := rfl
     refine ⟨?_, fun m => ?_⟩
     ·rw [e, go_text n h0 h1]
      show numsGo (-1) (one ++ [n]) (partL (k :: p)) = _
      rw [ih'.1, List.append_assoc]; rfl
     ·rw [e, List.append_assoc, go_text n h0 h1]
      show numsGo (-1) (one ++ [n]) (partL (k :: p) ++ (59 :: m)) = _
      rw [ih'.2 m, List.append_assoc]; rfl
theorem go_par : ∀ (l : List (List Int)), l ≠ [] → (∀ p ∈ l, p ≠ [] ∧ partOk p) → numsGo (-1) [] (parL l) = l := by
 intro l
 induction l with
 | nil => intro h; exact absurd rfl h
 | cons p l ih =>
   intro _ ho
   obtain ⟨h0, h1⟩ := ho p (List.mem_cons_self ..)
   cases l with
   | nil => exact (go_part p h0 h1 []).1
   | cons q l =>
     have ih' := ih (by simp) (fun x hx => ho x (List.mem_cons_of_mem _ hx))
     have e : parL (p :: q :: l) = partL p ++ (59 :: parL (q :: l)) := rfl
     rw [e, (go_part p h0 h1 []).2, ih']; rfl
theorem part_nil : ∀ (p : List Int), partOk p → p ≠ [] → partL p = [] → p = [-1] := by
 intro p ho hn h
 match p with
 | [] => exact absurd rfl hn
 | [n] =>
   obtain ⟨h0, h1⟩ := ho n (List.mem_cons_self ..)
   by_cases hneg : n < 0
   ·rw [show n = -1 by omega]
   ·exact absurd h (text_ne n (by omega))
 | n :: m :: p => simp [partL] at h
theorem par_nil : ∀ (l : List (List Int)), (∀ p ∈ l, p ≠ [] ∧ partOk p) → parL l = [] → l = [] ∨ l = [[-1]] := by
 intro l ho h
 match l with
 | [] => exact .inl rfl
 | [p] => exact .inr (by rw [part_nil p (ho p (List.mem_cons_self ..)).2 (ho p (List.mem_cons_self ..)).1 h])
 | p :: q :: l => simp [parL] at h
theorem parOk_all {l : List (List Int)} (h : parOk l = true) : (∀ p ∈ l, p ≠ [] ∧ partOk p) ∧ l ≠ [[-1]] := by
 simp only [parOk, Bool.and_eq_true, decide_eq_true_eq, List.all_eq_true] at h
 refine ⟨fun p hp => ?_, h.1.2⟩
 obtain ⟨⟨h1, _⟩, h2⟩ := h.2 p hp
 refine ⟨fun e => by rw [e] at h1; simp at h1, fun n hn => h2 n hn⟩
theorem nums_par {l : List (List Int)} (h : parOk l = true) : numsL (parL l) = l := by
 obtain ⟨h1, h2⟩ := parOk_all h
 unfold numsL
 by_cases he : l = []
 ·subst he; rfl
 ·rw [if_neg (fun e => (par_nil l h1 e).elim he h2)]
  exact go_par l he h1
theorem part_btw (p : List Int) : ∀ c ∈ partL p, btw 48 59 c = true := by
 have ht : ∀ n, ∀ c ∈ textL n, btw 48 59 c = true := fun n c hc => by
  have := of_decide_eq_true (text_all_isD n c hc)
  rw [btw_iff]; omega
 match p with
 | [] => intro c hc; cases hc
 | [n] => exact ht n
 | n :: m :: p =>
   intro c hc
   rcases List.mem_append.1 (show c ∈ textL n ++ (58 :: partL (m :: p)) from hc) with h | h
   ·exact ht n c h
   ·rcases List.mem_cons.1 h with rfl | h
    ·decide
    ·exact part_btw (m :: p) c h
theorem par_btw (l : List (List Int)) : ∀ c ∈ parL l, btw 48 59 c = true := by
 match l with
 | [] => intro c hc; cases hc
 | [p] => exact part_btw p
 | p :: q :: l =>
   intro c hc
   rcases List.mem_append.1 (show c ∈ partL p ++ (59 :: parL (q :: l)) from hc) with h | h
   ·exact part_btw p c h
   ·rcases List.mem_cons.1 h with rfl | h
    ·decide
    ·exact par_btw (q :: l) c h
theorem tw {p : UInt8 → Bool} {c : UInt8} : ∀ (a m : List UInt8), (∀ x ∈ a, p x = true) → p c = false → (a ++ c :: m).takeWhile p = a := by
 intro a
 induction a with
 | nil => intro m _ hc; rw [List.nil_append, List.takeWhile_cons_of_neg (by rw [hc]; simp)]
 | cons x a ih =>
   intro m h hc
   rw [List.cons_append, List.takeWhile_cons_of_pos (h x (List.mem_cons_self ..)), ih m (fun y hy => h y (List.mem_cons_of_mem _ hy)) hc]
def escS (r : List UInt8) : Option (Sq × Nat) :=
 match r.drop (r.takeWhile (btw 32 47)).length with
 | [] => none
 | f :: _ => some (⟨5, 0, [], r.takeWhile (btw 32 47), f, []⟩, 1 + (r.takeWhile (btw 32 47)).length + 1)
def tailS (k : Int) (pv : UInt8) (n : Nat) (r : List UInt8) : Option (Sq × Nat) :=
 match (r.drop (r.takeWhile (btw 48 59)).length).drop ((r.drop (r.takeWhile (btw 48 59)).length).takeWhile (btw 32 47)).length with
 | [] => none
 | f :: d => some (⟨k, pv, numsL (r.takeWhile (btw 48 59)), (r.drop (r.takeWhile (btw 48 59)).length).takeWhile (btw 32 47), f, if k = 3 then d.takeWhile (btw 32 126) else []⟩,
     n + (r.takeWhile (btw 48 59)).length + ((r.drop (r.takeWhile (btw 48 59)).length).takeWhile (btw 32 47)).length + 1 + if k = 3 then (d.takeWhile (btw 32 126)).length + 2 else 0)
def seqS (k : Int) (r : List UInt8) : Option (Sq × Nat) :=
 match r with
 | c :: r' => if btw 60 63 c = true then tailS k c 3 r' else tailS k 0 2 (c :: r')
 | [] => tailS k 0 2 []
def guessS (t : List UInt8) : Option (Sq × Nat) :=
 match t with
 | c0 :: c1 :: r =>
   if c0 ≠ 27 then none
   else if c1 = 79 then (match r with | f :: _ => some (⟨2, 0, [], [], f, []⟩, 3) | [] => none)
   else if c1 = 93 then some (⟨4, 0, [], [], 0, r.takeWhile (btw 32 126)⟩, 2 + (r.takeWhile (btw 32 126)).length + 2)
   else if c1 = 91 then seqS 1 r
   else if c1 = 80 then seqS 3 r
   else escS (c1 :: r)
 | _ => none
theorem tail_put (k : Int) (pv : UInt8) (n : Nat) (ps : List (List Int)) (it : List UInt8) (f : UInt8) (d m : List UInt8) (hp : parOk ps = true) (hi : ∀ c ∈ it, btw 32 47 c = true) (hf : btw 64 126 f = true) (hd : k = 3 → (∃ m', m = 27 :: m') ∧ ∀ c ∈ d, btw 32 126 c = true) (hk : k ≠ 3 → d = []) :
 tailS k pv n (parL ps ++ (it ++ (f :: (d ++ m)))) = some (⟨k, pv, ps, it, f, d⟩, n + (parL ps).length + it.length + 1 + if k = 3 then d.length + 2 else 0) := by
 have f1 : btw 48 59 f = false := by rw [btw_no]; have := (btw_iff _ _ _).1 hf; omega
 have f2 : btw 32 47 f = false := by rw [btw_no]; have := (btw_iff _ _ _).1 hf; omega
 have e1 : (parL ps ++ (it ++ (f :: (d ++ m)))).takeWhile (btw 48 59) = parL ps := by
  cases it with
  | nil => exact tw _ _ (par_btw ps) f1
  | cons c it =>
    refine tw _ _ (par_btw ps) ?_
    have := (btw_iff _ _ _).1 (hi c (List.mem_cons_self ..))
    rw [btw_no]; omega
 have e2 : (parL ps ++ (it ++ (f :: (d ++ m)))).drop (parL ps).length = it ++ (f :: (d ++ m)) := List.drop_left
 have e3 : (it ++ (f :: (d ++ m))).takeWhile (btw 32 47) = it := tw _ _ hi f2
 have e4 : (it ++ (f :: (d ++ m))).drop it.length = f :: (d ++ m) := List.drop_left
 unfold tailS
 simp only [e1, e2, e3, e4]
 rw [nums_par hp]
 by_cases h3 : k = 3
 ·obtain ⟨⟨m', rfl⟩, hd2⟩ := hd h3
  have e5 : (d ++ 27 :: m').takeWhile (btw 32 126) = d := tw _ _ hd2 (by decide)
  rw [if_pos h3, e5, if_pos h3]
 ·rw [hk h3, if_neg h3, if_neg h3, if_neg h3]
theorem ok_parts {s : Sq} (h : mayS s = 0) : s.data.length ≤ 4096 ∧ privOk s.priv = true ∧ parOk s.params = true ∧ s.inter.length ≤ 2 ∧ (∀ c ∈ s.inter, btw 32 47 c = true) ∧ (∀ c ∈ s.data, btw 32 126 c = true) ∧ lastOk s = true ∧ bareOk s = true := by
 unfold mayS at h
 split at h
 ·cases h
 ·split at h
  ·rename_i h1 h2
   simp only [okS, Bool.and_eq_true, decide_eq_true_eq, List.all_eq_true] at h2
   obtain ⟨⟨⟨⟨⟨⟨a, b⟩, c⟩, d⟩, e⟩, f⟩, g⟩ := h2
   exact ⟨by omega, a, b, c, d, e, f, g⟩
  ·cases h
theorem seq_put (k : Int) (pv : UInt8) (ps : List (List Int)) (it : List UInt8) (f : UInt8) (d m : List UInt8) (hv : privOk pv = true) (hp : parOk ps = true) (hi : ∀ c ∈ it, btw 32 47 c = true) (hf : btw 64 126 f = true) (hd : k = 3 → (∃ m', m = 27 :: m') ∧ ∀ c ∈ d, btw 32 126 c = true) (hk : k ≠ 3 → d = []) :
 seqS k (privL pv ++ (parL ps ++ (it ++ (f :: (d ++ m))))) = some (⟨k, pv, ps, it, f, d⟩, 2 + (privL pv).length + (parL ps).length + it.length + 1 + if k = 3 then d.length + 2 else 0) := by
 by_cases h0 : pv = 0
 ·subst h0
  have ht := tail_put k 0 2 ps it f d m hp hi hf hd hk
  show seqS k (parL ps ++ (it ++ (f :: (d ++ m)))) = _
  have hhead : ∀ c r, parL ps ++ (it ++ (f :: (d ++ m))) = c :: r → btw 60 63 c = false := by
   intro c r e
   rw [btw_no]
   cases hps : parL ps with
   | cons x xs =>
     rw [hps] at e
     obtain rfl : x = c := by simpa using congrArg List.head? e
     have := (btw_iff _ _ _).1 (par_btw ps x (by rw [hps]; exact List.mem_cons_self ..))
     omega
   | nil =>
     rw [hps] at e
     cases it with
     | cons x xs =>
       obtain rfl : x = c := by simpa using congrArg List.head? e
       have := (btw_iff _ _ _).1 (hi x (List.mem_cons_self ..))
       omega
     | nil =>
       obtain rfl : f = c := by simpa using congrArg List.head? e
       have := (btw_iff _ _ _).1 hf
       omega
  generalize parL ps ++ (it ++ (f :: (d ++ m))) = t at *
  cases t with
  | nil => exact ht
  | cons c r =>
    unfold seqS
    dsimp only
    rw [if_neg (by rw [hhead c r rfl]; decide)]
    exact ht
 ·have e : privL pv = [pv] := if_neg h0
  have hb : btw 60 63 pv = true := by
   simp only [privOk, Bool.or_eq_true, decide_eq_true_eq] at hv
   exact hv.resolve_left h0
  rw [e]
  unfold seqS
  simp only [List.cons_append, List.nil_append]
  rw [if_pos hb, tail_put k pv 3 ps it f d m hp hi hf hd hk]
  simp
theorem guess_put {s : Sq} (h : mayS s = 0) (m : List UInt8) : guessS (putS s ++ m) = some (s, (putS s).length) := by
 obtain ⟨_, hv, hp, _, hi, hd, hl, hb⟩ := ok_parts h
 obtain ⟨k, pv, ps, it, f, d⟩ := s
 dsimp only at hv hp hi hd
 have hcases : k = 1 ∨ k = 2 ∨ k = 3 ∨ k = 4 ∨ k = 5 := by
  unfold lastOk at hl
  dsimp only at hl
  split at hl
  ·omega
  ·split at hl
   ·omega
   ·simp only [Bool.and_eq_true, decide_eq_true_eq] at hl; omega
 rcases hcases with rfl | rfl | rfl | rfl | rfl
 ·
  have hf : btw 64 126 f = true := by simpa [lastOk] using hl
  have hd0 : d = [] := by simpa [bareOk] using hb
  subst hd0
  have := seq_put 1 pv ps it f [] m hv hp hi hf (by omega) (fun _ => rfl)
  have e : putS ⟨1, pv, ps, it, f, []⟩ ++ m = 27 :: 91 :: (privL pv ++ (parL ps ++ (it ++ (f :: ([] ++ m))))) := by
   simp [putS, bodyL]
  rw [e]
  show seqS 1 _ = _
  rw [this]
  simp [putS, bodyL]; omega
 ·
  have h1 : pv = 0 ∧ ps = [] ∧ it = [] ∧ d = [] := by
   simp [bareOk] at hb
   obtain ⟨⟨⟨a, b⟩, c⟩, e⟩ := hb
   exact ⟨a, b, c, e⟩
  obtain ⟨rfl, rfl, rfl, rfl⟩ := h1
  rfl
 ·
  have hf : btw 64 126 f = true := by simpa [lastOk] using hl
  have := seq_put 3 pv ps it f d (27 :: 92 :: m) hv hp hi hf (fun _ => ⟨⟨_, rfl⟩, hd⟩) (fun h => absurd rfl h)
  have e : putS ⟨3, pv, ps, it, f, d⟩ ++ m = 27 :: 80 :: (privL pv ++ (parL ps ++ (it ++ (f :: (d ++ (27 :: 92 :: m)))))) := by
   simp [putS, bodyL]
  rw [e]
  show seqS 3 _ = _
  rw [this]
  simp [putS, bodyL]; omega
 ·
  have h1 : pv = 0 ∧ ps = [] ∧ it = [] := by
   simp [bareOk] at hb
   exact ⟨hb.1.1, hb.1.2, hb.2⟩
  have hf : f = 0 := by simpa [lastOk] using hl
  obtain ⟨rfl, rfl, rfl⟩ := h1
  subst hf
  have e : putS ⟨4, 0, [], [], 0, d⟩ ++ m = 27 :: 93 :: (d ++ (27 :: 92 :: m)) := by simp [putS]
  rw [e]
  show some _ = _
  rw [tw d (92 :: m) hd (by decide)]
  simp [putS]; omega
 ·
  have h1 : pv = 0 ∧ ps = [] ∧ d = [] := by
   simp [bareOk] at hb
   exact ⟨hb.1.1, hb.1.2, hb.2⟩
  obtain ⟨rfl, rfl, rfl⟩ := h1
  have hf : btw 48 126 f = true ∧ (it ≠ [] ∨ ¬ (f = 79 ∨ f = 80 ∨ f = 88 ∨ f = 91 ∨ f = 93 ∨ f = 92 ∨ f = 94 ∨ f = 95)) := by
   simp [lastOk] at hl
   refine ⟨hl.1, ?_⟩
   rcases hl.2 with h | h
   ·exact .inl h
   ·right
    intro hh
    rcases hh with rfl | rfl | rfl | rfl | rfl | rfl | rfl | rfl <;> simp at h
  have f2 : btw 32 47 f = false := by rw [btw_no]; have := (btw_iff _ _ _).1 hf.1; omega
  have e : putS ⟨5, 0, [], it, f, []⟩ ++ m = 27 :: (it ++ (f :: m)) := by simp [putS]
  have hg : ∀ c1 r, it ++ (f :: m) = c1 :: r → c1 ≠ 79 ∧ c1 ≠ 93 ∧ c1 ≠ 91 ∧ c1 ≠ 80 := by
   intro c1 r e
   cases it with
   | cons x xs =>
     obtain rfl : x = c1 := by simpa using congrArg List.head? e
     have := (btw_iff _ _ _).1 (hi x (List.mem_cons_self ..))
     refine ⟨?_, ?_, ?_, ?_⟩ <;> (rintro rfl; simp at this)
   | nil =>
     obtain rfl : f = c1 := by simpa using congrArg List.head? e
     have := hf.2.resolve_left (by simp)
     refine ⟨?_, ?_, ?_, ?_⟩ <;> (intro h; exact this (by simp [h]))
  rw [e]
  have es : escS (it ++ (f :: m)) = some (⟨5, 0, [], it, f, []⟩, 1 + it.length + 1) := by
   unfold escS
   rw [tw it m hi f2, List.drop_left]
  cases ht : it ++ (f :: m) with
  | nil => simp at ht
  | cons c1 r =>
    obtain ⟨g1, g2, g3, g4⟩ := hg c1 r ht
    show (if (27 : UInt8) ≠ 27 then none else _) = _
    rw [if_neg (by simp), if_neg g1, if_neg g2, if_neg g3, if_neg g4, ← ht, es]
    simp [putS]; omega
def takeS (b : List UInt8) : Option (Sq × Nat) :=
 match guessS b with
 | some (s, n) => if n ≤ b.length ∧ mayS s = 0 ∧ putS s = b.take n then some (s, n) else none
 | none => none
theorem takeS_put {s : Sq} (h : mayS s = 0) (m : List UInt8) : takeS (putS s ++ m) = some (s, (putS s).length) := by
 unfold takeS
 rw [guess_put h m]
 dsimp only
 rw [if_pos ⟨by rw [List.length_append]; omega, h, by rw [List.take_left]⟩]
theorem takeS_some {b : List UInt8} {s : Sq} {n : Nat} (h : takeS b = some (s, n)) : mayS s = 0 ∧ n = (putS s).length ∧ b = putS s ++ b.drop n := by
 unfold takeS at h
 split at h
 ·rename_i s' n' hg
  split at h
  ·rename_i hc
   simp only [Option.some.injEq, Prod.mk.injEq] at h
   obtain ⟨rfl, rfl⟩ := h
   refine ⟨hc.2.1, ?_, by rw [hc.2.2, List.take_append_drop]⟩
   rw [hc.2.2, List.length_take]; omega
  ·cases h
 ·cases h
def dstep (n : Nat) (c : UInt8) : Nat := min (n * 10 + (c.toNat - 48)) 1114111
def satv (l : List UInt8) : Nat := (l.takeWhile isD).foldl dstep 0
theorem dstep_le (n : Nat) (c : UInt8) : dstep n c ≤ 1114111 := Nat.min_le_right _ _
theorem fold_le : ∀ (t : List UInt8) (n : Nat), n ≤ 1114111 → t.foldl dstep n ≤ 1114111
 | [], _, h => h
 | c :: t, n, _ => by rw [List.foldl_cons]; exact fold_le t _ (dstep_le n c)
theorem satv_le (l : List UInt8) : satv l ≤ 1114111 := fold_le _ _ (by omega)
theorem dec_fold (u : Nat) : (Lib.decDigits u).foldl dstep 0 = min u 1114111 := by
 induction u using Nat.strongRecOn with
 | _ u ih =>
   by_cases h : u < 10
   ·rw [dec_small u h, List.foldl_cons, List.foldl_nil, dstep, (digit_isD u h).2]; omega
   ·rw [dec_step u h, List.foldl_append, ih (u / 10) (by omega), List.foldl_cons, List.foldl_nil, dstep, (digit_isD (u % 10) (by omega)).2]; omega
theorem tw_app (p : UInt8 → Bool) : ∀ (a m : List UInt8), (∀ c ∈ a, p c = true) → (m.head?.any p = false) → (a ++ m).takeWhile p = a
 | [], m, _, h => by
   cases m with
   | nil => rfl
   | cons c r => simp only [List.head?_cons, Option.any_some] at h; rw [List.nil_append, List.takeWhile_cons_of_neg (by rw [h]; simp)]
 | c :: a, m, h, hm => by rw [List.cons_append, List.takeWhile_cons_of_pos (h c (List.mem_cons_self ..)), tw_app p a m (fun d hd => h d (List.mem_cons_of_mem _ hd)) hm]
theorem sat_text (n : Int) (h : 0 ≤ n) (h2 : n ≤ 1114111) (m : List UInt8) (hm : m.head?.any isD = false) : (satv (textL n ++ m) : Int) = n := by
 unfold satv
 rw [tw_app isD _ _ (text_all_isD n) hm]
 rw [show textL n = Lib.decDigits n.toNat from if_neg (by omega), dec_fold]
 omega
def skipB (t r : List UInt8) : Bool := t.isPrefixOf r
theorem skipB_app (t m : List UInt8) : skipB t (t ++ m) = true := by unfold skipB; simp
theorem skipB_some {t r : List UInt8} (h : skipB t r = true) : r = t ++ r.drop t.length := by
 unfold skipB at h
 rw [List.isPrefixOf_iff_prefix] at h
 obtain ⟨m, rfl⟩ := h
 rw [List.drop_left]
def runF (a b m : Nat) (r : List UInt8) : List UInt8 := (r.take m).takeWhile (btw a b)
theorem tw_mem (p : UInt8 → Bool) : ∀ (l : List UInt8) (c : UInt8), c ∈ l.takeWhile p → p c = true
 | [], c, h => by cases h
 | d :: l, c, h => by
   by_cases hd : p d = true
   ·rw [List.takeWhile_cons_of_pos hd] at h
    rcases List.mem_cons.1 h with rfl | h
    ·exact hd
    ·exact tw_mem p l c h
   ·rw [List.takeWhile_cons_of_neg hd] at h; cases h
theorem runF_all (a b m : Nat) (r : List UInt8) : ∀ c ∈ runF a b m r, btw a b c = true := fun c hc => by
 unfold runF at hc
 exact tw_mem _ _ c hc
theorem runF_len (a b m : Nat) (r : List UInt8) : (runF a b m r).length ≤ m := by
 have := (List.takeWhile_sublist (btw a b) (l := r.take m)).length_le
 rw [List.length_take] at this
 unfold runF
 omega
theorem runF_put (a b m : Nat) (t r : List UInt8) (ht : ∀ c ∈ t, btw a b c = true) (hl : t.length ≤ m) (hr : r.head?.any (btw a b) = false) : runF a b m (t ++ r) = t := by
 unfold runF
 rw [List.take_append, List.take_of_length_le hl]
 refine tw_app _ _ _ ht ?_
 cases r with
 | nil => simp
 | cons c r =>
   cases h : m - t.length with
   | zero => rfl
   | succ k => simpa using hr
def oneF (a b : Nat) (r : List UInt8) : UInt8 := (runF a b 1 r).headD 0
theorem one_run (a b : Nat) (r : List UInt8) (h : 1 ≤ a) : runF a b 1 r = privL (oneF a b r) := by
 have hl := runF_len a b 1 r
 have ha := runF_all a b 1 r
 unfold oneF
 match hq : runF a b 1 r with
 | [] => rfl
 | [c] =>
   rw [hq] at ha
   have := (btw_iff _ _ _).1 (ha c (List.mem_singleton.2 rfl))
   show [c] = privL c
   unfold privL
   rw [if_neg (fun e => by subst e; simp at this; omega)]
 | c :: d :: t => rw [hq] at hl; simp at hl
def partF (r : List UInt8) : Int × List UInt8 := if skipB (textL (satv r)) r = true then ((satv r : Int), r.drop (textL (satv r)).length) else (-1, r)
theorem partF_app (r : List UInt8) : r = textL (partF r).1 ++ (partF r).2 := by
 unfold partF
 split
 ·rename_i h; exact skipB_some h
 ·rw [textL_neg _ (by omega)]; rfl
theorem partF_rng (r : List UInt8) : -1 ≤ (partF r).1 ∧ (partF r).1 ≤ 1114111 := by
 have := satv_le r
 unfold partF
 split
 ·dsimp only; omega
 ·dsimp only; omega
theorem partF_put (n : Int) (h0 : -1 ≤ n) (h1 : n ≤ 1114111) (m : List UInt8) (hm : m.head?.any isD = false) : partF (textL n ++ m) = (n, m) := by
 unfold partF
 by_cases h : n < 0
 ·rw [textL_neg n h, List.nil_append]
  have e : satv m = 0 := by
   unfold satv
   rw [show m.takeWhile isD = [] by simpa using tw_app isD [] m (fun c hc => by cases hc) hm]; rfl
  rw [e, if_neg]
  ·rw [show n = -1 by omega]
  ·intro hs
   have := skipB_some hs
   have e2 : textL ((0 : Nat) : Int) = [48] := by rw [textL_small _ (by omega) (by omega)]; rfl
   rw [e2] at this
   rw [this] at hm
   simp at hm
   exact absurd hm (by decide)
 ·have e := sat_text n (by omega) h1 m hm
  rw [e, if_pos (skipB_app _ _), List.drop_left]
def partsGo : Nat → List Int → List UInt8 → List Int × List UInt8
 | 0, acc, r => (acc, r)
 | f + 1, acc, r => if skipB [58] r = true then partsGo f (acc ++ [(partF (r.drop 1)).1]) (partF (r.drop 1)).2 else (acc, r)
def partsF (r : List UInt8) : List Int × List UInt8 := partsGo 7 [(partF r).1] (partF r).2
def paramsGo : Nat → List (List Int) → List UInt8 → List (List Int) × List UInt8
 | 0, acc, r => (acc, r)
 | f + 1, acc, r => if skipB [59] r = true then paramsGo f (acc ++ [(partsF (r.drop 1)).1]) (partsF (r.drop 1)).2 else (acc, r)
def noneL (ps : List (List Int)) : List (List Int) := if ps = [[-1]] then [] else ps
def paramsF (r : List UInt8) : List (List Int) × List UInt8 := (noneL (paramsGo 15 [(partsF r).1] (partsF r).2).1, (paramsGo 15 [(partsF r).1] (partsF r).2).2)
theorem part_more (p : List Int) (n : Int) (h : p ≠ []) : partL (p ++ [n]) = partL p ++ (58 :: textL n) := by
 match p, h with
 | [m], _ => rfl
 | m :: k :: p, _ =>
   have ih := part_more (k :: p) n (by simp)
   show textL m ++ (58 :: partL (k :: p ++ [n])) = _
   rw [ih]
   simp [partL]
theorem par_more (l : List (List Int)) (p : List Int) (h : l ≠ []) : parL (l ++ [p]) = parL l ++ (59 :: partL p) := by
 match l, h with
 | [m], _ => rfl
 | m :: k :: l, _ =>
   have ih := par_more (k :: l) p (by simp)
   show partL m ++ (59 :: parL (k :: l ++ [p])) = _
   rw [ih]
   simp [parL]
theorem partsGo_app : ∀ (f : Nat) (acc : List Int) (r : List UInt8), acc ≠ [] → partOk acc → partL acc ++ r = partL (partsGo f acc r).1 ++ (partsGo f acc r).2 ∧ partOk (partsGo f acc r).1 ∧ acc.length ≤ (partsGo f acc r).1.length ∧ (partsGo f acc r).1.length ≤ acc.length + f
 | 0, acc, r, _, ho => ⟨rfl, ho, Nat.le_refl _, Nat.le_refl _⟩
 | f + 1, acc, r, hn, ho => by
   unfold partsGo
   split
   ·rename_i h
    have hr := skipB_some h
    have hp := partF_app (r.drop 1)
    have hq := partF_rng (r.drop 1)
    obtain ⟨i1, i2, i3, i4⟩ := partsGo_app f (acc ++ [(partF (r.drop 1)).1]) (partF (r.drop 1)).2 (by simp) (fun n hn => by
     rcases List.mem_append.1 hn with h | h
     ·exact ho n h
     ·rw [List.mem_singleton] at h; subst h; exact hq)
    rw [List.length_append, List.length_singleton] at i3 i4
    refine ⟨?_, i2, by omega, by omega⟩
    rw [← i1, part_more _ _ hn]
    conv => lhs; rw [hr]
    rw [show ([58] : List UInt8).length = 1 from rfl]
    conv => lhs; rw [hp]
    simp
   ·exact ⟨rfl, ho, Nat.le_refl _, Nat.le_add_right _ _⟩
theorem partsF_app (r : List UInt8) : r = partL (partsF r).1 ++ (partsF r).2 ∧ partOk (partsF r).1 ∧ 1 ≤ (partsF r).1.length ∧ (partsF r).1.length ≤ 8 := by
 have hp := partF_app r
 have hq := partF_rng r
 obtain ⟨i1, i2, i3, i4⟩ := partsGo_app 7 [(partF r).1] (partF r).2 (by simp) (fun n hn => by rw [List.mem_singleton] at hn; subst hn; exact hq)
 exact ⟨hp.trans i1, i2, i3, i4⟩
def parsOk (l : List (List Int)) : Prop := ∀ p ∈ l, partOk p ∧ 1 ≤ p.length ∧ p.length ≤ 8
theorem paramsGo_app : ∀ (f : Nat) (acc : List (List Int)) (r : List UInt8), acc ≠ [] → parsOk acc → parL acc ++ r = parL (paramsGo f acc r).1 ++ (paramsGo f acc r).2 ∧ parsOk (paramsGo f acc r).1 ∧ acc.length ≤ (paramsGo f acc r).1.length ∧ (paramsGo f acc r).1.length ≤ acc.length + f
 | 0, acc, r, _, ho => ⟨rfl, ho, Nat.le_refl _, Nat.le_refl _⟩
 | f + 1, acc, r, hn, ho => by
   unfold paramsGo
   split
   ·rename_i h
    have hr := skipB_some h
    obtain ⟨hp, hq⟩ := partsF_app (r.drop 1)
    obtain ⟨i1, i2, i3, i4⟩ := paramsGo_app f (acc ++ [(partsF (r.drop 1)).1]) (partsF (r.drop 1)).2 (by simp) (fun n hn => by
     rcases List.mem_append.1 hn with h | h
     ·exact ho n h
     ·rw [List.mem_singleton] at h; subst h; exact hq)
    rw [List.length_append, List.length_singleton] at i3 i4
    refine ⟨?_, i2, by omega, by omega⟩
    rw [← i1, par_more _ _ hn]
    conv => lhs; rw [hr]
    rw [show ([59] : List UInt8).length = 1 from rfl]
    conv => lhs; rw [hp]
    simp
   ·exact ⟨rfl, ho, Nat.le_refl _, Nat.le_add_right _ _⟩
theorem paramsF_app (r : List UInt8) : r = parL (paramsF r).1 ++ (paramsF r).2 ∧ parOk (paramsF r).1 = true := by
 obtain ⟨hp, hq⟩ := partsF_app r
 obtain ⟨i1, i2, i3, i4⟩ := paramsGo_app 15 [(partsF r).1] (partsF r).2 (by simp) (fun p hp => by rw [List.mem_singleton] at hp; subst hp; exact hq)
 have e : r = parL (paramsGo 15 [(partsF r).1] (partsF r).2).1 ++ (paramsGo 15 [(partsF r).1] (partsF r).2).2 := hp.trans i1
 unfold paramsF noneL
 generalize paramsGo 15 [(partsF r).1] (partsF r).2 = x at *
 dsimp only
 split
 ·rename_i h
  rw [h] at e
  refine ⟨?_, by decide⟩
  rw [show parL [] = ([] : List UInt8) from rfl]
  rw [show parL [[-1]] = ([] : List UInt8) by show textL (-1) = []; exact textL_neg _ (by omega)] at e
  exact e
 ·rename_i h
  refine ⟨e, ?_⟩
  simp only [parOk, Bool.and_eq_true, decide_eq_true_eq, List.all_eq_true]
  simp only [List.length_singleton] at i4
  refine ⟨⟨by omega, h⟩, fun p hp => ?_⟩
  obtain ⟨j1, j2, j3⟩ := i2 p hp
  exact ⟨⟨j2, j3⟩, fun n hn => j1 n hn⟩
def parts1 : List Int → List UInt8
 | [] => []
 | n :: p => 58 :: (textL n ++ parts1 p)
theorem partL_cons (n : Int) (p : List Int) : partL (n :: p) = textL n ++ parts1 p := by
 induction p generalizing n with
 | nil => simp [partL, parts1]
 | cons m p ih => rw [show partL (n :: m :: p) = textL n ++ (58 :: partL (m :: p)) from rfl, ih]; rfl
def params1 : List (List Int) → List UInt8
 | [] => []
 | n :: p => 59 :: (partL n ++ params1 p)
theorem parL_cons (n : List Int) (p : List (List Int)) : parL (n :: p) = partL n ++ params1 p := by
 induction p generalizing n with
 | nil => simp [parL, params1]
 | cons m p ih => rw [show parL (n :: m :: p) = partL n ++ (59 :: parL (m :: p)) from rfl, ih]; rfl
theorem skip_head {c : UInt8} {m : List UInt8} (h : m.head? ≠ some c) : skipB [c] m = false := by
 cases m with
 | nil => rfl
 | cons d m =>
   have : c ≠ d := fun e => h (by rw [e]; rfl)
   simp [skipB, List.isPrefixOf, this]
theorem partsGo_put : ∀ (p : List Int) (f : Nat) (acc : List Int) (m : List UInt8), p.length ≤ f → partOk p → m.head?.any isD = false → m.head? ≠ some 58 → partsGo f acc (parts1 p ++ m) = (acc ++ p, m)
 | [], f, acc, m, _, _, hm, hc => by
   rw [show parts1 [] ++ m = m from rfl, List.append_nil]
   cases f with
   | zero => rfl
   | succ f => unfold partsGo; rw [if_neg (by rw [skip_head hc]; simp)]
 | n :: p, 0, _, _, h, _, _, _ => by simp at h
 | n :: p, f + 1, acc, m, h, ho, hm, hc => by
   unfold partsGo
   rw [show parts1 (n :: p) ++ m = [58] ++ (textL n ++ (parts1 p ++ m)) by simp [parts1]]
   rw [if_pos (skipB_app _ _)]
   rw [show (([58] : List UInt8) ++ (textL n ++ (parts1 p ++ m))).drop 1 = textL n ++ (parts1 p ++ m) from rfl]
   obtain ⟨h0, h1⟩ := ho n (List.mem_cons_self ..)
   have hh : (parts1 p ++ m).head?.any isD = false := by
    cases p with
    | nil => exact hm
    | cons k p => rfl
   rw [partF_put n h0 h1 _ hh]
   dsimp only
   rw [partsGo_put p f _ m (by simpa using h) (fun x hx => ho x (List.mem_cons_of_mem _ hx)) hm hc]
   simp
theorem partsF_put (p : List Int) (m : List UInt8) (h1 : 1 ≤ p.length) (h2 : p.length ≤ 8) (ho : partOk p) (hm : m.head?.any isD = false) (hc : m.head? ≠ some 58) : partsF (partL p ++ m) = (p, m) := by
 match p, h1 with
 | n :: p, _ =>
   unfold partsF
   rw [partL_cons, List.append_assoc]
   obtain ⟨h0, h3⟩ := ho n (List.mem_cons_self ..)
   have hh : (parts1 p ++ m).head?.any isD = false := by
    cases p with
    | nil => exact hm
    | cons k p => rfl
   rw [partF_put n h0 h3 _ hh]
   dsimp only
   rw [partsGo_put p 7 _ m (by simpa using h2) (fun x hx => ho x (List.mem_cons_of_mem _ hx)) hm hc]
   rfl
theorem paramsGo_put : ∀ (p : List (List Int)) (f : Nat) (acc : List (List Int)) (m : List UInt8), p.length ≤ f → parsOk p → m.head?.any isD = false → m.head? ≠ some 58 → m.head? ≠ some 59 → paramsGo f acc (params1 p ++ m) = (acc ++ p, m)
 | [], f, acc, m, _, _, hm, hc, hs => by
   rw [show params1 [] ++ m = m from rfl, List.append_nil]
   cases f with
   | zero => rfl
   | succ f => unfold paramsGo; rw [if_neg (by rw [skip_head hs]; simp)]
 | n :: p, 0, _, _, h, _, _, _, _ => by simp at h
 | n :: p, f + 1, acc, m, h, ho, hm, hc, hs => by
   unfold paramsGo
   rw [show params1 (n :: p) ++ m = [59] ++ (partL n ++ (params1 p ++ m)) by simp [params1]]
   rw [if_pos (skipB_app _ _)]
   rw [show (([59] : List UInt8) ++ (partL n ++ (params1 p ++ m))).drop 1 = partL n ++ (params1 p ++ m) from rfl]
   obtain ⟨h0, h1, h2⟩ := ho n (List.mem_cons_self ..)
   have hh : (params1 p ++ m).head?.any isD = false ∧ (params1 p ++ m).head? ≠ some 58 := by
    cases p with
    | nil => exact ⟨hm, hc⟩
    | cons k p => exact ⟨rfl, by simp [params1]⟩
   rw [partsF_put n _ h1 h2 h0 hh.1 hh.2]
   dsimp only
   rw [paramsGo_put p f _ m (by simpa using h) (fun x hx => ho x (List.mem_cons_of_mem _ hx)) hm hc hs]
   simp
def offP (m : List UInt8) : Prop := m.head?.any (btw 48 59) = false
theorem offP.parts {m : List UInt8} (h : offP m) : m.head?.any isD = false ∧ m.head? ≠ some 58 ∧ m.head? ≠ some 59 := by
 cases m with
 | nil => exact ⟨rfl, by simp, by simp⟩
 | cons c m =>
   have h' : btw 48 59 c = false := h
   have h2 := (btw_no _ _ _).1 h'
   refine ⟨?_, ?_, ?_⟩
   ·show isD c = false
    unfold isD
    exact decide_eq_false (by omega)
   ·simp; rintro rfl; exact absurd h' (by decide)
   ·simp; rintro rfl; exact absurd h' (by decide)
theorem paramsF_put (ps : List (List Int)) (m : List UInt8) (hp : parOk ps = true) (hm : offP m) : paramsF (parL ps ++ m) = (ps, m) := by
 obtain ⟨m1, m2, m3⟩ := hm.parts
 have hp' := hp
 simp only [parOk, Bool.and_eq_true, decide_eq_true_eq, List.all_eq_true] at hp'
 obtain ⟨⟨hl, hne⟩, ha⟩ := hp'
 have ho : parsOk ps := fun p h => ⟨fun n hn => (ha p h).2 n hn, (ha p h).1⟩
 match ps with
 | [] =>
   have e1 : partsF m = ([-1], m) := by
    have := partsF_put [-1] m (by simp) (by simp) (fun n hn => by rw [List.mem_singleton] at hn; omega) m1 m2
    rwa [show partL [-1] = ([] : List UInt8) from textL_neg _ (by omega), List.nil_append] at this
   have e2 := paramsGo_put [] 15 [[-1]] m (by simp) (fun p hp => by cases hp) m1 m2 m3
   rw [show params1 [] ++ m = m from rfl] at e2
   unfold paramsF
   rw [show parL [] ++ m = m from rfl, e1]
   dsimp only
   rw [e2]
   rfl
 | p :: ps =>
   obtain ⟨h0, h1, h2⟩ := ho p (List.mem_cons_self ..)
   have hh : (params1 ps ++ m).head?.any isD = false ∧ (params1 ps ++ m).head? ≠ some 58 := by
    cases ps with
    | nil => exact ⟨m1, m2⟩
    | cons k p => exact ⟨rfl, by simp [params1]⟩
   have e1 := partsF_put p (params1 ps ++ m) h1 h2 h0 hh.1 hh.2
   have e2 := paramsGo_put ps 15 [p] m (by simp at hl; omega) (fun x hx => ho x (List.mem_cons_of_mem _ hx)) m1 m2 m3
   unfold paramsF
   rw [parL_cons, List.append_assoc, e1]
   dsimp only
   rw [e2]
   unfold noneL
   rw [if_neg (show ¬ (([p] ++ ps, m) : List (List Int) × List UInt8).1 = [[-1]] from hne)]
   rfl
end Go.Proofs.YtceipblcdcgljaaGreatDoor
