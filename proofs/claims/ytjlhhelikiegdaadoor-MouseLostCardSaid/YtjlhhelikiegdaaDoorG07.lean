/-
  Layer 3's mathematics: the sequence with which bytes begin is told there and back, and there is one at most.
-/
import Derived.Test.YtjlhhelikiegdaaDoorG06
namespace Go.Proofs.YtjlhhelikiegdaaDoor
theorem tw {p : UInt8 → Bool} {c : UInt8} : ∀ (a m : List UInt8), (∀ x ∈ a, p x = true) → p c = false → (a ++ c :: m).takeWhile p = a := by
 intro a
 induction a with
 | nil => intro m _ hc; rw [List.nil_append, List.takeWhile_cons_of_neg (by rw [hc]; simp)]
 | cons x a ih =>
   intro m h hc
   rw [List.cons_append, List.takeWhile_cons_of_pos (h x (List.mem_cons_self ..)), ih m (fun y hy => h y (List.mem_cons_of_mem _ hy)) hc]
def escS (r : List UInt8) : Option (Sq × Nat) :=
 match r.drop (r.takeWhile (btw 32 47)).length with
 | [] => none
 | f :: _ => some (⟨5, 0, [], r.takeWhile (btw 32 47), f, []⟩, 1 + (r.takeWhile (btw 32 47)).length + 1)
def tailS (k : Int) (pv : UInt8) (n : Nat) (r : List UInt8) : Option (Sq × Nat) :=
 match (r.drop (r.takeWhile (btw 48 59)).length).drop ((r.drop (r.takeWhile (btw 48 59)).length).takeWhile (btw 32 47)).length with
 | [] => none
 | f :: d => some (⟨k, pv, numsL (r.takeWhile (btw 48 59)), (r.drop (r.takeWhile (btw 48 59)).length).takeWhile (btw 32 47), f, if k = 3 then d.takeWhile (btw 32 126) else []⟩,
     n + (r.takeWhile (btw 48 59)).length + ((r.drop (r.takeWhile (btw 48 59)).length).takeWhile (btw 32 47)).length + 1 + if k = 3 then (d.takeWhile (btw 32 126)).length + 2 else 0)
def seqS (k : Int) (r : List UInt8) : Option (Sq × Nat) :=
 match r with
 | c :: r' => if btw 60 63 c = true then tailS k c 3 r' else tailS k 0 2 (c :: r')
 | [] => tailS k 0 2 []
def guessS (t : List UInt8) : Option (Sq × Nat) :=
 match t with
 | c0 :: c1 :: r =>
   if c0 ≠ 27 then none
   else if c1 = 79 then (match r with | f :: _ => some (⟨2, 0, [], [], f, []⟩, 3) | [] => none)
   else if c1 = 93 then some (⟨4, 0, [], [], 0, r.takeWhile (btw 32 126)⟩, 2 + (r.takeWhile (btw 32 126)).length + 2)
   else if c1 = 91 then seqS 1 r
   else if c1 = 80 then seqS 3 r
   else escS (c1 :: r)
 | _ => none
theorem tail_put (k : Int) (pv : UInt8) (n : Nat) (ps : List (List Int)) (it : List UInt8) (f : UInt8) (d m : List UInt8) (hp : parOk ps = true) (hi : ∀ c ∈ it, btw 32 47 c = true) (hf : btw 64 126 f = true) (hd : k = 3 → (∃ m', m = 27 :: m') ∧ ∀ c ∈ d, btw 32 126 c = true) (hk : k ≠ 3 → d = []) :
 tailS k pv n (parL ps ++ (it ++ (f :: (d ++ m)))) = some (⟨k, pv, ps, it, f, d⟩, n + (parL ps).length + it.length + 1 + if k = 3 then d.length + 2 else 0) := by
 have f1 : btw 48 59 f = false := by rw [btw_no]; have := (btw_iff _ _ _).1 hf; omega
 have f2 : btw 32 47 f = false := by rw [btw_no]; have := (btw_iff _ _ _).1 hf; omega
 have e1 : (parL ps ++ (it ++ (f :: (d ++ m)))).takeWhile (btw 48 59) = parL ps := by
  cases it with
  | nil => exact tw _ _ (par_btw ps) f1
  | cons c it =>
    refine tw _ _ (par_btw ps) ?_
    have := (btw_iff _ _ _).1 (hi c (List.mem_cons_self ..))
    rw [btw_no]; omega
 have e2 : (parL ps ++ (it ++ (f :: (d ++ m)))).drop (parL ps).length = it ++ (f :: (d ++ m)) := List.drop_left
 have e3 : (it ++ (f :: (d ++ m))).takeWhile (btw 32 47) = it := tw _ _ hi f2
 have e4 : (it ++ (f :: (d ++ m))).drop it.length = f :: (d ++ m) := List.drop_left
 unfold tailS
 simp only [e1, e2, e3, e4]
 rw [nums_par hp]
 by_cases h3 : k = 3
 ·obtain ⟨⟨m', rfl⟩, hd2⟩ := hd h3
  have e5 : (d ++ 27 :: m').takeWhile (btw 32 126) = d := tw _ _ hd2 (by decide)
  rw [if_pos h3, e5, if_pos h3]
 ·rw [hk h3, if_neg h3, if_neg h3, if_neg h3]
theorem ok_parts {s : Sq} (h : mayS s = 0) : s.data.length ≤ 4096 ∧ privOk s.priv = true ∧ parOk s.params = true ∧ s.inter.length ≤ 2 ∧ (∀ c ∈ s.inter, btw 32 47 c = true) ∧ (∀ c ∈ s.data, btw 32 126 c = true) ∧ lastOk s = true ∧ bareOk s = true := by
 unfold mayS at h
 split at h
 ·cases h
 ·split at h
  ·rename_i h1 h2
   simp only [okS, Bool.and_eq_true, decide_eq_true_eq, List.all_eq_true] at h2
   obtain ⟨⟨⟨⟨⟨⟨a, b⟩, c⟩, d⟩, e⟩, f⟩, g⟩ := h2
   exact ⟨by omega, a, b, c, d, e, f, g⟩
  ·cases h
theorem seq_put (k : Int) (pv : UInt8) (ps : List (List Int)) (it : List UInt8) (f : UInt8) (d m : List UInt8) (hv : privOk pv = true) (hp : parOk ps = true) (hi : ∀ c ∈ it, btw 32 47 c = true) (hf : btw 64 126 f = true) (hd : k = 3 → (∃ m', m = 27 :: m') ∧ ∀ c ∈ d, btw 32 126 c = true) (hk : k ≠ 3 → d = []) :
 seqS k (privL pv ++ (parL ps ++ (it ++ (f :: (d ++ m))))) = some (⟨k, pv, ps, it, f, d⟩, 2 + (privL pv).length + (parL ps).length + it.length + 1 + if k = 3 then d.length + 2 else 0) := by
 by_cases h0 : pv = 0
 ·subst h0
  have ht := tail_put k 0 2 ps it f d m hp hi hf hd hk
  show seqS k (parL ps ++ (it ++ (f :: (d ++ m)))) = _
  have hhead : ∀ c r, parL ps ++ (it ++ (f :: (d ++ m))) = c :: r → btw 60 63 c = false := by
   intro c r e
   rw [btw_no]
   cases hps : parL ps with
   | cons x xs =>
     rw [hps] at e
     obtain rfl : x = c := by simpa using congrArg List.head? e
     have := (btw_iff _ _ _).1 (par_btw ps x (by rw [hps]; exact List.mem_cons_self ..))
     omega
   | nil =>
     rw [hps] at e
     cases it with
     | cons x xs =>
       obtain rfl : x = c := by simpa using congrArg List.head? e
       have := (btw_iff _ _ _).1 (hi x (List.mem_cons_self ..))
       omega
     | nil =>
       obtain rfl : f = c := by simpa using congrArg List.head? e
       have := (btw_iff _ _ _).1 hf
       omega
  generalize parL ps ++ (it ++ (f :: (d ++ m))) = t at *
  cases t with
  | nil => exact ht
  | cons c r =>
    unfold seqS
    dsimp only
    rw [if_neg (by rw [hhead c r rfl]; decide)]
    exact ht
 ·have e : privL pv = [pv] := if_neg h0
  have hb : btw 60 63 pv = true := by
   simp only [privOk, Bool.or_eq_true, decide_eq_true_eq] at hv
   exact hv.resolve_left h0
  rw [e]
  unfold seqS
  simp only [List.cons_append, List.nil_append]
  rw [if_pos hb, tail_put k pv 3 ps it f d m hp hi hf hd hk]
  simp
theorem guess_put {s : Sq} (h : mayS s = 0) (m : List UInt8) : guessS (putS s ++ m) = some (s, (putS s).length) := by
 obtain ⟨_, hv, hp, _, hi, hd, hl, hb⟩ := ok_parts h
 obtain ⟨k, pv, ps, it, f, d⟩ := s
 dsimp only at hv hp hi hd
 have hcases : k = 1 ∨ k = 2 ∨ k = 3 ∨ k = 4 ∨ k = 5 := by
  unfold lastOk at hl
  dsimp only at hl
  split at hl
  ·omega
  ·split at hl
   ·omega
   ·simp only [Bool.and_eq_true, decide_eq_true_eq] at hl; omega
 rcases hcases with rfl | rfl | rfl | rfl | rfl
 ·
  have hf : btw 64 126 f = true := by simpa [lastOk] using hl
  have hd0 : d = [] := by simpa [bareOk] using hb
  subst hd0
  have := seq_put 1 pv ps it f [] m hv hp hi hf (by omega) (fun _ => rfl)
  have e : putS ⟨1, pv, ps, it, f, []⟩ ++ m = 27 :: 91 :: (privL pv ++ (parL ps ++ (it ++ (f :: ([] ++ m))))) := by
   simp [putS, bodyL]
  rw [e]
  show seqS 1 _ = _
  rw [this]
  simp [putS, bodyL]; omega
 ·
  have h1 : pv = 0 ∧ ps = [] ∧ it = [] ∧ d = [] := by
   simp [bareOk] at hb
   obtain ⟨⟨⟨a, b⟩, c⟩, e⟩ := hb
   exact ⟨a, b, c, e⟩
  obtain ⟨rfl, rfl, rfl, rfl⟩ := h1
  rfl
 ·
  have hf : btw 64 126 f = true := by simpa [lastOk] using hl
  have := seq_put 3 pv ps it f d (27 :: 92 :: m) hv hp hi hf (fun _ => ⟨⟨_, rfl⟩, hd⟩) (fun h => absurd rfl h)
  have e : putS ⟨3, pv, ps, it, f, d⟩ ++ m = 27 :: 80 :: (privL pv ++ (parL ps ++ (it ++ (f :: (d ++ (27 :: 92 :: m)))))) := by
   simp [putS, bodyL]
  rw [e]
  show seqS 3 _ = _
  rw [this]
  simp [putS, bodyL]; omega
 ·
  have h1 : pv = 0 ∧ ps = [] ∧ it = [] := by
   simp [bareOk] at hb
   exact ⟨hb.1.1, hb.1.2, hb.2⟩
  have hf : f = 0 := by simpa [lastOk] using hl
  obtain ⟨rfl, rfl, rfl⟩ := h1
  subst hf
  have e : putS ⟨4, 0, [], [], 0, d⟩ ++ m = 27 :: 93 :: (d ++ (27 :: 92 :: m)) := by simp [putS]
  rw [e]
  show some _ = _
  rw [tw d (92 :: m) hd (by decide)]
  simp [putS]; omega
 ·
  have h1 : pv = 0 ∧ ps = [] ∧ d = [] := by
   simp [bareOk] at hb
   exact ⟨hb.1.1, hb.1.2, hb.2⟩
  obtain ⟨rfl, rfl, rfl⟩ := h1
  have hf : btw 48 126 f = true ∧ (it ≠ [] ∨ ¬ (f = 79 ∨ f = 80 ∨ f = 88 ∨ f = 91 ∨ f = 93 ∨ f = 92 ∨ f = 94 ∨ f = 95)) := by
   simp [lastOk] at hl
   refine ⟨hl.1, ?_⟩
   rcases hl.2 with h | h
   ·exact .inl h
   ·right
    intro hh
    rcases hh with rfl | rfl | rfl | rfl | rfl | rfl | rfl | rfl <;> simp at h
  have f2 : btw 32 47 f = false := by rw [btw_no]; have := (btw_iff _ _ _).1 hf.1; omega
  have e : putS ⟨5, 0, [], it, f, []⟩ ++ m = 27 :: (it ++ (f :: m)) := by simp [putS]
  have hg : ∀ c1 r, it ++ (f :: m) = c1 :: r → c1 ≠ 79 ∧ c1 ≠ 93 ∧ c1 ≠ 91 ∧ c1 ≠ 80 := by
   intro c1 r e
   cases it with
   | cons x xs =>
     obtain rfl : x = c1 := by simpa using congrArg List.head? e
     have := (btw_iff _ _ _).1 (hi x (List.mem_cons_self ..))
     refine ⟨?_, ?_, ?_, ?_⟩ <;> (rintro rfl; simp at this)
   | nil =>
     obtain rfl : f = c1 := by simpa using congrArg List.head? e
     have := hf.2.resolve_left (by simp)
     refine ⟨?_, ?_, ?_, ?_⟩ <;> (intro h; exact this (by simp [h]))
  rw [e]
  have es : escS (it ++ (f :: m)) = some (⟨5, 0, [], it, f, []⟩, 1 + it.length + 1) := by
   unfold escS
   rw [tw it m hi f2, List.drop_left]
  cases ht : it ++ (f :: m) with
  | nil => simp at ht
  | cons c1 r =>
    obtain ⟨g1, g2, g3, g4⟩ := hg c1 r ht
    show (if (27 : UInt8) ≠ 27 then none else _) = _
    rw [if_neg (by simp), if_neg g1, if_neg g2, if_neg g3, if_neg g4, ← ht, es]
    simp [putS]; omega
def takeS (b : List UInt8) : Option (Sq × Nat) :=
 match guessS b with
 | some (s, n) => if n ≤ b.length ∧ mayS s = 0 ∧ putS s = b.take n then some (s, n) else none
 | none => none
theorem takeS_put {s : Sq} (h : mayS s = 0) (m : List UInt8) : takeS (putS s ++ m) = some (s, (putS s).length) := by
 unfold takeS
 rw [guess_put h m]
 dsimp only
 rw [if_pos ⟨by rw [List.length_append]; omega, h, by rw [List.take_left]⟩]
theorem takeS_some {b : List UInt8} {s : Sq} {n : Nat} (h : takeS b = some (s, n)) : mayS s = 0 ∧ n = (putS s).length ∧ b = putS s ++ b.drop n := by
 unfold takeS at h
 split at h
 ·rename_i s' n' hg
  split at h
  ·rename_i hc
   simp only [Option.some.injEq, Prod.mk.injEq] at h
   obtain ⟨rfl, rfl⟩ := h
   refine ⟨hc.2.1, ?_, by rw [hc.2.2, List.take_append_drop]⟩
   rw [hc.2.2, List.length_take]; omega
  ·cases h
 ·cases h
theorem putS_inj {s t : Sq} (hs : mayS s = 0) (ht : mayS t = 0) (h : putS s = putS t) : s = t := by
 have h1 := takeS_put hs []
 have h2 := takeS_put ht []
 rw [h, h2] at h1
 simp only [Option.some.injEq, Prod.mk.injEq] at h1
 exact h1.1.symm
theorem putS_ne {s : Sq} : 2 ≤ (putS s).length := by
 unfold putS
 repeat' split
 all_goals simp
end Go.Proofs.YtjlhhelikiegdaaDoor
