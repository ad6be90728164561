/-
  Layer 3's mathematics: the reader that goes through the kinds reads just the sequence with which the bytes begin.
-/
import Derived.Test.YtjlhhelikiegdaaGreatDoorG12
namespace Go.Proofs.YtjlhhelikiegdaaGreatDoor
structure Fm where
 letter : List UInt8
 body : Bool
 inter : Bool
 first : UInt8
 en : List UInt8
def formF (k : Int) : Fm :=
 if k = 1 then ⟨[91], true, true, 64, []⟩ else if k = 2 then ⟨[79], false, false, 64, []⟩ else if k = 3 then ⟨[80], true, true, 64, [27, 92]⟩
 else if k = 4 then ⟨[93], false, false, 0, [27, 92]⟩ else if k = 5 then ⟨[], false, true, 48, []⟩ else ⟨[], false, false, 0, []⟩
def rd1 (f : Fm) (r : List UInt8) : UInt8 × List UInt8 := if f.body = true then (oneF 60 63 r, r.drop (runF 60 63 1 r).length) else (0, r)
def rd2 (f : Fm) (r : List UInt8) : List (List Int) × List UInt8 := if f.body = true then paramsF r else ([], r)
def rd3 (f : Fm) (r : List UInt8) : List UInt8 × List UInt8 := if f.inter = true then (runF 32 47 2 r, r.drop (runF 32 47 2 r).length) else ([], r)
def rd4 (f : Fm) (r : List UInt8) : UInt8 × List UInt8 := if f.first = 0 then (0, r) else (oneF f.first.toNat 126 r, r.drop (runF f.first.toNat 126 1 r).length)
def rd5 (f : Fm) (r : List UInt8) : List UInt8 × List UInt8 := if f.en = [] then ([], r) else (runF 32 126 4096 r, r.drop (runF 32 126 4096 r).length)
def readF (k : Int) (r : List UInt8) : Sq × List UInt8 :=
 let f := formF k
 let x1 := rd1 f r
 let x2 := rd2 f x1.2
 let x3 := rd3 f x2.2
 let x4 := rd4 f x3.2
 let x5 := rd5 f x4.2
 (⟨k, x1.1, x2.1, x3.1, x4.1, x5.1⟩, x5.2)
theorem rd1_app (f : Fm) (r : List UInt8) : r = privL (rd1 f r).1 ++ (rd1 f r).2 := by
 unfold rd1
 split
 ·dsimp only; rw [← one_run 60 63 r (by omega)]; exact runF_drop _ _ _ _
 ·rfl
theorem rd2_app (f : Fm) (r : List UInt8) : r = parL (rd2 f r).1 ++ (rd2 f r).2 := by
 unfold rd2
 split
 ·exact (paramsF_app r).1
 ·rfl
theorem rd3_app (f : Fm) (r : List UInt8) : r = (rd3 f r).1 ++ (rd3 f r).2 := by
 unfold rd3
 split
 ·exact runF_drop _ _ _ _
 ·rfl
theorem rd4_app (f : Fm) (hf : f.first = 0 ∨ 1 ≤ f.first.toNat) (r : List UInt8) : r = privL (rd4 f r).1 ++ (rd4 f r).2 := by
 unfold rd4
 split
 ·rfl
 ·rename_i h; dsimp only; rw [← one_run _ 126 r (hf.resolve_left h)]; exact runF_drop _ _ _ _
theorem rd5_app (f : Fm) (r : List UInt8) : r = (rd5 f r).1 ++ (rd5 f r).2 := by
 unfold rd5
 split
 ·rfl
 ·exact runF_drop _ _ _ _
def kindF (b : List UInt8) : Int := if skipB [27, 91] b = true then 1 else if skipB [27, 79] b = true then 2 else if skipB [27, 80] b = true then 3 else if skipB [27, 93] b = true then 4 else if skipB [27] b = true then 5 else 0
def headF (k : Int) : List UInt8 := 27 :: (formF k).letter
def endF (k : Int) (x : Sq × List UInt8) : Option (Sq × List UInt8) := if skipB (formF k).en x.2 = true ∧ mayS x.1 = 0 then some (x.1, x.2.drop (formF k).en.length) else none
def progF (b : List UInt8) : Option (Sq × List UInt8) := if kindF b = 0 then none else endF (kindF b) (readF (kindF b) (b.drop (headF (kindF b)).length))
theorem kind_cases (b : List UInt8) : kindF b = 0 ∨ ((kindF b = 1 ∨ kindF b = 2 ∨ kindF b = 3 ∨ kindF b = 4 ∨ kindF b = 5) ∧ skipB (headF (kindF b)) b = true) := by
 unfold kindF
 (repeat' split) <;> first | exact .inl rfl | (right; exact ⟨by omega, by assumption⟩)
theorem read_sound (k : Int) (hk : k = 1 ∨ k = 2 ∨ k = 3 ∨ k = 4 ∨ k = 5) (r : List UInt8) (s : Sq) (t : List UInt8) (h : endF k (readF k r) = some (s, t)) : mayS s = 0 ∧ headF k ++ r = putS s ++ t := by
 unfold endF at h
 split at h
 ·rename_i hc
  obtain ⟨h1, h2⟩ := hc
  simp only [Option.some.injEq, Prod.mk.injEq] at h
  obtain ⟨rfl, rfl⟩ := h
  refine ⟨h2, ?_⟩
  obtain ⟨_, _, _, _, _, _, hl, hb⟩ := ok_parts h2
  have a1 := rd1_app (formF k) r
  have a2 := rd2_app (formF k) (rd1 (formF k) r).2
  have a3 := rd3_app (formF k) (rd2 (formF k) (rd1 (formF k) r).2).2
  have a4 := rd4_app (formF k) (by rcases hk with rfl | rfl | rfl | rfl | rfl <;> decide) (rd3 (formF k) (rd2 (formF k) (rd1 (formF k) r).2).2).2
  have a5 := rd5_app (formF k) (rd4 (formF k) (rd3 (formF k) (rd2 (formF k) (rd1 (formF k) r).2).2).2).2
  have a6 := skipB_some h1
  unfold readF at *
  dsimp only at *
  generalize hx1 : rd1 (formF k) r = x1 at *
  generalize hx2 : rd2 (formF k) x1.2 = x2 at *
  generalize hx3 : rd3 (formF k) x2.2 = x3 at *
  generalize hx4 : rd4 (formF k) x3.2 = x4 at *
  generalize hx5 : rd5 (formF k) x4.2 = x5 at *
  have a : r = privL x1.1 ++ (parL x2.1 ++ (x3.1 ++ (privL x4.1 ++ (x5.1 ++ ((formF k).en ++ x5.2.drop (formF k).en.length))))) := by
   rw [← a6, ← a5, ← a4, ← a3, ← a2, ← a1]
  have hne : ∀ n : Nat, 1 ≤ n → btw n 126 x4.1 = true → privL x4.1 = [x4.1] := fun n hn h => by
   unfold privL
   rw [if_neg]
   intro e
   rw [e, btw_iff] at h
   simp at h
   omega
  rw [a]
  rcases hk with rfl | rfl | rfl | rfl | rfl
  ·have hf : btw 64 126 x4.1 = true := by simpa [lastOk] using hl
   rw [hne 64 (by omega) hf]
   have e5 : x5.1 = [] := by rw [← hx5]; rfl
   rw [e5]
   simp [headF, formF, putS, bodyL]
  ·have hf : btw 64 126 x4.1 = true := by simpa [lastOk] using hl
   rw [hne 64 (by omega) hf]
   have e1 : x1.1 = 0 := by rw [← hx1]; rfl
   have e2 : x2.1 = [] := by rw [← hx2]; rfl
   have e3 : x3.1 = [] := by rw [← hx3]; rfl
   have e5 : x5.1 = [] := by rw [← hx5]; rfl
   rw [e1, e2, e3, e5]
   simp [headF, formF, putS, privL, parL]
  ·have hf : btw 64 126 x4.1 = true := by simpa [lastOk] using hl
   rw [hne 64 (by omega) hf]
   simp [headF, formF, putS, bodyL]
  ·have e1 : x1.1 = 0 := by rw [← hx1]; rfl
   have e2 : x2.1 = [] := by rw [← hx2]; rfl
   have e3 : x3.1 = [] := by rw [← hx3]; rfl
   have e4 : x4.1 = 0 := by rw [← hx4]; rfl
   rw [e1, e2, e3, e4]
   simp [headF, formF, putS, privL, parL]
  ·have hf : btw 48 126 x4.1 = true := by simp [lastOk] at hl; exact hl.1
   rw [hne 48 (by omega) hf]
   have e1 : x1.1 = 0 := by rw [← hx1]; rfl
   have e2 : x2.1 = [] := by rw [← hx2]; rfl
   have e5 : x5.1 = [] := by rw [← hx5]; rfl
   rw [e1, e2, e5]
   simp [headF, formF, putS, privL, parL]
 ·cases h
theorem runF_full (a b : Nat) (t r : List UInt8) (ht : ∀ c ∈ t, btw a b c = true) : runF a b t.length (t ++ r) = t := by
 unfold runF
 rw [List.take_left]
 have := tw_app (btw a b) t [] ht rfl
 rwa [List.append_nil] at this
theorem runF_none (a b m : Nat) (r : List UInt8) (h : r.head?.any (btw a b) = false) : runF a b m r = [] := by
 have := runF_put a b m [] r (fun c hc => by cases hc) (by simp) h
 exact this
theorem runF_end {a b m k : Nat} {r : List UInt8} (hk : k ≤ r.length) (hm : k ≤ m) (ha : (r.take k).all (btw a b) = true) (hs : k = m ∨ k = r.length ∨ ∃ h : k < r.length, btw a b r[k] = false) : runF a b m r = r.take k := by
 have hl : (r.take k).length = k := by rw [List.length_take]; omega
 have ha' : ∀ c ∈ r.take k, btw a b c = true := List.all_eq_true.1 ha
 conv => lhs; rw [← List.take_append_drop k r]
 rcases hs with rfl | rfl | ⟨h, hb⟩
 ·have := runF_full a b (r.take k) (r.drop k) ha'
  rwa [hl] at this
 ·exact runF_put a b m _ _ ha' (by omega) (by simp)
 ·refine runF_put a b m _ _ ha' (by omega) ?_
  rw [List.drop_eq_getElem_cons h]
  exact hb
theorem rd1_put (f : Fm) (pv : UInt8) (r : List UInt8) (hb : f.body = true) (hv : privOk pv = true) (hr : r.head?.any (btw 60 63) = false) : rd1 f (privL pv ++ r) = (pv, r) := by
 unfold rd1
 rw [if_pos hb]
 by_cases h0 : pv = 0
 ·subst h0
  have e := runF_none 60 63 1 r hr
  rw [show privL 0 ++ r = r from rfl]
  unfold oneF
  rw [e]
  rfl
 ·have hb : btw 60 63 pv = true := by
   simp only [privOk, Bool.or_eq_true, decide_eq_true_eq] at hv
   exact hv.resolve_left h0
  have e := runF_full 60 63 [pv] r (fun c hc => by rw [List.mem_singleton] at hc; subst hc; exact hb)
  rw [show privL pv = [pv] from if_neg h0]
  unfold oneF
  rw [show ([pv] : List UInt8).length = 1 from rfl] at e
  rw [e]
  rfl
theorem rd4_put (f : Fm) (x : UInt8) (r : List UInt8) (hf : f.first ≠ 0) (hx : btw f.first.toNat 126 x = true) : rd4 f (x :: r) = (x, r) := by
 unfold rd4
 rw [if_neg hf]
 have e := runF_full f.first.toNat 126 [x] r (fun c hc => by rw [List.mem_singleton] at hc; subst hc; exact hx)
 rw [show ([x] : List UInt8).length = 1 from rfl] at e
 unfold oneF
 rw [show [x] ++ r = x :: r from rfl] at e
 rw [e]
 rfl
theorem rd3_put (f : Fm) (it r : List UInt8) (hb : f.inter = true) (hi : ∀ c ∈ it, btw 32 47 c = true) (hl : it.length ≤ 2) (hr : r.head?.any (btw 32 47) = false) : rd3 f (it ++ r) = (it, r) := by
 unfold rd3
 rw [if_pos hb, runF_put 32 47 2 it r hi hl hr, List.drop_left]
theorem rd5_put (f : Fm) (d r : List UInt8) (hb : f.en ≠ []) (hi : ∀ c ∈ d, btw 32 126 c = true) (hl : d.length ≤ 4096) (hr : r.head?.any (btw 32 126) = false) : rd5 f (d ++ r) = (d, r) := by
 unfold rd5
 rw [if_neg hb, runF_put 32 126 4096 d r hi hl hr, List.drop_left]
theorem head_off (it : List UInt8) (f : UInt8) (m : List UInt8) (n : Nat) (hi : ∀ c ∈ it, btw 32 47 c = true) (hf : btw n 126 f = true) (hn : 48 ≤ n) : (f :: m).head?.any (btw 32 47) = false ∧ (64 ≤ n → offP (it ++ (f :: m)) ∧ ∀ ps, (parL ps ++ (it ++ (f :: m))).head?.any (btw 60 63) = false) := by
 have h2 := (btw_iff _ _ _).1 hf
 refine ⟨?_, fun h64 => ⟨?_, fun ps => ?_⟩⟩
 ·show btw 32 47 f = false
  rw [btw_no]; omega
 ·unfold offP
  cases it with
  | nil => show btw 48 59 f = false; rw [btw_no]; omega
  | cons c it =>
    have := (btw_iff _ _ _).1 (hi c (List.mem_cons_self ..))
    show btw 48 59 c = false; rw [btw_no]; omega
 ·cases hps : parL ps with
  | cons x xs =>
    have := (btw_iff _ _ _).1 (par_btw ps x (by rw [hps]; exact List.mem_cons_self ..))
    show btw 60 63 x = false; rw [btw_no]; omega
  | nil =>
    cases it with
    | nil => show btw 60 63 f = false; rw [btw_no]; omega
    | cons c it =>
      have := (btw_iff _ _ _).1 (hi c (List.mem_cons_self ..))
      show btw 60 63 c = false; rw [btw_no]; omega
theorem prog_put {s : Sq} (h : mayS s = 0) (m : List UInt8) : progF (putS s ++ m) = some (s, m) := by
 obtain ⟨hdl, hv, hp, hil, hi, hd, hl, hb⟩ := ok_parts h
 have hcases : s.kind = 1 ∨ s.kind = 2 ∨ s.kind = 3 ∨ s.kind = 4 ∨ s.kind = 5 := by
  unfold lastOk at hl
  split at hl
  ·omega
  ·split at hl
   ·omega
   ·simp only [Bool.and_eq_true, decide_eq_true_eq] at hl; omega
 have goal : ∀ (k : Int) (r : List UInt8), k ≠ 0 → kindF (putS s ++ m) = k → putS s ++ m = headF k ++ r → readF k r = (s, (formF k).en ++ m) → progF (putS s ++ m) = some (s, m) := by
  intro k r k0 hk e hr
  unfold progF
  rw [hk, if_neg k0, e, List.drop_left, hr]
  unfold endF
  dsimp only
  rw [if_pos ⟨skipB_app _ _, h⟩, List.drop_left]
 obtain ⟨k, pv, ps, it, f, d⟩ := s
 dsimp only at hv hp hi hd hcases hil hdl
 rcases hcases with rfl | rfl | rfl | rfl | rfl
 ·have hf : btw 64 126 f = true := by simpa [lastOk] using hl
  have hd0 : d = [] := by simpa [bareOk] using hb
  subst hd0
  obtain ⟨o1, o2⟩ := head_off it f m 64 hi hf (by omega)
  obtain ⟨o2, o3⟩ := o2 (by omega)
  refine goal 1 (privL pv ++ (parL ps ++ (it ++ (f :: m)))) (by omega) ?_ ?_ ?_
  ·rfl
  ·simp [headF, formF, putS, bodyL]
  ·unfold readF
   dsimp only
   rw [rd1_put _ pv _ rfl hv (o3 ps)]
   dsimp only
   rw [show rd2 (formF 1) (parL ps ++ (it ++ f :: m)) = paramsF (parL ps ++ (it ++ f :: m)) from rfl, paramsF_put ps _ hp o2]
   dsimp only
   rw [rd3_put _ it _ rfl hi hil o1]
   dsimp only
   rw [rd4_put (formF 1) f m (by decide) hf]
   rfl
 ·have h1 : pv = 0 ∧ ps = [] ∧ it = [] ∧ d = [] := by
   simp [bareOk] at hb
   obtain ⟨⟨⟨a, b⟩, c⟩, e⟩ := hb
   exact ⟨a, b, c, e⟩
  obtain ⟨rfl, rfl, rfl, rfl⟩ := h1
  have hf : btw 64 126 f = true := by simpa [lastOk] using hl
  refine goal 2 (f :: m) (by omega) rfl rfl ?_
  unfold readF
  dsimp only
  rw [show rd1 (formF 2) (f :: m) = (0, f :: m) from rfl]
  dsimp only
  rw [show rd2 (formF 2) (f :: m) = ([], f :: m) from rfl]
  dsimp only
  rw [show rd3 (formF 2) (f :: m) = ([], f :: m) from rfl]
  dsimp only
  rw [rd4_put (formF 2) f m (by decide) hf]
  rfl
 ·have hf : btw 64 126 f = true := by simpa [lastOk] using hl
  obtain ⟨o1, o2⟩ := head_off it f (d ++ (27 :: 92 :: m)) 64 hi hf (by omega)
  obtain ⟨o2, o3⟩ := o2 (by omega)
  refine goal 3 (privL pv ++ (parL ps ++ (it ++ (f :: (d ++ (27 :: 92 :: m)))))) (by omega) ?_ ?_ ?_
  ·rfl
  ·simp [headF, formF, putS, bodyL]
  ·unfold readF
   dsimp only
   rw [rd1_put _ pv _ rfl hv (o3 ps)]
   dsimp only
   rw [show rd2 (formF 3) (parL ps ++ (it ++ f :: (d ++ 27 :: 92 :: m))) = paramsF (parL ps ++ (it ++ f :: (d ++ 27 :: 92 :: m))) from rfl, paramsF_put ps _ hp o2]
   dsimp only
   rw [rd3_put _ it _ rfl hi hil o1]
   dsimp only
   rw [rd4_put (formF 3) f _ (by decide) hf]
   dsimp only
   rw [rd5_put (formF 3) d (27 :: 92 :: m) (by decide) hd hdl rfl]
   rfl
 ·have h1 : pv = 0 ∧ ps = [] ∧ it = [] := by
   simp [bareOk] at hb
   exact ⟨hb.1.1, hb.1.2, hb.2⟩
  have hf : f = 0 := by simpa [lastOk] using hl
  obtain ⟨rfl, rfl, rfl⟩ := h1
  subst hf
  refine goal 4 (d ++ (27 :: 92 :: m)) (by omega) ?_ ?_ ?_
  ·rfl
  ·simp [headF, formF, putS]
  ·unfold readF
   dsimp only
   rw [show rd1 (formF 4) (d ++ (27 :: 92 :: m)) = (0, d ++ (27 :: 92 :: m)) from rfl]
   dsimp only
   rw [show rd2 (formF 4) (d ++ (27 :: 92 :: m)) = ([], d ++ (27 :: 92 :: m)) from rfl]
   dsimp only
   rw [show rd3 (formF 4) (d ++ (27 :: 92 :: m)) = ([], d ++ (27 :: 92 :: m)) from rfl]
   dsimp only
   rw [show rd4 (formF 4) (d ++ (27 :: 92 :: m)) = (0, d ++ (27 :: 92 :: m)) from rfl]
   dsimp only
   rw [rd5_put (formF 4) d (27 :: 92 :: m) (by decide) hd hdl rfl]
   rfl
 ·have h1 : pv = 0 ∧ ps = [] ∧ d = [] := by
   simp [bareOk] at hb
   exact ⟨hb.1.1, hb.1.2, hb.2⟩
  obtain ⟨rfl, rfl, rfl⟩ := h1
  have hf : btw 48 126 f = true ∧ (it ≠ [] ∨ ¬ (f = 79 ∨ f = 80 ∨ f = 88 ∨ f = 91 ∨ f = 93 ∨ f = 92 ∨ f = 94 ∨ f = 95)) := by
   simp [lastOk] at hl
   refine ⟨hl.1, ?_⟩
   rcases hl.2 with h | h
   ·exact .inl h
   ·right
    intro hh
    rcases hh with rfl | rfl | rfl | rfl | rfl | rfl | rfl | rfl <;> simp at h
  obtain ⟨o1, _⟩ := head_off it f m 48 hi hf.1 (by omega)
  have hg : ∀ c1 r, it ++ (f :: m) = c1 :: r → c1 ≠ 79 ∧ c1 ≠ 93 ∧ c1 ≠ 91 ∧ c1 ≠ 80 := by
   intro c1 r e
   cases it with
   | cons x xs =>
     obtain rfl : x = c1 := by simpa using congrArg List.head? e
     have := (btw_iff _ _ _).1 (hi x (List.mem_cons_self ..))
     refine ⟨?_, ?_, ?_, ?_⟩ <;> (rintro rfl; simp at this)
   | nil =>
     obtain rfl : f = c1 := by simpa using congrArg List.head? e
     have := hf.2.resolve_left (by simp)
     refine ⟨?_, ?_, ?_, ?_⟩ <;> (intro h; exact this (by simp [h]))
  have e : putS ⟨5, 0, [], it, f, []⟩ ++ m = 27 :: (it ++ (f :: m)) := by simp [putS]
  refine goal 5 (it ++ (f :: m)) (by omega) ?_ ?_ ?_
  ·rw [e]
   cases ht : it ++ (f :: m) with
   | nil => simp at ht
   | cons c1 r =>
     obtain ⟨g1, g2, g3, g4⟩ := hg c1 r ht
     have g : ∀ x : UInt8, c1 ≠ x → skipB [27, x] (27 :: c1 :: r) = false := fun x hx => by simp [skipB, List.isPrefixOf, Ne.symm hx]
     unfold kindF
     rw [g 91 g3, g 79 g1, g 80 g4, g 93 g2]
     rfl
  ·rw [e]; rfl
  ·unfold readF
   dsimp only
   rw [show rd1 (formF 5) (it ++ (f :: m)) = (0, it ++ (f :: m)) from rfl]
   dsimp only
   rw [show rd2 (formF 5) (it ++ (f :: m)) = ([], it ++ (f :: m)) from rfl]
   dsimp only
   rw [rd3_put _ it _ rfl hi hil o1]
   dsimp only
   rw [rd4_put (formF 5) f m (by decide) hf.1]
   rfl
theorem prog_yes {b : List UInt8} {s : Sq} {t : List UInt8} (h : progF b = some (s, t)) : mayS s = 0 ∧ b = putS s ++ t := by
 unfold progF at h
 split at h
 ·cases h
 ·rename_i h0
  obtain ⟨hk, hs⟩ := (kind_cases b).resolve_left h0
  obtain ⟨h1, h2⟩ := read_sound _ hk _ _ _ h
  exact ⟨h1, (skipB_some hs).trans h2⟩
theorem prog_some {b : List UInt8} {s : Sq} {n : Nat} (h : takeS b = some (s, n)) : progF b = some (s, b.drop n) ∧ n ≤ b.length := by
 obtain ⟨h1, h2, h3⟩ := takeS_some h
 refine ⟨?_, ?_⟩
 ·conv => lhs; rw [h3]
  exact prog_put h1 _
 ·have := congrArg List.length h3
  rw [List.length_append] at this
  omega
theorem prog_none {b : List UInt8} (h : takeS b = none) : progF b = none := by
 cases hp : progF b with
 | none => rfl
 | some x =>
   obtain ⟨s, t⟩ := x
   obtain ⟨h1, h2⟩ := prog_yes hp
   rw [h2, takeS_put h1] at h
   cases h
end Go.Proofs.YtjlhhelikiegdaaGreatDoor
