/-
  Layer 3's mathematics: what a reader of bytes reads, a piece at a time; that it is just the sequence with which the bytes begin.
-/
import Derived.Test.YtjlhhelikiegdaaGreatDoorG05
namespace Go.Proofs.YtjlhhelikiegdaaGreatDoor
def dstep (n : Nat) (c : UInt8) : Nat := min (n * 10 + (c.toNat - 48)) 1114111
def satv (l : List UInt8) : Nat := (l.takeWhile isD).foldl dstep 0
theorem dstep_le (n : Nat) (c : UInt8) : dstep n c ≤ 1114111 := Nat.min_le_right _ _
theorem fold_le : ∀ (t : List UInt8) (n : Nat), n ≤ 1114111 → t.foldl dstep n ≤ 1114111
 | [], _, h => h
 | c :: t, n, _ => by rw [List.foldl_cons]; exact fold_le t _ (dstep_le n c)
theorem satv_le (l : List UInt8) : satv l ≤ 1114111 := fold_le _ _ (by omega)
theorem dec_fold (u : Nat) : (Lib.decDigits u).foldl dstep 0 = min u 1114111 := by
 induction u using Nat.strongRecOn with
 | _ u ih =>
   by_cases h : u < 10
   ·rw [dec_small u h, List.foldl_cons, List.foldl_nil, dstep, (digit_isD u h).2]; omega
   ·rw [dec_step u h, List.foldl_append, ih (u / 10) (by omega), List.foldl_cons, List.foldl_nil, dstep, (digit_isD (u % 10) (by omega)).2]; omega
theorem tw_app (p : UInt8 → Bool) : ∀ (a m : List UInt8), (∀ c ∈ a, p c = true) → (m.head?.any p = false) → (a ++ m).takeWhile p = a
 | [], m, _, h => by
   cases m with
   | nil => rfl
   | cons c r => simp only [List.head?_cons, Option.any_some] at h; rw [List.nil_append, List.takeWhile_cons_of_neg (by rw [h]; simp)]
 | c :: a, m, h, hm => by rw [List.cons_append, List.takeWhile_cons_of_pos (h c (List.mem_cons_self ..)), tw_app p a m (fun d hd => h d (List.mem_cons_of_mem _ hd)) hm]
theorem sat_text (n : Int) (h : 0 ≤ n) (h2 : n ≤ 1114111) (m : List UInt8) (hm : m.head?.any isD = false) : (satv (textL n ++ m) : Int) = n := by
 unfold satv
 rw [tw_app isD _ _ (text_all_isD n) hm]
 rw [show textL n = Lib.decDigits n.toNat from if_neg (by omega), dec_fold]
 omega
def skipB (t r : List UInt8) : Bool := t.isPrefixOf r
theorem skipB_app (t m : List UInt8) : skipB t (t ++ m) = true := by unfold skipB; simp
theorem skipB_some {t r : List UInt8} (h : skipB t r = true) : r = t ++ r.drop t.length := by
 unfold skipB at h
 rw [List.isPrefixOf_iff_prefix] at h
 obtain ⟨m, rfl⟩ := h
 rw [List.drop_left]
def runF (a b m : Nat) (r : List UInt8) : List UInt8 := (r.take m).takeWhile (btw a b)
theorem tw_mem (p : UInt8 → Bool) : ∀ (l : List UInt8) (c : UInt8), c ∈ l.takeWhile p → p c = true
 | [], c, h => by cases h
 | d :: l, c, h => by
   by_cases hd : p d = true
   ·rw [List.takeWhile_cons_of_pos hd] at h
    rcases List.mem_cons.1 h with rfl | h
    ·exact hd
    ·exact tw_mem p l c h
   ·rw [List.takeWhile_cons_of_neg hd] at h; cases h
theorem runF_all (a b m : Nat) (r : List UInt8) : ∀ c ∈ runF a b m r, btw a b c = true := fun c hc => by
 unfold runF at hc
 exact tw_mem _ _ c hc
theorem runF_len (a b m : Nat) (r : List UInt8) : (runF a b m r).length ≤ m := by
 have := (List.takeWhile_sublist (btw a b) (l := r.take m)).length_le
 rw [List.length_take] at this
 unfold runF
 omega
theorem runF_drop (a b m : Nat) (r : List UInt8) : r = runF a b m r ++ r.drop (runF a b m r).length := by
 have hp : runF a b m r <+: r := (List.takeWhile_prefix _).trans (List.take_prefix _ _)
 obtain ⟨t, ht⟩ := hp
 generalize runF a b m r = x at *
 subst ht
 rw [List.drop_left]
theorem runF_put (a b m : Nat) (t r : List UInt8) (ht : ∀ c ∈ t, btw a b c = true) (hl : t.length ≤ m) (hr : r.head?.any (btw a b) = false) : runF a b m (t ++ r) = t := by
 unfold runF
 rw [List.take_append, List.take_of_length_le hl]
 refine tw_app _ _ _ ht ?_
 cases r with
 | nil => simp
 | cons c r =>
   cases h : m - t.length with
   | zero => rfl
   | succ k => simpa using hr
def oneF (a b : Nat) (r : List UInt8) : UInt8 := (runF a b 1 r).headD 0
theorem one_run (a b : Nat) (r : List UInt8) (h : 1 ≤ a) : runF a b 1 r = privL (oneF a b r) := by
 have hl := runF_len a b 1 r
 have ha := runF_all a b 1 r
 unfold oneF
 match hq : runF a b 1 r with
 | [] => rfl
 | [c] =>
   rw [hq] at ha
   have := (btw_iff _ _ _).1 (ha c (List.mem_singleton.2 rfl))
   show [c] = privL c
   unfold privL
   rw [if_neg (fun e => by subst e; simp at this; omega)]
 | c :: d :: t => rw [hq] at hl; simp at hl
def partF (r : List UInt8) : Int × List UInt8 := if skipB (textL (satv r)) r = true then ((satv r : Int), r.drop (textL (satv r)).length) else (-1, r)
theorem partF_app (r : List UInt8) : r = textL (partF r).1 ++ (partF r).2 := by
 unfold partF
 split
 ·rename_i h; exact skipB_some h
 ·rw [textL_neg _ (by omega)]; rfl
theorem partF_rng (r : List UInt8) : -1 ≤ (partF r).1 ∧ (partF r).1 ≤ 1114111 := by
 have := satv_le r
 unfold partF
 split
 ·dsimp only; omega
 ·dsimp only; omega
theorem partF_put (n : Int) (h0 : -1 ≤ n) (h1 : n ≤ 1114111) (m : List UInt8) (hm : m.head?.any isD = false) : partF (textL n ++ m) = (n, m) := by
 unfold partF
 by_cases h : n < 0
 ·rw [textL_neg n h, List.nil_append]
  have e : satv m = 0 := by
   unfold satv
   rw [show m.takeWhile isD = [] by simpa using tw_app isD [] m (fun c hc => by cases hc) hm]; rfl
  rw [e, if_neg]
  ·rw [show n = -1 by omega]
  ·intro hs
   have := skipB_some hs
   have e2 : textL ((0 : Nat) : Int) = [48] := by rw [textL_small _ (by omega) (by omega)]; rfl
   rw [e2] at this
   rw [this] at hm
   simp at hm
   exact absurd hm (by decide)
 ·have e := sat_text n (by omega) h1 m hm
  rw [e, if_pos (skipB_app _ _), List.drop_left]
def partsGo : Nat → List Int → List UInt8 → List Int × List UInt8
 | 0, acc, r => (acc, r)
 | f + 1, acc, r => if skipB [58] r = true then partsGo f (acc ++ [(partF (r.drop 1)).1]) (partF (r.drop 1)).2 else (acc, r)
def partsF (r : List UInt8) : List Int × List UInt8 := partsGo 7 [(partF r).1] (partF r).2
def paramsGo : Nat → List (List Int) → List UInt8 → List (List Int) × List UInt8
 | 0, acc, r => (acc, r)
 | f + 1, acc, r => if skipB [59] r = true then paramsGo f (acc ++ [(partsF (r.drop 1)).1]) (partsF (r.drop 1)).2 else (acc, r)
def noneL (ps : List (List Int)) : List (List Int) := if ps = [[-1]] then [] else ps
def paramsF (r : List UInt8) : List (List Int) × List UInt8 := (noneL (paramsGo 15 [(partsF r).1] (partsF r).2).1, (paramsGo 15 [(partsF r).1] (partsF r).2).2)
theorem part_more (p : List Int) (n : Int) (h : p ≠ []) : partL (p ++ [n]) = partL p ++ (58 :: textL n) := by
 match p, h with
 | [m], _ => rfl
 | m :: k :: p, _ =>
   have ih := part_more (k :: p) n (by simp)
   show textL m ++ (58 :: partL (k :: p ++ [n])) = _
   rw [ih]
   simp [partL]
theorem par_more (l : List (List Int)) (p : List Int) (h : l ≠ []) : parL (l ++ [p]) = parL l ++ (59 :: partL p) := by
 match l, h with
 | [m], _ => rfl
 | m :: k :: l, _ =>
   have ih := par_more (k :: l) p (by simp)
   show partL m ++ (59 :: parL (k :: l ++ [p])) = _
   rw [ih]
   simp [parL]
theorem partsGo_app : ∀ (f : Nat) (acc : List Int) (r : List UInt8), acc ≠ [] → partOk acc → partL acc ++ r = partL (partsGo f acc r).1 ++ (partsGo f acc r).2 ∧ partOk (partsGo f acc r).1 ∧ acc.length ≤ (partsGo f acc r).1.length ∧ (partsGo f acc r).1.length ≤ acc.length + f
 | 0, acc, r, _, ho => ⟨rfl, ho, Nat.le_refl _, Nat.le_refl _⟩
 | f + 1, acc, r, hn, ho => by
   unfold partsGo
   split
   ·rename_i h
    have hr := skipB_some h
    have hp := partF_app (r.drop 1)
    have hq := partF_rng (r.drop 1)
    obtain ⟨i1, i2, i3, i4⟩ := partsGo_app f (acc ++ [(partF (r.drop 1)).1]) (partF (r.drop 1)).2 (by simp) (fun n hn => by
     rcases List.mem_append.1 hn with h | h
     ·exact ho n h
     ·rw [List.mem_singleton] at h; subst h; exact hq)
    rw [List.length_append, List.length_singleton] at i3 i4
    refine ⟨?_, i2, by omega, by omega⟩
    rw [← i1, part_more _ _ hn]
    conv => lhs; rw [hr]
    rw [show ([58] : List UInt8).length = 1 from rfl]
    conv => lhs; rw [hp]
    simp
   ·exact ⟨rfl, ho, Nat.le_refl _, Nat.le_add_right _ _⟩
theorem partsF_app (r : List UInt8) : r = partL (partsF r).1 ++ (partsF r).2 ∧ partOk (partsF r).1 ∧ 1 ≤ (partsF r).1.length ∧ (partsF r).1.length ≤ 8 := by
 have hp := partF_app r
 have hq := partF_rng r
 obtain ⟨i1, i2, i3, i4⟩ := partsGo_app 7 [(partF r).1] (partF r).2 (by simp) (fun n hn => by rw [List.mem_singleton] at hn; subst hn; exact hq)
 exact ⟨hp.trans i1, i2, i3, i4⟩
def parsOk (l : List (List Int)) : Prop := ∀ p ∈ l, partOk p ∧ 1 ≤ p.length ∧ p.length ≤ 8
theorem paramsGo_app : ∀ (f : Nat) (acc : List (List Int)) (r : List UInt8), acc ≠ [] → parsOk acc → parL acc ++ r = parL (paramsGo f acc r).1 ++ (paramsGo f acc r).2 ∧ parsOk (paramsGo f acc r).1 ∧ acc.length ≤ (paramsGo f acc r).1.length ∧ (paramsGo f acc r).1.length ≤ acc.length + f
 | 0, acc, r, _, ho => ⟨rfl, ho, Nat.le_refl _, Nat.le_refl _⟩
 | f + 1, acc, r, hn, ho => by
   unfold paramsGo
   split
   ·rename_i h
    have hr := skipB_some h
    obtain ⟨hp, hq⟩ := partsF_app (r.drop 1)
    obtain ⟨i1, i2, i3, i4⟩ := paramsGo_app f (acc ++ [(partsF (r.drop 1)).1]) (partsF (r.drop 1)).2 (by simp) (fun n hn => by
     rcases List.mem_append.1 hn with h | h
     ·exact ho n h
     ·rw [List.mem_singleton] at h; subst h; exact hq)
    rw [List.length_append, List.length_singleton] at i3 i4
    refine ⟨?_, i2, by omega, by omega⟩
    rw [← i1, par_more _ _ hn]
    conv => lhs; rw [hr]
    rw [show ([59] : List UInt8).length = 1 from rfl]
    conv => lhs; rw [hp]
    simp
   ·exact ⟨rfl, ho, Nat.le_refl _, Nat.le_add_right _ _⟩
theorem paramsF_app (r : List UInt8) : r = parL (paramsF r).1 ++ (paramsF r).2 ∧ parOk (paramsF r).1 = true := by
 obtain ⟨hp, hq⟩ := partsF_app r
 obtain ⟨i1, i2, i3, i4⟩ := paramsGo_app 15 [(partsF r).1] (partsF r).2 (by simp) (fun p hp => by rw [List.mem_singleton] at hp; subst hp; exact hq)
 have e : r = parL (paramsGo 15 [(partsF r).1] (partsF r).2).1 ++ (paramsGo 15 [(partsF r).1] (partsF r).2).2 := hp.trans i1
 unfold paramsF noneL
 generalize paramsGo 15 [(partsF r).1] (partsF r).2 = x at *
 dsimp only
 split
 ·rename_i h
  rw [h] at e
  refine ⟨?_, by decide⟩
  rw [show parL [] = ([] : List UInt8) from rfl]
  rw [show parL [[-1]] = ([] : List UInt8) by show textL (-1) = []; exact textL_neg _ (by omega)] at e
  exact e
 ·rename_i h
  refine ⟨e, ?_⟩
  simp only [parOk, Bool.and_eq_true, decide_eq_true_eq, List.all_eq_true]
  simp only [List.length_singleton] at i4
  refine ⟨⟨by omega, h⟩, fun p hp => ?_⟩
  obtain ⟨j1, j2, j3⟩ := i2 p hp
  exact ⟨⟨j2, j3⟩, fun n hn => j1 n hn⟩
def parts1 : List Int → List UInt8
 | [] => []
 | n :: p => 58 :: (textL n ++ parts1 p)
theorem partL_cons (n : Int) (p : List Int) : partL (n :: p) = textL n ++ parts1 p := by
 induction p generalizing n with
 | nil => simp [partL, parts1]
 | cons m p ih => rw [show partL (n :: m :: p) = textL n ++ (58 :: partL (m :: p)) from rfl, ih]; rfl
def params1 : List (List Int) → List UInt8
 | [] => []
 | n :: p => 59 :: (partL n ++ params1 p)
theorem parL_cons (n : List Int) (p : List (List Int)) : parL (n :: p) = partL n ++ params1 p := by
 induction p generalizing n with
 | nil => simp [parL, params1]
 | cons m p ih => rw [show parL (n :: m :: p) = partL n ++ (59 :: parL (m :: p)) from rfl, ih]; rfl
theorem skip_head {c : UInt8} {m : List UInt8} (h : m.head? ≠ some c) : skipB [c] m = false := by
 cases m with
 | nil => rfl
 | cons d m =>
   have : c ≠ d := fun e => h (by rw [e]; rfl)
   simp [skipB, List.isPrefixOf, this]
theorem partsGo_put : ∀ (p : List Int) (f : Nat) (acc : List Int) (m : List UInt8), p.length ≤ f → partOk p → m.head?.any isD = false → m.head? ≠ some 58 → partsGo f acc (parts1 p ++ m) = (acc ++ p, m)
 | [], f, acc, m, _, _, hm, hc => by
   rw [show parts1 [] ++ m = m from rfl, List.append_nil]
   cases f with
   | zero => rfl
   | succ f => unfold partsGo; rw [if_neg (by rw [skip_head hc]; simp)]
 | n :: p, 0, _, _, h, _, _, _ => by simp at h
 | n :: p, f + 1, acc, m, h, ho, hm, hc => by
   unfold partsGo
   rw [show parts1 (n :: p) ++ m = [58] ++ (textL n ++ (parts1 p ++ m)) by simp [parts1]]
   rw [if_pos (skipB_app _ _)]
   rw [show (([58] : List UInt8) ++ (textL n ++ (parts1 p ++ m))).drop 1 = textL n ++ (parts1 p ++ m) from rfl]
   obtain ⟨h0, h1⟩ := ho n (List.mem_cons_self ..)
   have hh : (parts1 p ++ m).head?.any isD = false := by
    cases p with
    | nil => exact hm
    | cons k p => rfl
   rw [partF_put n h0 h1 _ hh]
   dsimp only
   rw [partsGo_put p f _ m (by simpa using h) (fun x hx => ho x (List.mem_cons_of_mem _ hx)) hm hc]
   simp
theorem partsF_put (p : List Int) (m : List UInt8) (h1 : 1 ≤ p.length) (h2 : p.length ≤ 8) (ho : partOk p) (hm : m.head?.any isD = false) (hc : m.head? ≠ some 58) : partsF (partL p ++ m) = (p, m) := by
 match p, h1 with
 | n :: p, _ =>
   unfold partsF
   rw [partL_cons, List.append_assoc]
   obtain ⟨h0, h3⟩ := ho n (List.mem_cons_self ..)
   have hh : (parts1 p ++ m).head?.any isD = false := by
    cases p with
    | nil => exact hm
    | cons k p => rfl
   rw [partF_put n h0 h3 _ hh]
   dsimp only
   rw [partsGo_put p 7 _ m (by simpa using h2) (fun x hx => ho x (List.mem_cons_of_mem _ hx)) hm hc]
   rfl
theorem paramsGo_put : ∀ (p : List (List Int)) (f : Nat) (acc : List (List Int)) (m : List UInt8), p.length ≤ f → parsOk p → m.head?.any isD = false → m.head? ≠ some 58 → m.head? ≠ some 59 → paramsGo f acc (params1 p ++ m) = (acc ++ p, m)
 | [], f, acc, m, _, _, hm, hc, hs => by
   rw [show params1 [] ++ m = m from rfl, List.append_nil]
   cases f with
   | zero => rfl
   | succ f => unfold paramsGo; rw [if_neg (by rw [skip_head hs]; simp)]
 | n :: p, 0, _, _, h, _, _, _, _ => by simp at h
 | n :: p, f + 1, acc, m, h, ho, hm, hc, hs => by
   unfold paramsGo
   rw [show params1 (n :: p) ++ m = [59] ++ (partL n ++ (params1 p ++ m)) by simp [params1]]
   rw [if_pos (skipB_app _ _)]
   rw [show (([59] : List UInt8) ++ (partL n ++ (params1 p ++ m))).drop 1 = partL n ++ (params1 p ++ m) from rfl]
   obtain ⟨h0, h1, h2⟩ := ho n (List.mem_cons_self ..)
   have hh : (params1 p ++ m).head?.any isD = false ∧ (params1 p ++ m).head? ≠ some 58 := by
    cases p with
    | nil => exact ⟨hm, hc⟩
    | cons k p => exact ⟨rfl, by simp [params1]⟩
   rw [partsF_put n _ h1 h2 h0 hh.1 hh.2]
   dsimp only
   rw [paramsGo_put p f _ m (by simpa using h) (fun x hx => ho x (List.mem_cons_of_mem _ hx)) hm hc hs]
   simp
def offP (m : List UInt8) : Prop := m.head?.any (btw 48 59) = false
theorem offP.parts {m : List UInt8} (h : offP m) : m.head?.any isD = false ∧ m.head? ≠ some 58 ∧ m.head? ≠ some 59 := by
 cases m with
 | nil => exact ⟨rfl, by simp, by simp⟩
 | cons c m =>
   have h' : btw 48 59 c = false := h
   have h2 := (btw_no _ _ _).1 h'
   refine ⟨?_, ?_, ?_⟩
   ·show isD c = false
    unfold isD
    exact decide_eq_false (by omega)
   ·simp; rintro rfl; exact absurd h' (by decide)
   ·simp; rintro rfl; exact absurd h' (by decide)
theorem paramsF_put (ps : List (List Int)) (m : List UInt8) (hp : parOk ps = true) (hm : offP m) : paramsF (parL ps ++ m) = (ps, m) := by
 obtain ⟨m1, m2, m3⟩ := hm.parts
 have hp' := hp
 simp only [parOk, Bool.and_eq_true, decide_eq_true_eq, List.all_eq_true] at hp'
 obtain ⟨⟨hl, hne⟩, ha⟩ := hp'
 have ho : parsOk ps := fun p h => ⟨fun n hn => (ha p h).2 n hn, (ha p h).1⟩
 match ps with
 | [] =>
   have e1 : partsF m = ([-1], m) := by
    have := partsF_put [-1] m (by simp) (by simp) (fun n hn => by rw [List.mem_singleton] at hn; omega) m1 m2
    rwa [show partL [-1] = ([] : List UInt8) from textL_neg _ (by omega), List.nil_append] at this
   have e2 := paramsGo_put [] 15 [[-1]] m (by simp) (fun p hp => by cases hp) m1 m2 m3
   rw [show params1 [] ++ m = m from rfl] at e2
   unfold paramsF
   rw [show parL [] ++ m = m from rfl, e1]
   dsimp only
   rw [e2]
   rfl
 | p :: ps =>
   obtain ⟨h0, h1, h2⟩ := ho p (List.mem_cons_self ..)
   have hh : (params1 ps ++ m).head?.any isD = false ∧ (params1 ps ++ m).head? ≠ some 58 := by
    cases ps with
    | nil => exact ⟨m1, m2⟩
    | cons k p => exact ⟨rfl, by simp [params1]⟩
   have e1 := partsF_put p (params1 ps ++ m) h1 h2 h0 hh.1 hh.2
   have e2 := paramsGo_put ps 15 [p] m (by simp at hl; omega) (fun x hx => ho x (List.mem_cons_of_mem _ hx)) m1 m2 m3
   unfold paramsF
   rw [parL_cons, List.append_assoc, e1]
   dsimp only
   rw [e2]
   unfold noneL
   rw [if_neg (show ¬ (([p] ++ ps, m) : List (List Int) × List UInt8).1 = [[-1]] from hne)]
   rfl
end Go.Proofs.YtjlhhelikiegdaaGreatDoor
