/-
  Lists of numbers, read in memory; the document's comparison of two of them. (For layers that don't load layer 2's own texts.) A block that is written whole, and read whole. What All answers. Cut out of WirP: what names no function of any dump. Layer 3's mathematics: the reader that goes through the kinds reads just the sequence with which the bytes begin.
-/
import Derived.Test.YtceipblcdcgljaaGreatDoorG01
import Derived.Test.YtceipblcdcgljaaGreatDoorG02
import Derived.Test.YtceipblcdcgljaaGreatDoorG03
import Derived.BigQuiet
import Derived.Deep.QuietTactic
import Derived.Deep.MidRow
namespace Go.Proofs.YtceipblcdcgljaaGreatDoor
open Go.RowKit
def is_ (l : List Int) : List Value := l.map (Value.int .i64)
theorem is_length (l : List Int) : (is_ l).length = l.length := by simp [is_]
theorem Rd.int_at {w : World} {A : Option Addr} {l : List Int} (h : Rd w A (is_ l)) (hp : 0 < l.length) :
 ∃ b o, A = some ⟨b, o, none⟩ ∧ b < w.heap.size ∧ ∀ k (hk : k < l.length), w.cell? ⟨b, o + k, none⟩ = some (.int .i64 l[k]) := by
 obtain ⟨b, o, rfl, hb, hc⟩ := h (by rw [is_length]; exact hp)
 exact ⟨b, o, rfl, hb, fun k hk => hc k _ (by simp [is_, hk])⟩
def RdP (w : World) (A : Option Addr) (ps : List (List Int)) : Prop :=
 0 < ps.length → ∃ b o, A = some ⟨b, o, none⟩ ∧ b < w.heap.size ∧ ∀ k (hk : k < ps.length), ∃ A' c', w.cell? ⟨b, o + k, none⟩ = some (.slice A' (ps[k]).length c') ∧ Rd w A' (is_ ps[k])
theorem RdP.nil (w : World) (A : Option Addr) : RdP w A [] := fun h => absurd h (by simp)
theorem RdP.below {w w' : World} {A : Option Addr} {ps : List (List Int)} (h : RdP w A ps) (hb : Below w.heap.size w w') : RdP w' A ps := fun hp => by
 obtain ⟨b, o, rfl, hlt, hc⟩ := h hp
 refine ⟨b, o, rfl, Nat.lt_of_lt_of_le hlt hb.size, fun k hk => ?_⟩
 obtain ⟨A', c', h1, h2⟩ := hc k hk
 exact ⟨A', c', (hb.cell (p := ⟨b, o + k, none⟩) hlt).trans h1, h2.below hb⟩
theorem RdP.drewN {w : World} {A : Option Addr} {ps : List (List Int)} (h : RdP w A ps) (n : Nat) : RdP (w.drewN n) A ps := h
theorem RdP.alloc {w : World} {A : Option Addr} {ps : List (List Int)} (h : RdP w A ps) (o : Obj) : RdP (w.alloc o) A ps := h.below ((Below.refl _ _).alloc (Nat.le_refl _) o)
section
section
variable {w w' : World} {g : Nat} {t : TypeId} {cs ds : Array Value}
theorem Blk.there (h : Blk w g t cs) : w.there g 0 cs.size := fun j hj => by
 rw [Nat.zero_add]
 exact ⟨by rw [h.cell j]; simp [hj], h.frozen j⟩
theorem Blk.range (h : Blk w g t cs) : w.rangeAt g 0 cs.toList := fun j v hv => by
 rw [Nat.zero_add, h.cell j]
 simpa using hv
theorem setCells_blk {g : Nat} {t : TypeId} : ∀ (vs pre old : List Value) (w : World), old.length = vs.length → Blk w g t (pre ++ old).toArray → Blk (w.setCells g pre.length vs) g t (pre ++ vs).toArray
 | [], pre, old, w, hl, h => by
   rw [List.length_eq_zero_iff.1 hl] at h
   exact h
 | v :: vs, pre, u :: old, w, hl, h => by
   have h1 : Blk (w.setCell ⟨g, pre.length, none⟩ v) g t ((pre ++ [v]) ++ old).toArray := by
    have h2 := h.set pre.length v
    have e : (pre ++ u :: old).toArray.setIfInBounds pre.length v = ((pre ++ [v]) ++ old).toArray := by
     rw [List.setIfInBounds_toArray, List.set_append_right _ _ (Nat.le_refl _), Nat.sub_self, List.set_cons_zero, List.append_assoc]
     rfl
    rwa [e] at h2
   have h3 := setCells_blk vs (pre ++ [v]) old _ (by simpa using hl) h1
   rw [List.length_append, List.append_assoc] at h3
   exact h3
theorem Blk.setAll (h : Blk w g t cs) (hs : ds.size = cs.size) : Blk (w.setCells g 0 ds.toList) g t ds := by
 obtain ⟨l⟩ := cs
 obtain ⟨m⟩ := ds
 have := setCells_blk (g := g) (t := t) m [] l w (by simpa using hs.symm) h
 exact this
theorem Blk.run_set {P : Program} (h : Blk w g t cs) (ds : Array Value) (hs : ds.size = cs.size) (hi : (P.info? t).map (·.size) = some cs.size) (h1 : ds.toList.all (·.oneCell') = true) :
 (Instr.storeAt t (.pointer (some ⟨g, 0, none⟩)) (.agg ds)).run P w = .ok () (w.setCells g 0 ds.toList) :=
 run_storeAt_mid w g 0 t ds (by rw [hs]; exact h.there) (by rw [hi, hs]) (by rw [← Array.all_toList]; exact h1)
end
end
theorem Tryz.intinfo : (Tryz.prog.info? 3).map (fun i => (i.zero, i.size, i.bytes)) = some (some (.int .i64 0), 1, 8) := by kernel_rfl
def Al (o : Option (List Int)) (w : World) (e : Ending) (w' : World) : Prop :=
 match o with
 | some k => ∃ A c, e = .returned (.tuple #[.slice A k.length c, .bool true]) ∧ Rd w' A (is_ k) ∧ Below w.heap.size w w'
 | none => e = .returned (.tuple #[.slice none 0 0, .bool false]) ∧ Below w.heap.size w w'
theorem Al.yes {o : Option (List Int)} {k : List Int} {n : Nat} (h : o = some k) (hn : k.length = n) {w w' : World} {A : Option Addr} {c : Nat} (hr : Rd w' A (is_ k)) (hb : Below w.heap.size w w') : Al o w (.returned (.tuple #[.slice A n c, .bool true])) w' := by
 subst h hn
 exact ⟨A, c, rfl, hr, hb⟩
theorem Al.no {o : Option (List Int)} (h : o = none) {w w' : World} (hb : Below w.heap.size w w') : Al o w (.returned (.tuple #[.slice none 0 0, .bool false])) w' := by
 subst h
 exact ⟨rfl, hb⟩
def AlO (o : Option (List Int)) (w : World) (e : Ending) (w' : World) : Prop :=
 match o with
 | some k => ∃ v, e = .returned (.tuple #[v, .bool true]) ∧ Own w' w.heap.size 3 1 v k.length (is_ k) ∧ Below w.heap.size w w'
 | none => e = .returned (.tuple #[.slice none 0 0, .bool false]) ∧ Below w.heap.size w w'
theorem AlO.yes {o : Option (List Int)} {k : List Int} (h : o = some k) {w w' : World} {v : Value} (hr : Own w' w.heap.size 3 1 v k.length (is_ k)) (hb : Below w.heap.size w w') : AlO o w (.returned (.tuple #[v, .bool true])) w' := by
 subst h
 exact ⟨v, rfl, hr, hb⟩
theorem AlO.no {o : Option (List Int)} (h : o = none) {w w' : World} (hb : Below w.heap.size w w') : AlO o w (.returned (.tuple #[.slice none 0 0, .bool false])) w' := by
 subst h
 exact ⟨rfl, hb⟩
theorem AlO.al {o : Option (List Int)} {w w' : World} {e : Ending} (h : AlO o w e w') : Al o w e w' := by
 cases o with
 | none => exact h
 | some k =>
   obtain ⟨v, rfl, ho, hb⟩ := h
   obtain ⟨A, c, rfl, hr⟩ := ho.form
   exact ⟨A, c, rfl, hr, hb⟩
theorem all_no {p : UInt8 → Bool} {l : List UInt8} {k : Nat} (hk : k < l.length) (h : p l[k] = false) : l.all p = false := by
 rw [List.all_eq_false]
 exact ⟨_, List.getElem_mem hk, by simp [h]⟩
def partB (p : List Int) : Bool := decide (1 ≤ p.length) && decide (p.length ≤ 8) && p.all fun n => decide (-1 ≤ n) && decide (n ≤ 1114111)
theorem parOk_eq (l : List (List Int)) : parOk l = (decide (l.length ≤ 16) && decide (l ≠ [[-1]]) && l.all partB) := rfl
theorem par_long {l : List (List Int)} (h : 16 < l.length) : parOk l = false := by rw [parOk_eq, decide_eq_false (by omega)]; rfl
theorem par_no {l : List (List Int)} {k : Nat} (hk : k < l.length) (h : partB l[k] = false) : parOk l = false := by
 rw [parOk_eq, show l.all partB = false from List.all_eq_false.2 ⟨_, List.getElem_mem hk, by simp [h]⟩, Bool.and_false]
theorem part_len {p : List Int} (h : ¬ (1 ≤ p.length ∧ p.length ≤ 8)) : partB p = false := by
 unfold partB
 by_cases h1 : 1 ≤ p.length
 ·rw [decide_eq_false (p := p.length ≤ 8) (by omega), Bool.and_false, Bool.false_and]
 ·rw [decide_eq_false h1, Bool.false_and, Bool.false_and]
def numOk (n : Int) : Bool := decide (-1 ≤ n) && decide (n ≤ 1114111)
theorem partB_yes {p : List Int} (h1 : 1 ≤ p.length) (h2 : p.length ≤ 8) (h : p.all numOk = true) : partB p = true := by
 unfold partB
 rw [decide_eq_true h1, decide_eq_true h2]
 exact h
theorem parOk_yes {l : List (List Int)} (h : l.length ≤ 16) (h1 : l ≠ [[-1]]) (h2 : l.all partB = true) : parOk l = true := by
 rw [parOk_eq, decide_eq_true h, decide_eq_true h1, h2]; rfl
theorem numOk_iff (n : Int) : numOk n = true ↔ -1 ≤ n ∧ n ≤ 1114111 := by simp [numOk]
end Go.Proofs.YtceipblcdcgljaaGreatDoor
namespace Go.Proofs.YtceipblcdcgljaaGreatDoor
structure Fm where
 letter : List UInt8
 body : Bool
 inter : Bool
 first : UInt8
 en : List UInt8
def formF (k : Int) : Fm :=
 if k = 1 then ⟨[91], true, true, 64, []⟩ else if k = 2 then ⟨[79], false, false, 64, []⟩ else if k = 3 then ⟨[80], true, true, 64, [27, 92]⟩
 else if k = 4 then ⟨[93], false, false, 0, [27, 92]⟩ else if k = 5 then ⟨[], false, true, 48, []⟩ else ⟨[], false, false, 0, []⟩
def rd1 (f : Fm) (r : List UInt8) : UInt8 × List UInt8 := if f.body = true then (oneF 60 63 r, r.drop (runF 60 63 1 r).length) else (0, r)
def rd2 (f : Fm) (r : List UInt8) : List (List Int) × List UInt8 := if f.body = true then paramsF r else ([], r)
def rd3 (f : Fm) (r : List UInt8) : List UInt8 × List UInt8 := if f.inter = true then (runF 32 47 2 r, r.drop (runF 32 47 2 r).length) else ([], r)
def rd4 (f : Fm) (r : List UInt8) : UInt8 × List UInt8 := if f.first = 0 then (0, r) else (oneF f.first.toNat 126 r, r.drop (runF f.first.toNat 126 1 r).length)
def rd5 (f : Fm) (r : List UInt8) : List UInt8 × List UInt8 := if f.en = [] then ([], r) else (runF 32 126 4096 r, r.drop (runF 32 126 4096 r).length)
def readF (k : Int) (r : List UInt8) : Sq × List UInt8 :=
 let f := formF k
 let x1 := rd1 f r
 let x2 := rd2 f x1.2
 let x3 := rd3 f x2.2
 let x4 := rd4 f x3.2
 let x5 := rd5 f x4.2
 (⟨k, x1.1, x2.1, x3.1, x4.1, x5.1⟩, x5.2)
def kindF (b : List UInt8) : Int := if skipB [27, 91] b = true then 1 else if skipB [27, 79] b = true then 2 else if skipB [27, 80] b = true then 3 else if skipB [27, 93] b = true then 4 else if skipB [27] b = true then 5 else 0
def headF (k : Int) : List UInt8 := 27 :: (formF k).letter
def endF (k : Int) (x : Sq × List UInt8) : Option (Sq × List UInt8) := if skipB (formF k).en x.2 = true ∧ mayS x.1 = 0 then some (x.1, x.2.drop (formF k).en.length) else none
def progF (b : List UInt8) : Option (Sq × List UInt8) := if kindF b = 0 then none else endF (kindF b) (readF (kindF b) (b.drop (headF (kindF b)).length))
theorem runF_full (a b : Nat) (t r : List UInt8) (ht : ∀ c ∈ t, btw a b c = true) : runF a b t.length (t ++ r) = t := by
 unfold runF
 rw [List.take_left]
 have := tw_app (btw a b) t [] ht rfl
 rwa [List.append_nil] at this
theorem runF_none (a b m : Nat) (r : List UInt8) (h : r.head?.any (btw a b) = false) : runF a b m r = [] := by
 have := runF_put a b m [] r (fun c hc => by cases hc) (by simp) h
 exact this
theorem runF_end {a b m k : Nat} {r : List UInt8} (hk : k ≤ r.length) (hm : k ≤ m) (ha : (r.take k).all (btw a b) = true) (hs : k = m ∨ k = r.length ∨ ∃ h : k < r.length, btw a b r[k] = false) : runF a b m r = r.take k := by
 have hl : (r.take k).length = k := by rw [List.length_take]; omega
 have ha' : ∀ c ∈ r.take k, btw a b c = true := List.all_eq_true.1 ha
 conv => lhs; rw [← List.take_append_drop k r]
 rcases hs with rfl | rfl | ⟨h, hb⟩
 ·have := runF_full a b (r.take k) (r.drop k) ha'
  rwa [hl] at this
 ·exact runF_put a b m _ _ ha' (by omega) (by simp)
 ·refine runF_put a b m _ _ ha' (by omega) ?_
  rw [List.drop_eq_getElem_cons h]
  exact hb
theorem rd1_put (f : Fm) (pv : UInt8) (r : List UInt8) (hb : f.body = true) (hv : privOk pv = true) (hr : r.head?.any (btw 60 63) = false) : rd1 f (privL pv ++ r) = (pv, r) := by
 unfold rd1
 rw [if_pos hb]
 by_cases h0 : pv = 0
 ·subst h0
  have e := runF_none 60 63 1 r hr
  rw [show privL 0 ++ r = r from rfl]
  unfold oneF
  rw [e]
  rfl
 ·have hb : btw 60 63 pv = true := by
   simp only [privOk, Bool.or_eq_true, decide_eq_true_eq] at hv
   exact hv.resolve_left h0
  have e := runF_full 60 63 [pv] r (fun c hc => by rw [List.mem_singleton] at hc; subst hc; exact hb)
  rw [show privL pv = [pv] from if_neg h0]
  unfold oneF
  rw [show ([pv] : List UInt8).length = 1 from rfl] at e
  rw [e]
  rfl
theorem rd4_put (f : Fm) (x : UInt8) (r : List UInt8) (hf : f.first ≠ 0) (hx : btw f.first.toNat 126 x = true) : rd4 f (x :: r) = (x, r) := by
 unfold rd4
 rw [if_neg hf]
 have e := runF_full f.first.toNat 126 [x] r (fun c hc => by rw [List.mem_singleton] at hc; subst hc; exact hx)
 rw [show ([x] : List UInt8).length = 1 from rfl] at e
 unfold oneF
 rw [show [x] ++ r = x :: r from rfl] at e
 rw [e]
 rfl
theorem rd3_put (f : Fm) (it r : List UInt8) (hb : f.inter = true) (hi : ∀ c ∈ it, btw 32 47 c = true) (hl : it.length ≤ 2) (hr : r.head?.any (btw 32 47) = false) : rd3 f (it ++ r) = (it, r) := by
 unfold rd3
 rw [if_pos hb, runF_put 32 47 2 it r hi hl hr, List.drop_left]
theorem rd5_put (f : Fm) (d r : List UInt8) (hb : f.en ≠ []) (hi : ∀ c ∈ d, btw 32 126 c = true) (hl : d.length ≤ 4096) (hr : r.head?.any (btw 32 126) = false) : rd5 f (d ++ r) = (d, r) := by
 unfold rd5
 rw [if_neg hb, runF_put 32 126 4096 d r hi hl hr, List.drop_left]
theorem head_off (it : List UInt8) (f : UInt8) (m : List UInt8) (n : Nat) (hi : ∀ c ∈ it, btw 32 47 c = true) (hf : btw n 126 f = true) (hn : 48 ≤ n) : (f :: m).head?.any (btw 32 47) = false ∧ (64 ≤ n → offP (it ++ (f :: m)) ∧ ∀ ps, (parL ps ++ (it ++ (f :: m))).head?.any (btw 60 63) = false) := by
 have h2 := (btw_iff _ _ _).1 hf
 refine ⟨?_, fun h64 => ⟨?_, fun ps => ?_⟩⟩
 ·show btw 32 47 f = false
  rw [btw_no]; omega
 ·unfold offP
  cases it with
  | nil => show btw 48 59 f = false; rw [btw_no]; omega
  | cons c it =>
    have := (btw_iff _ _ _).1 (hi c (List.mem_cons_self ..))
    show btw 48 59 c = false; rw [btw_no]; omega
 ·cases hps : parL ps with
  | cons x xs =>
    have := (btw_iff _ _ _).1 (par_btw ps x (by rw [hps]; exact List.mem_cons_self ..))
    show btw 60 63 x = false; rw [btw_no]; omega
  | nil =>
    cases it with
    | nil => show btw 60 63 f = false; rw [btw_no]; omega
    | cons c it =>
      have := (btw_iff _ _ _).1 (hi c (List.mem_cons_self ..))
      show btw 60 63 c = false; rw [btw_no]; omega
theorem prog_put {s : Sq} (h : mayS s = 0) (m : List UInt8) : progF (putS s ++ m) = some (s, m) := by
 obtain ⟨hdl, hv, hp, hil, hi, hd, hl, hb⟩ := ok_parts h
 have hcases : s.kind = 1 ∨ s.kind = 2 ∨ s.kind = 3 ∨ s.kind = 4 ∨ s.kind = 5 := by
  unfold lastOk at hl
  split at hl
  ·omega
  ·split at hl
   ·omega
   ·simp only [Bool.and_eq_true, decide_eq_true_eq] at hl; omega
 have goal : ∀ (k : Int) (r : List UInt8), k ≠ 0 → kindF (putS s ++ m) = k → putS s ++ m = headF k ++ r → readF k r = (s, (formF k).en ++ m) → progF (putS s ++ m) = some (s, m) := by
  intro k r k0 hk e hr
  unfold progF
  rw [hk, if_neg k0, e, List.drop_left, hr]
  unfold endF
  dsimp only
  rw [if_pos ⟨skipB_app _ _, h⟩, List.drop_left]
 obtain ⟨k, pv, ps, it, f, d⟩ := s
 dsimp only at hv hp hi hd hcases hil hdl
 rcases hcases with rfl | rfl | rfl | rfl | rfl
 ·have hf : btw 64 126 f = true := by simpa [lastOk] using hl
  have hd0 : d = [] := by simpa [bareOk] using hb
  subst hd0
  obtain ⟨o1, o2⟩ := head_off it f m 64 hi hf (by omega)
  obtain ⟨o2, o3⟩ := o2 (by omega)
  refine goal 1 (privL pv ++ (parL ps ++ (it ++ (f :: m)))) (by omega) ?_ ?_ ?_
  ·rfl
  ·simp [headF, formF, putS, bodyL]
  ·unfold readF
   dsimp only
   rw [rd1_put _ pv _ rfl hv (o3 ps)]
   dsimp only
   rw [show rd2 (formF 1) (parL ps ++ (it ++ f :: m)) = paramsF (parL ps ++ (it ++ f :: m)) from rfl, paramsF_put ps _ hp o2]
   dsimp only
   rw [rd3_put _ it _ rfl hi hil o1]
   dsimp only
   rw [rd4_put (formF 1) f m (by decide) hf]
   rfl
 ·have h1 : pv = 0 ∧ ps = [] ∧ it = [] ∧ d = [] := by
   simp [bareOk] at hb
   obtain ⟨⟨⟨a, b⟩, c⟩, e⟩ := hb
   exact ⟨a, b, c, e⟩
  obtain ⟨rfl, rfl, rfl, rfl⟩ := h1
  have hf : btw 64 126 f = true := by simpa [lastOk] using hl
  refine goal 2 (f :: m) (by omega) rfl rfl ?_
  unfold readF
  dsimp only
  rw [show rd1 (formF 2) (f :: m) = (0, f :: m) from rfl]
  dsimp only
  rw [show rd2 (formF 2) (f :: m) = ([], f :: m) from rfl]
  dsimp only
  rw [show rd3 (formF 2) (f :: m) = ([], f :: m) from rfl]
  dsimp only
  rw [rd4_put (formF 2) f m (by decide) hf]
  rfl
 ·have hf : btw 64 126 f = true := by simpa [lastOk] using hl
  obtain ⟨o1, o2⟩ := head_off it f (d ++ (27 :: 92 :: m)) 64 hi hf (by omega)
  obtain ⟨o2, o3⟩ := o2 (by omega)
  refine goal 3 (privL pv ++ (parL ps ++ (it ++ (f :: (d ++ (27 :: 92 :: m)))))) (by omega) ?_ ?_ ?_
  ·rfl
  ·simp [headF, formF, putS, bodyL]
  ·unfold readF
   dsimp only
   rw [rd1_put _ pv _ rfl hv (o3 ps)]
   dsimp only
   rw [show rd2 (formF 3) (parL ps ++ (it ++ f :: (d ++ 27 :: 92 :: m))) = paramsF (parL ps ++ (it ++ f :: (d ++ 27 :: 92 :: m))) from rfl, paramsF_put ps _ hp o2]
   dsimp only
   rw [rd3_put _ it _ rfl hi hil o1]
   dsimp only
   rw [rd4_put (formF 3) f _ (by decide) hf]
   dsimp only
   rw [rd5_put (formF 3) d (27 :: 92 :: m) (by decide) hd hdl rfl]
   rfl
 ·have h1 : pv = 0 ∧ ps = [] ∧ it = [] := by
   simp [bareOk] at hb
   exact ⟨hb.1.1, hb.1.2, hb.2⟩
  have hf : f = 0 := by simpa [lastOk] using hl
  obtain ⟨rfl, rfl, rfl⟩ := h1
  subst hf
  refine goal 4 (d ++ (27 :: 92 :: m)) (by omega) ?_ ?_ ?_
  ·rfl
  ·simp [headF, formF, putS]
  ·unfold readF
   dsimp only
   rw [show rd1 (formF 4) (d ++ (27 :: 92 :: m)) = (0, d ++ (27 :: 92 :: m)) from rfl]
   dsimp only
   rw [show rd2 (formF 4) (d ++ (27 :: 92 :: m)) = ([], d ++ (27 :: 92 :: m)) from rfl]
   dsimp only
   rw [show rd3 (formF 4) (d ++ (27 :: 92 :: m)) = ([], d ++ (27 :: 92 :: m)) from rfl]
   dsimp only
   rw [show rd4 (formF 4) (d ++ (27 :: 92 :: m)) = (0, d ++ (27 :: 92 :: m)) from rfl]
   dsimp only
   rw [rd5_put (formF 4) d (27 :: 92 :: m) (by decide) hd hdl rfl]
   rfl
 ·have h1 : pv = 0 ∧ ps = [] ∧ d = [] := by
   simp [bareOk] at hb
   exact ⟨hb.1.1, hb.1.2, hb.2⟩
  obtain ⟨rfl, rfl, rfl⟩ := h1
  have hf : btw 48 126 f = true ∧ (it ≠ [] ∨ ¬ (f = 79 ∨ f = 80 ∨ f = 88 ∨ f = 91 ∨ f = 93 ∨ f = 92 ∨ f = 94 ∨ f = 95)) := by
   simp [lastOk] at hl
   refine ⟨hl.1, ?_⟩
   rcases hl.2 with h | h
   ·exact .inl h
   ·right
    intro hh
    rcases hh with rfl | rfl | rfl | rfl | rfl | rfl | rfl | rfl <;> simp at h
  obtain ⟨o1, _⟩ := head_off it f m 48 hi hf.1 (by omega)
  have hg : ∀ c1 r, it ++ (f :: m) = c1 :: r → c1 ≠ 79 ∧ c1 ≠ 93 ∧ c1 ≠ 91 ∧ c1 ≠ 80 := by
   intro c1 r e
   cases it with
   | cons x xs =>
     obtain rfl : x = c1 := by simpa using congrArg List.head? e
     have := (btw_iff _ _ _).1 (hi x (List.mem_cons_self ..))
     refine ⟨?_, ?_, ?_, ?_⟩ <;> (rintro rfl; simp at this)
   | nil =>
     obtain rfl : f = c1 := by simpa using congrArg List.head? e
     have := hf.2.resolve_left (by simp)
     refine ⟨?_, ?_, ?_, ?_⟩ <;> (intro h; exact this (by simp [h]))
  have e : putS ⟨5, 0, [], it, f, []⟩ ++ m = 27 :: (it ++ (f :: m)) := by simp [putS]
  refine goal 5 (it ++ (f :: m)) (by omega) ?_ ?_ ?_
  ·rw [e]
   cases ht : it ++ (f :: m) with
   | nil => simp at ht
   | cons c1 r =>
     obtain ⟨g1, g2, g3, g4⟩ := hg c1 r ht
     have g : ∀ x : UInt8, c1 ≠ x → skipB [27, x] (27 :: c1 :: r) = false := fun x hx => by simp [skipB, List.isPrefixOf, Ne.symm hx]
     unfold kindF
     rw [g 91 g3, g 79 g1, g 80 g4, g 93 g2]
     rfl
  ·rw [e]; rfl
  ·unfold readF
   dsimp only
   rw [show rd1 (formF 5) (it ++ (f :: m)) = (0, it ++ (f :: m)) from rfl]
   dsimp only
   rw [show rd2 (formF 5) (it ++ (f :: m)) = ([], it ++ (f :: m)) from rfl]
   dsimp only
   rw [rd3_put _ it _ rfl hi hil o1]
   dsimp only
   rw [rd4_put (formF 5) f m (by decide) hf.1]
   rfl
theorem prog_some {b : List UInt8} {s : Sq} {n : Nat} (h : takeS b = some (s, n)) : progF b = some (s, b.drop n) ∧ n ≤ b.length := by
 obtain ⟨h1, h2, h3⟩ := takeS_some h
 refine ⟨?_, ?_⟩
 ·conv => lhs; rw [h3]
  exact prog_put h1 _
 ·have := congrArg List.length h3
  rw [List.length_append] at this
  omega
end Go.Proofs.YtceipblcdcgljaaGreatDoor
