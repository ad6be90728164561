/-
  Layer 2, walked: the document's All. Layer 3's mathematics: the reader that goes through the kinds reads just the sequence with which the bytes begin. Layer 3, walked: the program's small functions: formOf, char, within, isNone.
-/
import Derived.Test.YtdfojkbgdoiglaaGreatDoorG03
import Derived.Test.YtdfojkbgdoiglaaGreatDoorG08
import Derived.Test.YtdfojkbgdoiglaaGreatDoorG10
import Derived.Test.YtdfojkbgdoiglaaGreatDoorG17
namespace Go.Proofs.YtdfojkbgdoiglaaGreatDoor
open Go.RowKit
theorem rtake_tup (A : Option Addr) (n c : Nat) (l : List UInt8) (r : Int) (m : Nat) (w : World) (hn : l.length = n) (h : takeL l = (r, m)) (hl : l.length ≤ 4294967296) (hlc : n ≤ c) (hr : Rd w A (bs l)) :
 Calls Tryz.prog 83 #[.slice A n c] w fun e w' => e = .returned (.tuple #[.int .i64 r, .int .i64 m]) ∧ Below w.heap.size w w' := by
 subst hn
 refine (rtake_any A c l w hl hlc hr).mono ?_
 rintro e w' ⟨rfl, hb⟩
 exact ⟨by unfold Tk; rw [h], hb⟩
theorem all_pre {t : List UInt8} {pre : List Int} {k m : Nat} {r : Int} (h : allL t = (allL (t.drop k)).map (pre ++ ·)) (ht : takeL (t.drop k) = (r, m)) (hm : m ≠ 0) : allL t = (allL (t.drop (k + m))).map ((pre ++ [r]) ++ ·) := by
 rw [h, allL_yes (by rw [ht]; exact hm), ht, List.drop_drop]
 cases allL (t.drop (k + m)) with
 | none => rfl
 | some x => simp
set_option maxRecDepth 100000 in
set_option maxHeartbeats 2000000 in
theorem rall_own (A : Option Addr) (c : Nat) (t : List UInt8) (w : World) (ht : t.length ≤ 4294967296) (htc : t.length ≤ c) (hr : Rd w A (bs t)) :
 Calls Tryz.prog 60 #[.slice A t.length c] w (AlO (allL t) w) := by
 obtain ⟨i0, hi, hz0, hz1, hz2⟩ := info_parts Tryz.intinfo
 go_enter Tryz.func60, Tryz.ntmps60
 go_wp2
 go_loopw [4, 5] (fun v i wr => ∃ (k : Nat) (pre : List Int), k ≤ t.length ∧ i = .int .i64 k ∧ pre.length ≤ k ∧ allL t = (allL (t.drop k)).map (pre ++ ·) ∧ Own wr w.heap.size 3 1 v pre.length (is_ pre) ∧ Below w.heap.size w wr) (fun _ i _ => t.length - (intOf i).toNat)
 case atStart => exact ⟨0, [], Nat.zero_le _, rfl, Nat.le_refl _, by rw [List.drop_zero]; cases allL t <;> rfl, Own.nil_ _ _ _ _, Below.refl _ _⟩
 case round =>
  obtain ⟨k, pre, hk, rfl, hpk, hpre, hown, hbw⟩ := hrel
  have HP := Lib.hid hpre
  clear hpre
  by_cases hlt : k < t.length
  ·have hrw := hr.below hbw
   obtain ⟨b, o, rfl, hb, hcc⟩ := hrw.at_ (by omega)
   have hdr := (RdIn.of hrw).drop k hlt
   clear hcc
   have k0 : (0 : Int) ≤ (k : Int) := by omega
   have k1 : (k : Int) ≤ (t.length : Int) := by omega
   have hlen := Lib.hid (show (t.drop k).length = t.length - k from List.length_drop)
   have hld : (t.drop k).length ≤ 4294967296 := by rw [List.length_drop]; omega
   by_cases hz : (takeL (t.drop k)).2 = 0
   ·have E := Lib.hid (take_zero hz)
    have EN := Lib.hid (show allL t = none by rw [HP.out, allL_no (by rw [List.length_drop]; omega) hz]; rfl)
    clear hz
    go_wp2_with fail
    refine (rtake_tup _ _ _ (t.drop k) 0 0 _ hlen.out E.out hld (by omega) hdr).mono ?_
    rintro e w2 ⟨rfl, hb2⟩
    have hb2 : Below w.heap.size w w2 := hbw.trans (hb2.mono hbw.size)
    go_wp2_with fail
    go_ret2
    exact AlO.no EN.out hb2
   ·have hle := (take_snd_le (t.drop k)).1
    obtain ⟨r, hr1⟩ : ∃ r, (takeL (t.drop k)).1 = r := ⟨_, rfl⟩
    obtain ⟨m, hm1⟩ : ∃ m, (takeL (t.drop k)).2 = m := ⟨_, rfl⟩
    have E := Lib.hid (show takeL (t.drop k) = (r, m) by rw [← hr1, ← hm1])
    rw [hm1, List.length_drop] at hle
    rw [hm1] at hz
    have m1 : ((m : Int) == 0) = false := beq_false_of_ne (by omega)
    have PE := Lib.hid (all_pre HP.out E.out hz)
    clear hr1 hm1
    have h63 : pre.length + 1 ≤ maxLen := by simp only [maxLen]; omega
    have hlim : (pre.length + 1) * 8 ≤ 140737488355328 := by omega
    have one1 : ∀ x : Int, ∀ u ∈ [Value.int .i64 x], u.oneCell' = true := fun x => ints_one [x]
    go_wp2_with fail
    refine (rtake_tup _ _ _ (t.drop k) r m _ hlen.out E.out hld (by omega) hdr).mono ?_
    rintro e w2 ⟨rfl, hb2⟩
    have hown2 := hown.behind hb2
    have hb2 : Below w.heap.size w w2 := hbw.trans (hb2.mono hbw.size)
    have hs2 := hb2.size
    go_wp2_with (at_builtin; refine list_app _ rfl (.tmp 21) (.tmp 23) 69 rfl w.heap.size 3 i0 _ 1 8 Tryz.underlying69 hi hz0 hz1 hz2 rfl Nat.one_pos _ _ _ rfl (hown2.alloc _) (some ⟨w2.heap.size, 0, none⟩) 1 1 _ rfl rfl (rd_lit w2 _ _) (one1 _) h63 hlim (by simp; omega) ?_; intro v4 w4 hown4 hg4)
    have hb4 : Below w.heap.size w w4 := (hb2.alloc hs2 _).grown hg4 (by simp; omega) (fun g hg => (hown2.lt g hg).1)
    have ho : Own w4 w.heap.size 3 1 v4 (pre ++ [r]).length (is_ (pre ++ [r])) := by
     rw [List.length_append, show is_ (pre ++ [r]) = is_ pre ++ [.int .i64 r] by simp [is_]]
     exact hown4
    clear hown4 hg4
    go_wp2
    go_roundw
    case rel => exact ⟨k + m, pre ++ [r], by omega, by go_num, by rw [List.length_append]; show pre.length + 1 ≤ _; omega, PE.out, ho, hb4⟩
    case measure => simp [intOf]; omega
  ·have E := Lib.hid (show allL t = some pre by
    rw [HP.out, List.drop_of_length_le (by omega)]
    show some (pre ++ []) = _
    rw [List.append_nil])
   go_wp2
   go_ret2
   exact AlO.yes E.out hown hbw
theorem rall_any (A : Option Addr) (c : Nat) (t : List UInt8) (w : World) (ht : t.length ≤ 4294967296) (htc : t.length ≤ c) (hr : Rd w A (bs t)) :
 Calls Tryz.prog 60 #[.slice A t.length c] w (Al (allL t) w) :=
 (rall_own A c t w ht htc hr).mono fun _ _ h => h.al
end Go.Proofs.YtdfojkbgdoiglaaGreatDoor
namespace Go.Proofs.YtdfojkbgdoiglaaGreatDoor
structure Fm where
 letter : List UInt8
 body : Bool
 inter : Bool
 first : UInt8
 en : List UInt8
def formF (k : Int) : Fm :=
 if k = 1 then ⟨[91], true, true, 64, []⟩ else if k = 2 then ⟨[79], false, false, 64, []⟩ else if k = 3 then ⟨[80], true, true, 64, [27, 92]⟩
 else if k = 4 then ⟨[93], false, false, 0, [27, 92]⟩ else if k = 5 then ⟨[], false, true, 48, []⟩ else ⟨[], false, false, 0, []⟩
def rd1 (f : Fm) (r : List UInt8) : UInt8 × List UInt8 := if f.body = true then (oneF 60 63 r, r.drop (runF 60 63 1 r).length) else (0, r)
def rd2 (f : Fm) (r : List UInt8) : List (List Int) × List UInt8 := if f.body = true then paramsF r else ([], r)
def rd3 (f : Fm) (r : List UInt8) : List UInt8 × List UInt8 := if f.inter = true then (runF 32 47 2 r, r.drop (runF 32 47 2 r).length) else ([], r)
def rd4 (f : Fm) (r : List UInt8) : UInt8 × List UInt8 := if f.first = 0 then (0, r) else (oneF f.first.toNat 126 r, r.drop (runF f.first.toNat 126 1 r).length)
def rd5 (f : Fm) (r : List UInt8) : List UInt8 × List UInt8 := if f.en = [] then ([], r) else (runF 32 126 4096 r, r.drop (runF 32 126 4096 r).length)
def readF (k : Int) (r : List UInt8) : Sq × List UInt8 :=
 let f := formF k
 let x1 := rd1 f r
 let x2 := rd2 f x1.2
 let x3 := rd3 f x2.2
 let x4 := rd4 f x3.2
 let x5 := rd5 f x4.2
 (⟨k, x1.1, x2.1, x3.1, x4.1, x5.1⟩, x5.2)
def kindF (b : List UInt8) : Int := if skipB [27, 91] b = true then 1 else if skipB [27, 79] b = true then 2 else if skipB [27, 80] b = true then 3 else if skipB [27, 93] b = true then 4 else if skipB [27] b = true then 5 else 0
def headF (k : Int) : List UInt8 := 27 :: (formF k).letter
def endF (k : Int) (x : Sq × List UInt8) : Option (Sq × List UInt8) := if skipB (formF k).en x.2 = true ∧ mayS x.1 = 0 then some (x.1, x.2.drop (formF k).en.length) else none
def progF (b : List UInt8) : Option (Sq × List UInt8) := if kindF b = 0 then none else endF (kindF b) (readF (kindF b) (b.drop (headF (kindF b)).length))
theorem runF_full (a b : Nat) (t r : List UInt8) (ht : ∀ c ∈ t, btw a b c = true) : runF a b t.length (t ++ r) = t := by
 unfold runF
 rw [List.take_left]
 have := tw_app (btw a b) t [] ht rfl
 rwa [List.append_nil] at this
theorem runF_none (a b m : Nat) (r : List UInt8) (h : r.head?.any (btw a b) = false) : runF a b m r = [] := by
 have := runF_put a b m [] r (fun c hc => by cases hc) (by simp) h
 exact this
theorem runF_end {a b m k : Nat} {r : List UInt8} (hk : k ≤ r.length) (hm : k ≤ m) (ha : (r.take k).all (btw a b) = true) (hs : k = m ∨ k = r.length ∨ ∃ h : k < r.length, btw a b r[k] = false) : runF a b m r = r.take k := by
 have hl : (r.take k).length = k := by rw [List.length_take]; omega
 have ha' : ∀ c ∈ r.take k, btw a b c = true := List.all_eq_true.1 ha
 conv => lhs; rw [← List.take_append_drop k r]
 rcases hs with rfl | rfl | ⟨h, hb⟩
 ·have := runF_full a b (r.take k) (r.drop k) ha'
  rwa [hl] at this
 ·exact runF_put a b m _ _ ha' (by omega) (by simp)
 ·refine runF_put a b m _ _ ha' (by omega) ?_
  rw [List.drop_eq_getElem_cons h]
  exact hb
theorem rd1_put (f : Fm) (pv : UInt8) (r : List UInt8) (hb : f.body = true) (hv : privOk pv = true) (hr : r.head?.any (btw 60 63) = false) : rd1 f (privL pv ++ r) = (pv, r) := by
 unfold rd1
 rw [if_pos hb]
 by_cases h0 : pv = 0
 ·subst h0
  have e := runF_none 60 63 1 r hr
  rw [show privL 0 ++ r = r from rfl]
  unfold oneF
  rw [e]
  rfl
 ·have hb : btw 60 63 pv = true := by
   simp only [privOk, Bool.or_eq_true, decide_eq_true_eq] at hv
   exact hv.resolve_left h0
  have e := runF_full 60 63 [pv] r (fun c hc => by rw [List.mem_singleton] at hc; subst hc; exact hb)
  rw [show privL pv = [pv] from if_neg h0]
  unfold oneF
  rw [show ([pv] : List UInt8).length = 1 from rfl] at e
  rw [e]
  rfl
theorem rd4_put (f : Fm) (x : UInt8) (r : List UInt8) (hf : f.first ≠ 0) (hx : btw f.first.toNat 126 x = true) : rd4 f (x :: r) = (x, r) := by
 unfold rd4
 rw [if_neg hf]
 have e := runF_full f.first.toNat 126 [x] r (fun c hc => by rw [List.mem_singleton] at hc; subst hc; exact hx)
 rw [show ([x] : List UInt8).length = 1 from rfl] at e
 unfold oneF
 rw [show [x] ++ r = x :: r from rfl] at e
 rw [e]
 rfl
theorem rd3_put (f : Fm) (it r : List UInt8) (hb : f.inter = true) (hi : ∀ c ∈ it, btw 32 47 c = true) (hl : it.length ≤ 2) (hr : r.head?.any (btw 32 47) = false) : rd3 f (it ++ r) = (it, r) := by
 unfold rd3
 rw [if_pos hb, runF_put 32 47 2 it r hi hl hr, List.drop_left]
theorem rd5_put (f : Fm) (d r : List UInt8) (hb : f.en ≠ []) (hi : ∀ c ∈ d, btw 32 126 c = true) (hl : d.length ≤ 4096) (hr : r.head?.any (btw 32 126) = false) : rd5 f (d ++ r) = (d, r) := by
 unfold rd5
 rw [if_neg hb, runF_put 32 126 4096 d r hi hl hr, List.drop_left]
theorem head_off (it : List UInt8) (f : UInt8) (m : List UInt8) (n : Nat) (hi : ∀ c ∈ it, btw 32 47 c = true) (hf : btw n 126 f = true) (hn : 48 ≤ n) : (f :: m).head?.any (btw 32 47) = false ∧ (64 ≤ n → offP (it ++ (f :: m)) ∧ ∀ ps, (parL ps ++ (it ++ (f :: m))).head?.any (btw 60 63) = false) := by
 have h2 := (btw_iff _ _ _).1 hf
 refine ⟨?_, fun h64 => ⟨?_, fun ps => ?_⟩⟩
 ·show btw 32 47 f = false
  rw [btw_no]; omega
 ·unfold offP
  cases it with
  | nil => show btw 48 59 f = false; rw [btw_no]; omega
  | cons c it =>
    have := (btw_iff _ _ _).1 (hi c (List.mem_cons_self ..))
    show btw 48 59 c = false; rw [btw_no]; omega
 ·cases hps : parL ps with
  | cons x xs =>
    have := (btw_iff _ _ _).1 (par_btw ps x (by rw [hps]; exact List.mem_cons_self ..))
    show btw 60 63 x = false; rw [btw_no]; omega
  | nil =>
    cases it with
    | nil => show btw 60 63 f = false; rw [btw_no]; omega
    | cons c it =>
      have := (btw_iff _ _ _).1 (hi c (List.mem_cons_self ..))
      show btw 60 63 c = false; rw [btw_no]; omega
theorem prog_put {s : Sq} (h : mayS s = 0) (m : List UInt8) : progF (putS s ++ m) = some (s, m) := by
 obtain ⟨hdl, hv, hp, hil, hi, hd, hl, hb⟩ := ok_parts h
 have hcases : s.kind = 1 ∨ s.kind = 2 ∨ s.kind = 3 ∨ s.kind = 4 ∨ s.kind = 5 := by
  unfold lastOk at hl
  split at hl
  ·omega
  ·split at hl
   ·omega
   ·simp only [Bool.and_eq_true, decide_eq_true_eq] at hl; omega
 have goal : ∀ (k : Int) (r : List UInt8), k ≠ 0 → kindF (putS s ++ m) = k → putS s ++ m = headF k ++ r → readF k r = (s, (formF k).en ++ m) → progF (putS s ++ m) = some (s, m) := by
  intro k r k0 hk e hr
  unfold progF
  rw [hk, if_neg k0, e, List.drop_left, hr]
  unfold endF
  dsimp only
  rw [if_pos ⟨skipB_app _ _, h⟩, List.drop_left]
 obtain ⟨k, pv, ps, it, f, d⟩ := s
 dsimp only at hv hp hi hd hcases hil hdl
 rcases hcases with rfl | rfl | rfl | rfl | rfl
 ·have hf : btw 64 126 f = true := by simpa [lastOk] using hl
  have hd0 : d = [] := by simpa [bareOk] using hb
  subst hd0
  obtain ⟨o1, o2⟩ := head_off it f m 64 hi hf (by omega)
  obtain ⟨o2, o3⟩ := o2 (by omega)
  refine goal 1 (privL pv ++ (parL ps ++ (it ++ (f :: m)))) (by omega) ?_ ?_ ?_
  ·rfl
  ·simp [headF, formF, putS, bodyL]
  ·unfold readF
   dsimp only
   rw [rd1_put _ pv _ rfl hv (o3 ps)]
   dsimp only
   rw [show rd2 (formF 1) (parL ps ++ (it ++ f :: m)) = paramsF (parL ps ++ (it ++ f :: m)) from rfl, paramsF_put ps _ hp o2]
   dsimp only
   rw [rd3_put _ it _ rfl hi hil o1]
   dsimp only
   rw [rd4_put (formF 1) f m (by decide) hf]
   rfl
 ·have h1 : pv = 0 ∧ ps = [] ∧ it = [] ∧ d = [] := by
   simp [bareOk] at hb
   obtain ⟨⟨⟨a, b⟩, c⟩, e⟩ := hb
   exact ⟨a, b, c, e⟩
  obtain ⟨rfl, rfl, rfl, rfl⟩ := h1
  have hf : btw 64 126 f = true := by simpa [lastOk] using hl
  refine goal 2 (f :: m) (by omega) rfl rfl ?_
  unfold readF
  dsimp only
  rw [show rd1 (formF 2) (f :: m) = (0, f :: m) from rfl]
  dsimp only
  rw [show rd2 (formF 2) (f :: m) = ([], f :: m) from rfl]
  dsimp only
  rw [show rd3 (formF 2) (f :: m) = ([], f :: m) from rfl]
  dsimp only
  rw [rd4_put (formF 2) f m (by decide) hf]
  rfl
 ·have hf : btw 64 126 f = true := by simpa [lastOk] using hl
  obtain ⟨o1, o2⟩ := head_off it f (d ++ (27 :: 92 :: m)) 64 hi hf (by omega)
  obtain ⟨o2, o3⟩ := o2 (by omega)
  refine goal 3 (privL pv ++ (parL ps ++ (it ++ (f :: (d ++ (27 :: 92 :: m)))))) (by omega) ?_ ?_ ?_
  ·rfl
  ·simp [headF, formF, putS, bodyL]
  ·unfold readF
   dsimp only
   rw [rd1_put _ pv _ rfl hv (o3 ps)]
   dsimp only
   rw [show rd2 (formF 3) (parL ps ++ (it ++ f :: (d ++ 27 :: 92 :: m))) = paramsF (parL ps ++ (it ++ f :: (d ++ 27 :: 92 :: m))) from rfl, paramsF_put ps _ hp o2]
   dsimp only
   rw [rd3_put _ it _ rfl hi hil o1]
   dsimp only
   rw [rd4_put (formF 3) f _ (by decide) hf]
   dsimp only
   rw [rd5_put (formF 3) d (27 :: 92 :: m) (by decide) hd hdl rfl]
   rfl
 ·have h1 : pv = 0 ∧ ps = [] ∧ it = [] := by
   simp [bareOk] at hb
   exact ⟨hb.1.1, hb.1.2, hb.2⟩
  have hf : f = 0 := by simpa [lastOk] using hl
  obtain ⟨rfl, rfl, rfl⟩ := h1
  subst hf
  refine goal 4 (d ++ (27 :: 92 :: m)) (by omega) ?_ ?_ ?_
  ·rfl
  ·simp [headF, formF, putS]
  ·unfold readF
   dsimp only
   rw [show rd1 (formF 4) (d ++ (27 :: 92 :: m)) = (0, d ++ (27 :: 92 :: m)) from rfl]
   dsimp only
   rw [show rd2 (formF 4) (d ++ (27 :: 92 :: m)) = ([], d ++ (27 :: 92 :: m)) from rfl]
   dsimp only
   rw [show rd3 (formF 4) (d ++ (27 :: 92 :: m)) = ([], d ++ (27 :: 92 :: m)) from rfl]
   dsimp only
   rw [show rd4 (formF 4) (d ++ (27 :: 92 :: m)) = (0, d ++ (27 :: 92 :: m)) from rfl]
   dsimp only
   rw [rd5_put (formF 4) d (27 :: 92 :: m) (by decide) hd hdl rfl]
   rfl
 ·have h1 : pv = 0 ∧ ps = [] ∧ d = [] := by
   simp [bareOk] at hb
   exact ⟨hb.1.1, hb.1.2, hb.2⟩
  obtain ⟨rfl, rfl, rfl⟩ := h1
  have hf : btw 48 126 f = true ∧ (it ≠ [] ∨ ¬ (f = 79 ∨ f = 80 ∨ f = 88 ∨ f = 91 ∨ f = 93 ∨ f = 92 ∨ f = 94 ∨ f = 95)) := by
   simp [lastOk] at hl
   refine ⟨hl.1, ?_⟩
   rcases hl.2 with h | h
   ·exact .inl h
   ·right
    intro hh
    rcases hh with rfl | rfl | rfl | rfl | rfl | rfl | rfl | rfl <;> simp at h
  obtain ⟨o1, _⟩ := head_off it f m 48 hi hf.1 (by omega)
  have hg : ∀ c1 r, it ++ (f :: m) = c1 :: r → c1 ≠ 79 ∧ c1 ≠ 93 ∧ c1 ≠ 91 ∧ c1 ≠ 80 := by
   intro c1 r e
   cases it with
   | cons x xs =>
     obtain rfl : x = c1 := by simpa using congrArg List.head? e
     have := (btw_iff _ _ _).1 (hi x (List.mem_cons_self ..))
     refine ⟨?_, ?_, ?_, ?_⟩ <;> (rintro rfl; simp at this)
   | nil =>
     obtain rfl : f = c1 := by simpa using congrArg List.head? e
     have := hf.2.resolve_left (by simp)
     refine ⟨?_, ?_, ?_, ?_⟩ <;> (intro h; exact this (by simp [h]))
  have e : putS ⟨5, 0, [], it, f, []⟩ ++ m = 27 :: (it ++ (f :: m)) := by simp [putS]
  refine goal 5 (it ++ (f :: m)) (by omega) ?_ ?_ ?_
  ·rw [e]
   cases ht : it ++ (f :: m) with
   | nil => simp at ht
   | cons c1 r =>
     obtain ⟨g1, g2, g3, g4⟩ := hg c1 r ht
     have g : ∀ x : UInt8, c1 ≠ x → skipB [27, x] (27 :: c1 :: r) = false := fun x hx => by simp [skipB, List.isPrefixOf, Ne.symm hx]
     unfold kindF
     rw [g 91 g3, g 79 g1, g 80 g4, g 93 g2]
     rfl
  ·rw [e]; rfl
  ·unfold readF
   dsimp only
   rw [show rd1 (formF 5) (it ++ (f :: m)) = (0, it ++ (f :: m)) from rfl]
   dsimp only
   rw [show rd2 (formF 5) (it ++ (f :: m)) = ([], it ++ (f :: m)) from rfl]
   dsimp only
   rw [rd3_put _ it _ rfl hi hil o1]
   dsimp only
   rw [rd4_put (formF 5) f m (by decide) hf.1]
   rfl
theorem prog_some {b : List UInt8} {s : Sq} {n : Nat} (h : takeS b = some (s, n)) : progF b = some (s, b.drop n) ∧ n ≤ b.length := by
 obtain ⟨h1, h2, h3⟩ := takeS_some h
 refine ⟨?_, ?_⟩
 ·conv => lhs; rw [h3]
  exact prog_put h1 _
 ·have := congrArg List.length h3
  rw [List.length_append] at this
  omega
end Go.Proofs.YtdfojkbgdoiglaaGreatDoor
namespace Go.Proofs.YtdfojkbgdoiglaaGreatDoor
open Go.RowKit
def fmV (f : Fm) : Value := .agg #[.string ⟨f.letter.toArray⟩, .bool f.body, .bool f.inter, .int .u8 (f.first.toNat : Int), .string ⟨f.en.toArray⟩]
def kindB (k : Int) : Bool := decide (k = 1 ∨ k = 2 ∨ k = 3 ∨ k = 4 ∨ k = 5)
theorem fm_0 {k : Int} (h1 : k ≠ 1) (h2 : k ≠ 2) (h3 : k ≠ 3) (h4 : k ≠ 4) (h5 : k ≠ 5) : formF k = ⟨[], false, false, 0, []⟩ := by
 unfold formF; rw [if_neg h1, if_neg h2, if_neg h3, if_neg h4, if_neg h5]
set_option maxRecDepth 100000 in
set_option maxHeartbeats 2000000 in
theorem formOf_any (k : Int) (w : World) :
 Calls Tryz.prog 31 #[.int .i64 k] w fun e w' => e = .returned (.tuple #[fmV (formF k), .bool (kindB k)]) ∧ Below w.heap.size w w' := by
 by_cases h1 : k = 1
 ·subst h1
  go_enter Tryz.func31, Tryz.ntmps31
  go_wp2
  exact bodyPost_ret (v := .tuple #[fmV (formF 1), .bool (kindB 1)]) (by simp [results, Tryz.results31, go_sem, fmV, formF, kindB]) rfl ⟨rfl, (Below.refl _ _).alloc (Nat.le_refl _) _⟩
 ·by_cases h2 : k = 2
  ·subst h2
   go_enter Tryz.func31, Tryz.ntmps31
   go_wp2
   exact bodyPost_ret (v := .tuple #[fmV (formF 2), .bool (kindB 2)]) (by simp [results, Tryz.results31, go_sem, fmV, formF, kindB]) rfl ⟨rfl, (Below.refl _ _).alloc (Nat.le_refl _) _⟩
  ·by_cases h3 : k = 3
   ·subst h3
    go_enter Tryz.func31, Tryz.ntmps31
    go_wp2
    exact bodyPost_ret (v := .tuple #[fmV (formF 3), .bool (kindB 3)]) (by simp [results, Tryz.results31, go_sem, fmV, formF, kindB]) rfl ⟨rfl, (Below.refl _ _).alloc (Nat.le_refl _) _⟩
   ·by_cases h4 : k = 4
    ·subst h4
     go_enter Tryz.func31, Tryz.ntmps31
     go_wp2
     exact bodyPost_ret (v := .tuple #[fmV (formF 4), .bool (kindB 4)]) (by simp [results, Tryz.results31, go_sem, fmV, formF, kindB]) rfl ⟨rfl, (Below.refl _ _).alloc (Nat.le_refl _) _⟩
    ·by_cases h5 : k = 5
     ·subst h5
      go_enter Tryz.func31, Tryz.ntmps31
      go_wp2
      exact bodyPost_ret (v := .tuple #[fmV (formF 5), .bool (kindB 5)]) (by simp [results, Tryz.results31, go_sem, fmV, formF, kindB]) rfl ⟨rfl, (Below.refl _ _).alloc (Nat.le_refl _) _⟩
     ·have E := Lib.hid (fm_0 h1 h2 h3 h4 h5)
      have EB := Lib.hid (show kindB k = false by unfold kindB; exact decide_eq_false (by omega))
      have t1 : (k == 1) = false := beq_false_of_ne h1
      have t2 : (k == 2) = false := beq_false_of_ne h2
      have t3 : (k == 3) = false := beq_false_of_ne h3
      have t4 : (k == 4) = false := beq_false_of_ne h4
      have t5 : (k == 5) = false := beq_false_of_ne h5
      clear h1 h2 h3 h4 h5
      go_enter Tryz.func31, Tryz.ntmps31
      go_wp2
      rw [E.out, EB.out]
      exact bodyPost_ret (v := .tuple #[fmV ⟨[], false, false, 0, []⟩, .bool false]) (by simp [results, Tryz.results31, go_sem, fmV]) rfl ⟨rfl, (Below.refl _ _).alloc (Nat.le_refl _) _⟩
theorem char_str (c : UInt8) (h : c.toNat < 128) : Utf8.encode (c.toNat : Int) = ⟨[c].toArray⟩ := by
 have v : Utf8.valid (c.toNat : Int) = true := by simp [Utf8.valid]; omega
 simp [Utf8.encode, v, h]
set_option maxRecDepth 100000 in
set_option maxHeartbeats 2000000 in
theorem pwithin_str (s : ByteArray) (a b : Nat) (q : Bool) (w : World) (hl : s.size ≤ 4294967296) (hq : s.data.toList.all (btw a b) = q) :
 Calls Tryz.prog 68 #[.string s, .int .u8 a, .int .u8 b] w fun e w' => e = .returned (.bool q) ∧ w = w' := by
 have HQ := Lib.hid hq
 clear hq
 go_enter Tryz.func68, Tryz.ntmps68
 go_wp2
 go_loop [10] (fun i => ∃ k : Nat, k ≤ s.size ∧ i = .int .i64 k ∧ (s.data.toList.take k).all (btw a b) = true) (fun i => s.size - (intOf i).toNat)
 case atStart => exact ⟨0, Nat.zero_le _, rfl, rfl⟩
 case round =>
  obtain ⟨k, hk, rfl, hall⟩ := hrel
  have HA := Lib.hid hall
  clear hall
  by_cases hlt : k < s.size
  ·have hlt2 : k < s.data.toList.length := by simpa using hlt
   have hby := byte_at s k hlt
   have HB := Lib.hid hby
   have hd := (s[k]'hlt).toNat_lt
   have k0 : (0 : Int) ≤ (k : Int) := by omega
   have k1 : (k : Int) < (s.size : Int) := by omega
   clear hby
   by_cases h1 : (s[k]'hlt).toNat < a
   ·have E := Lib.hid (HQ.out.symm.trans (all_no (p := btw a b) hlt2 ((btw_no a b _).2 (by rw [← HB.out]; omega))))
    go_wp2
    go_ret
    exact ⟨ret_b E.out.symm, rfl⟩
   ·by_cases h2 : b < (s[k]'hlt).toNat
    ·have E := Lib.hid (HQ.out.symm.trans (all_no (p := btw a b) hlt2 ((btw_no a b _).2 (by rw [← HB.out]; omega))))
     go_wp2
     go_ret
     exact ⟨ret_b E.out.symm, rfl⟩
    ·have E := Lib.hid (show (s.data.toList.take (k + 1)).all (btw a b) = true by rw [List.take_succ_eq_append_getElem hlt2, List.all_append, HA.out, ← HB.out]; simp [(btw_iff a b _).2 ⟨Nat.le_of_not_lt h1, Nat.le_of_not_lt h2⟩])
     go_wp2
     go_round
     case rel => exact ⟨k + 1, by omega, by go_num, E.out⟩
     case measure => simp [intOf]; omega
  ·have E := Lib.hid (show q = true by have := HA.out; rw [List.take_of_length_le (by simp; omega)] at this; exact HQ.out.symm.trans this)
   go_wp2
   go_ret
   exact ⟨ret_b E.out.symm, rfl⟩
theorem pwithin_any (l : List UInt8) (a b : Nat) (q : Bool) (w : World) (hl : l.length ≤ 4294967296) (hq : l.all (btw a b) = q) :
 Calls Tryz.prog 68 #[.string ⟨l.toArray⟩, .int .u8 a, .int .u8 b] w fun e w' => e = .returned (.bool q) ∧ w = w' := by
 exact pwithin_str ⟨l.toArray⟩ a b q w hl hq
end Go.Proofs.YtdfojkbgdoiglaaGreatDoor
