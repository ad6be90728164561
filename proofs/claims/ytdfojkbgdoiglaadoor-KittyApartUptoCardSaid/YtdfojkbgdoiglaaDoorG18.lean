/-
  Layer 13: words for what its calls leave. Layer 2, walked: the code points that a function tells, one after the other, for every loop that ranges over it. Layer 2: what the callers of the iterator share. Layer 3, walked: the program's char (in a text of its own: a dump that doesn't call it can load the others). Layer 2, walked: the document's comparison of two lists of numbers.
-/
import Derived.Test.YtdfojkbgdoiglaaDoorG07
import Derived.Test.YtdfojkbgdoiglaaDoorG10
import Derived.Test.YtdfojkbgdoiglaaDoorG13
import Derived.Test.YtdfojkbgdoiglaaDoorG14
import Derived.Test.YtdfojkbgdoiglaaDoorG17
import Derived.RangeFuncNested
import Derived.RangeFuncBound
import Derived.RangeFuncCalls
import Derived.RangeFuncLeaves
import Derived.RangeFuncBox
import Derived.Shelf.Abstract
import Derived.Shelf.RegionOpen
import Derived.WalkKit
import Derived.OwnWalkIn
import Derived.TacticsInMore
import Derived.LoopNIn
import Derived.LoopIn
import Derived.Maps.AppendAt
import Derived.Deep.QuietTactic
import Derived.BigQuiet
namespace Go.Proofs.YtdfojkbgdoiglaaDoor
open Go.RowKit
def frmV (x : Int × Int) : Value := .tuple #[.int .i64 x.1, .int .u8 x.2]
def OutN (L : List UInt8) (n : Nat) (w : World) (e : Ending) (w' : World) : Prop := ∃ A c, e = .returned (.slice A n c) ∧ Rd w' A (bs L) ∧ Below w.heap.size w w'
theorem outN {L : List UInt8} {n : Nat} (hn : L.length = n) {w w' : World} {e : Ending} (h : Out L w e w') : OutN L n w e w' := by subst hn; exact h
theorem str_bs13 {w : World} {A : Option Addr} {L : List UInt8} {n c : Nat} (hn : L.length = n) (h : Rd w A (bs L)) : (convert 26 9 (.slice A n c)).run Tryd.prog w = .ok (.string ⟨L.toArray⟩) w :=
 conv_str (P := Tryd.prog) Tryd.underlying26 Tryd.underlying5 hn h _ Tryd.underlying9
end Go.Proofs.YtdfojkbgdoiglaaDoor
namespace Go.Proofs.YtdfojkbgdoiglaaDoor
open Go.RowKit Go.Shelf
attribute [local go_sem] Oper.semAt_some
theorem Siz.low {n₁ : Nat} {w w' : World} (h : Siz w) (h0 : 1 < n₁) (hb : Below n₁ w w') : Siz w' := by
 obtain ⟨t, fz, hh⟩ := h
 exact ⟨t, fz, (hb.block _ h0).trans hh⟩
def Kp2 (n₁ B : Nat) (w w' : World) : Prop := Below n₁ w w' ∧ w'.heap[B]? = w.heap[B]?
theorem take_tup (A : Option Addr) (n c : Nat) (l : List UInt8) (r : Int) (m : Nat) (w : World) (hn : l.length = n) (h : takeL l = (r, m)) (hs : Siz w) (hl : l.length ≤ 4294967296) (hlc : n ≤ c) (hr : Rd w A (bs l)) :
 Calls Tryd.prog 66 #[.slice A n c] w fun e w' => e = .returned (.tuple #[.int .i64 r, .int .i64 m]) ∧ Below w.heap.size w w' := by
 subst hn
 refine (take_any A c l w hs hl hlc hr).mono ?_
 rintro e w' ⟨rfl, hb⟩
 exact ⟨by unfold Tk; rw [h], hb⟩
theorem below_grown0 {w w' : World} (h : Below w.heap.size w w') : w.grownBy w' none := ⟨h.os, h.tape, h.output, h.size, fun k hk _ => h.block k hk⟩
set_option maxRecDepth 100000 in
set_option maxHeartbeats 2000000 in
theorem points_any (A : Option Addr) (n c : Nat) (w : World) : Calls Tryd.prog 57 #[.slice A n c] w fun e w' => e = .returned (.func (.func 65) #[] #[.pointer (some ⟨w.heap.size, 0, none⟩)]) ∧ w' = w.alloc (.cells #[.slice A n c] 26) := by
 go_enter Tryd.func57, Tryd.ntmps57
 go_wp2
 go_ret
 exact ⟨rfl, rfl⟩
set_option maxRecDepth 100000 in
set_option maxHeartbeats 2000000 in
theorem pts1_in (n : Nat) (hn : 1 ≤ n) (l Bs n₁ B0 c : Nat) (A : Option Addr) (t : List UInt8) (ht : t.length ≤ 4294967296) (htc : t.length ≤ c) (hg0 : 1 < n₁) (J Jx : List (Int × Bool) → World → Prop) (hJ : AbidesFrom B0 J)
 (hY : ∀ pre x W, J pre W → pre.length < (ptsL t).length → YieldAt Fence.wide (n - 1) Tryd.prog l #[.int .i64 x.1, .bool x.2] W fun e W' =>
   (e = .returned (.bool true) ∧ J (pre ++ [x]) W' ∧ Kp2 n₁ Bs W W') ∨ (e = .returned (.bool false) ∧ Jx (pre ++ [x]) W'))
 (W : World) (hbox : Blk W Bs 26 #[.slice A t.length c]) (hs : Siz W) (hr : RdIn n₁ W A (bs t)) (hn₁ : n₁ ≤ W.heap.size) (h0 : J [] W) :
 CallsIn Fence.wide n Tryd.prog 65 #[.func (.yield l) #[] #[], .pointer (some ⟨Bs, 0, none⟩)] W fun e W' => (∃ v, e = .returned v) ∧
  ((∃ ys, ys = ptsL t ∧ J ys W') ∨ (∃ pre, pre <+: ptsL t ∧ Jx pre W')) := by
 refine callsIn_of_wp Tryd.func65 rfl trivial ?_ rfl
 simp only [Tryd.ntmps65, List.size_toArray, List.length_cons, List.length_nil, Nat.reduceAdd, Nat.reduceSub, Array.replicate_succ, Array.replicate_zero, List.push_toArray, List.append_toArray, List.nil_append, List.cons_append]
 gi_wp2
 gi_loopw [3] (fun i wr => ∃ (k : Nat) (pre : List (Int × Bool)), k ≤ t.length ∧ i = .int .i64 k ∧ pre ++ ptsL (t.drop k) = ptsL t ∧ J pre wr ∧ Blk wr Bs 26 #[.slice A t.length c] ∧ Siz wr ∧ RdIn n₁ wr A (bs t) ∧ n₁ ≤ wr.heap.size) (fun i _ => t.length - (intOf i).toNat)
 case atStart => exact ⟨0, [], Nat.zero_le _, rfl, rfl, h0, hbox, hs, hr, hn₁⟩
 case round =>
  obtain ⟨k, pre, hk, rfl, hpre, hJs, hbx, hsz, hrd, hnw⟩ := hrel
  have HP := Lib.hid hpre
  clear hpre
  have hcb := hbx.cell 0
  by_cases hlt : k < t.length
  ·obtain ⟨b, o, rfl, hb, hcc⟩ := hrd (by rw [bs_length]; omega)
   have hdr := hrd.drop k hlt
   clear hcc
   have k0 : (0 : Int) ≤ (k : Int) := by omega
   have k1 : (k : Int) ≤ (t.length : Int) := by omega
   have hlen := Lib.hid (show (t.drop k).length = t.length - k from List.length_drop)
   have hld : (t.drop k).length ≤ 4294967296 := by rw [List.length_drop]; omega
   by_cases hz : (takeL (t.drop k)).2 = 0
   ·have E := Lib.hid (take_zero hz)
    have PN := Lib.hid (show ptsL (t.drop k) = [(0, false)] from ptsL_no (by rw [List.length_drop]; omega) hz)
    have hlt2 : pre.length < (ptsL t).length := by rw [← HP.out, PN.out]; simp
    have PE := Lib.hid (show pre ++ [(0, false)] = ptsL t by rw [← HP.out, PN.out])
    clear hz
    gi_wp2_with fail
    refine ⟨trivial, ?_⟩
    gi_at_call 66
    refine (callsIn_wide.2 (take_tup _ _ _ (t.drop k) 0 0 _ hlen.out E.out hsz hld (by omega) hdr)).mono ?_
    rintro e w2 ⟨rfl, hb2⟩
    have hJ2 : J pre w2 := hJ _ _ _ none hJs (below_grown0 hb2) (fun r e => by cases e)
    clear hb2
    obtain ⟨fn, tmps, assign, body, hy, hR⟩ := hY pre (0, false) w2 hJ2 hlt2
    dsimp only at hy
    gi_wp2
    refine hR.mono ?_
    rintro e W3 (⟨rfl, hJ3, hk3⟩ | ⟨rfl, hJx3⟩)
    ·gi_wp2
     refine bodyPost_ret (results_none rfl _ _ _) rfl ?_
     exact ⟨⟨_, rfl⟩, .inl ⟨_, PE.out, hJ3⟩⟩
    ·gi_wp2
     refine bodyPost_ret (results_none rfl _ _ _) rfl ?_
     exact ⟨⟨_, rfl⟩, .inr ⟨_, ⟨[], by rw [List.append_nil]; exact PE.out⟩, hJx3⟩⟩
   ·have PY := Lib.hid (ptsL_yes hz)
    have hle := (take_snd_le (t.drop k)).1
    obtain ⟨r, hr1⟩ : ∃ r, (takeL (t.drop k)).1 = r := ⟨_, rfl⟩
    obtain ⟨m, hm1⟩ : ∃ m, (takeL (t.drop k)).2 = m := ⟨_, rfl⟩
    have E := Lib.hid (show takeL (t.drop k) = (r, m) by rw [← hr1, ← hm1])
    rw [hm1, List.length_drop] at hle
    rw [hm1] at hz
    have m0 : (0 : Int) < (m : Int) := by omega
    have m2 : 0 < m := by omega
    have m3 : decide (0 < m) = true := decide_eq_true m2
    have m4 : decide ((0 : Int) < (m : Int)) = true := decide_eq_true m0
    have m1 : ((m : Int) == 0) = false := beq_false_of_ne (by omega)
    have PD := Lib.hid (show ptsL (t.drop k) = (r, true) :: ptsL (t.drop (k + m)) by rw [PY.out, hr1, hm1, List.drop_drop])
    have hlt2 : pre.length < (ptsL t).length := by rw [← HP.out, PD.out]; simp
    have PE := Lib.hid (show (pre ++ [(r, true)]) ++ ptsL (t.drop (k + m)) = ptsL t by rw [← HP.out, PD.out]; simp)
    clear hr1 hm1 PY
    gi_wp2_with fail
    refine ⟨trivial, ?_⟩
    gi_at_call 66
    refine (callsIn_wide.2 (take_tup _ _ _ (t.drop k) r m _ hlen.out E.out hsz hld (by omega) hdr)).mono ?_
    rintro e w2 ⟨rfl, hb2⟩
    have hJ2 : J pre w2 := hJ _ _ _ none hJs (below_grown0 hb2) (fun r e => by cases e)
    have hbx2 := hbx.below hb2 hbx.lt
    have hsz2 := hsz.below' hb2
    have hrd2 := hrd.below (hb2.mono hnw)
    have hnw2 := Nat.le_trans hnw hb2.size
    clear hb2
    obtain ⟨fn, tmps, assign, body, hy, hR⟩ := hY pre (r, true) w2 hJ2 hlt2
    dsimp only at hy
    gi_wp2
    refine hR.mono ?_
    rintro e W3 (⟨rfl, hJ3, hk3⟩ | ⟨rfl, hJx3⟩)
    ·gi_wp2
     go_roundw
     case rel => exact ⟨k + m, _, by omega, by go_num, PE.out, hJ3, hk3.2.trans hbx2, hsz2.low hg0 hk3.1, hrd2.below hk3.1, Nat.le_trans hnw2 hk3.1.size⟩
     case measure => simp [intOf]; omega
    ·gi_wp2
     refine bodyPost_ret (results_none rfl _ _ _) rfl ?_
     exact ⟨⟨_, rfl⟩, .inr ⟨_, ⟨_, PE.out⟩, hJx3⟩⟩
  ·have hke : k = t.length := by omega
   have PE := Lib.hid (show pre = ptsL t by
    have h1 := HP.out
    rw [hke, List.drop_length] at h1
    rw [← h1]; show pre = pre ++ []; simp)
   clear hke
   gi_wp2
   go_end0
   exact ⟨⟨_, rfl⟩, .inl ⟨_, PE.out, hJs⟩⟩
end Go.Proofs.YtdfojkbgdoiglaaDoor
namespace Go.Proofs.YtdfojkbgdoiglaaDoor
open Go.RowKit Go.Shelf
attribute [local go_sem] Oper.semAt_some
theorem kp2_t {n₁ B : Nat} {X Y Z : World} (h : Kp2 n₁ B X Y) (k : Kp2 n₁ B Y Z) : Kp2 n₁ B X Z := ⟨h.1.trans k.1, k.2.trans h.2⟩
theorem kp2_b {n₁ B : Nat} {w : World} (hn : n₁ ≤ w.heap.size) (hB : B < w.heap.size) (W : World) (l : Nat) (o o' : Obj) (hl : w.heap.size ≤ l) (h : W.heap[l]? = some o) (hc : o.isCells = false) (hw : o.isWalk = false) : Kp2 n₁ B W (W.putObj l o') :=
 ⟨belowK_b hn W l o o' hl h hc hw, World.putObj_heap_other (by omega)⟩
theorem pts_stops (n : Nat) (hn : 1 ≤ n) (Bs n₁ c : Nat) (A : Option Addr) (t : List UInt8) (ht : t.length ≤ 4294967296) (htc : t.length ≤ c) (hg0 : 1 < n₁) (w : World) (hn₁ : n₁ ≤ w.heap.size)
 (hbox : Blk w Bs 26 #[.slice A t.length c]) (hs : Siz w) (hr : RdIn n₁ w A (bs t)) :
 SeqStopsK Fence.wide n Tryd.prog 65 #[.pointer (some ⟨Bs, 0, none⟩)] (fun x : Int × Bool => #[.int .i64 x.1, .bool x.2]) (Kp2 n₁ Bs) (fun ys => ys = ptsL t) (fun pre => pre <+: ptsL t) (ptsL t).length w := fun l J Jx W hW hJ _ hY h0 =>
 pts1_in n hn l Bs n₁ W.heap.size c A t ht htc hg0 J Jx hJ hY W (hbox.below hW hbox.lt) (hs.below' hW) (hr.below (hW.mono hn₁)) (Nat.le_trans hn₁ hW.size) h0
theorem all_false {p q : List (Int × Bool)} (h : p <+: q) {y : Int × Bool} (hy : y ∈ p) (h2 : y.2 = false) : q.all (·.2) = false := by
 rw [List.all_eq_false]
 exact ⟨y, h.subset hy, by simp [h2]⟩
theorem allL_none {t : List UInt8} (h : (ptsL t).all (·.2) = false) : allL t = none := by unfold allL allOf; rw [h]; rfl
theorem allL_some {t : List UInt8} (h : ∀ y ∈ ptsL t, y.2 = true) : allL t = some ((ptsL t).map (·.1)) := by
 unfold allL allOf
 rw [if_pos (List.all_eq_true.2 h)]
end Go.Proofs.YtdfojkbgdoiglaaDoor
namespace Go.Proofs.YtdfojkbgdoiglaaDoor
open Go.RowKit
set_option maxRecDepth 100000 in
set_option maxHeartbeats 2000000 in
theorem char_any (c : UInt8) (w : World) (h : c.toNat < 128) :
 Calls Tryd.prog 63 #[.int .u8 (c.toNat : Int)] w fun e w' => e = .returned (.string ⟨(privL c).toArray⟩) ∧ w = w' := by
 by_cases h0 : c = 0
 ·subst h0
  go_enter Tryd.func63, Tryd.ntmps63
  go_wp2
  go_ret
  exact ⟨rfl, rfl⟩
 ·have E := Lib.hid (show privL c = [c] from if_neg h0)
  have n0 : c.toNat ≠ 0 := fun e => h0 (UInt8.toNat_inj.1 e)
  have t0 : ((c.toNat : Int) == 0) = false := beq_false_of_ne (by omega)
  clear h0 n0
  go_enter Tryd.func63, Tryd.ntmps63
  go_wp2
  go_ret
  exact ⟨by rw [E.out, ← char_str c h]; rfl, rfl⟩
end Go.Proofs.YtdfojkbgdoiglaaDoor
namespace Go.Proofs.YtdfojkbgdoiglaaDoor
open Go.RowKit
set_option maxRecDepth 100000 in
set_option maxHeartbeats 4000000 in
theorem ints_any (A B : Option Addr) (c d : Nat) (a b : List Int) (w : World) (hl : a.length ≤ 4294967296) (hl2 : b.length ≤ 4294967296) (hra : Rd w A (is_ a)) (hrb : Rd w B (is_ b)) :
 Calls Tryd.prog 22 #[.slice A a.length c, .slice B b.length d] w fun e w' => e = .returned (.bool (decide (a = b))) ∧ Below w.heap.size w w' := by
 by_cases hlen : a.length = b.length
 ·go_enter Tryd.func22, Tryd.ntmps22
  go_wp2
  go_loopw [5] (fun i wr => ∃ k : Nat, k ≤ a.length ∧ i = .int .i64 k ∧ a.take k = b.take k ∧ Below w.heap.size w wr) (fun i _ => a.length - (intOf i).toNat)
  case atStart => exact ⟨0, Nat.zero_le _, rfl, rfl, Below.refl _ _⟩
  case round =>
   obtain ⟨k, hk, rfl, hab, hbw⟩ := hrel
   have HAB := Lib.hid hab
   clear hab
   by_cases hlt : k < a.length
   ·have hltb : k < b.length := by omega
    obtain ⟨p, o, rfl, hp, hc⟩ := hra.int_at (by omega)
    obtain ⟨q, u, rfl, hq, hd⟩ := hrb.int_at (by omega)
    have hck := (hbw.cell (p := ⟨p, o + k, none⟩) hp).trans (hc k hlt)
    have hdk := (hbw.cell (p := ⟨q, u + k, none⟩) hq).trans (hd k hltb)
    clear hc hd
    have g0 : (0 : Int) ≤ (k : Int) := by omega
    have g1 : (k : Int) < (a.length : Int) := by omega
    have g2 : (k : Int) < (b.length : Int) := by omega
    by_cases he : a[k]'hlt = b[k]'hltb
    ·have H := Lib.hid (show a.take (k + 1) = b.take (k + 1) by rw [List.take_succ_eq_append_getElem hlt, List.take_succ_eq_append_getElem hltb, HAB.out, he])
     obtain ⟨x, hx⟩ : ∃ x, a[k]'hlt = x := ⟨_, rfl⟩
     obtain ⟨y, hy⟩ : ∃ y, b[k]'hltb = y := ⟨_, rfl⟩
     rw [hx] at hck he
     rw [hy] at hdk he
     subst he
     clear hx hy
     go_wp2
     go_quiet (fail)
     go_wp2
     go_roundw
     case rel => exact ⟨k + 1, by omega, by go_num, H.out, below_drewN hbw _⟩
     case measure => simp [intOf]; omega
    ·have E := Lib.hid (show decide (a = b) = false from decide_eq_false (fun e => he (by subst e; rfl)))
     have t1 : (a[k]'hlt == b[k]'hltb) = false := beq_false_of_ne he
     have t2 : (a[k]'hlt != b[k]'hltb) = true := by simp [bne, t1]
     clear he
     go_wp2
     go_quiet (fail)
     go_wp2
     go_ret
     exact ⟨ret_b E.out.symm, below_drewN hbw _⟩
   ·have E := Lib.hid (show decide (a = b) = true from decide_eq_true (by
     have h1 := HAB.out
     rw [List.take_of_length_le (by omega), List.take_of_length_le (by omega)] at h1
     exact h1))
    go_wp2
    go_ret
    exact ⟨ret_b E.out.symm, hbw⟩
 ·have E := Lib.hid (show decide (a = b) = false from decide_eq_false (fun e => hlen (by rw [e])))
  have t1 : ((a.length : Int) == (b.length : Int)) = false := beq_false_of_ne (by omega)
  have t2 : ((a.length : Int) != (b.length : Int)) = true := by simp [bne, t1]
  clear hlen
  go_enter Tryd.func22, Tryd.ntmps22
  go_wp2
  go_ret
  exact ⟨ret_b E.out.symm, Below.refl _ _⟩
theorem ints_at (A B : Option Addr) (n m c d : Nat) (a b : List Int) (q : Bool) (w : World) (hn : a.length = n) (hm : b.length = m) (hq : decide (a = b) = q) (hl : n ≤ 4294967296) (hl2 : m ≤ 4294967296) (hra : Rd w A (is_ a)) (hrb : Rd w B (is_ b)) :
 Calls Tryd.prog 22 #[.slice A n c, .slice B m d] w fun e w' => e = .returned (.bool q) ∧ Below w.heap.size w w' := by
 subst hn hm hq
 exact ints_any A B c d a b w hl hl2 hra hrb
end Go.Proofs.YtdfojkbgdoiglaaDoor
