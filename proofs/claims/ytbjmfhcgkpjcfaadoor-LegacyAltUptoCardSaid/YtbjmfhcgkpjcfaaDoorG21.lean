/-
  Layer 9: the document's own answers: the pad, and Look. Layer 2, walked: the code points that a function tells, one after the other, for every loop that ranges over it.
-/
import Derived.Test.YtbjmfhcgkpjcfaaDoorG09
import Derived.Test.YtbjmfhcgkpjcfaaDoorG17
import Derived.Test.YtbjmfhcgkpjcfaaDoorG19
import Derived.Test.YtbjmfhcgkpjcfaaDoorG20
import Derived.RangeFuncNested
import Derived.RangeFuncBound
import Derived.RangeFuncCalls
import Derived.RangeFuncLeaves
import Derived.RangeFuncBox
import Derived.Shelf.Abstract
import Derived.Shelf.RegionOpen
import Derived.WalkKit
import Derived.OwnWalkIn
import Derived.TacticsInMore
import Derived.LoopNIn
import Derived.LoopIn
import Derived.Maps.AppendAt
namespace Go.Proofs.YtbjmfhcgkpjcfaaDoor
open Go.RowKit

set_option maxRecDepth 100000 in
set_option maxHeartbeats 16000000 in
theorem rpad_0 (w : World) : Calls Tryd.prog 32 #[.int .i64 57399] w fun e w' => e = .returned (enV (padE 57399)) ∧ Below w.heap.size w w' := by
  go_enter Tryd.func32, Tryd.ntmps32
  go_wp2_with fail
  refine bodyPost_ret (v := enV (padE 57399)) (by simp [results, Tryd.results32, go_sem, enV, padE] <;> (constructor <;> decide +kernel)) rfl ⟨rfl, below_two _ _⟩
set_option maxRecDepth 100000 in
set_option maxHeartbeats 16000000 in
theorem rpad_1 (w : World) : Calls Tryd.prog 32 #[.int .i64 57400] w fun e w' => e = .returned (enV (padE 57400)) ∧ Below w.heap.size w w' := by
  go_enter Tryd.func32, Tryd.ntmps32
  go_wp2_with fail
  refine bodyPost_ret (v := enV (padE 57400)) (by simp [results, Tryd.results32, go_sem, enV, padE] <;> (constructor <;> decide +kernel)) rfl ⟨rfl, below_two _ _⟩
set_option maxRecDepth 100000 in
set_option maxHeartbeats 16000000 in
theorem rpad_2 (w : World) : Calls Tryd.prog 32 #[.int .i64 57401] w fun e w' => e = .returned (enV (padE 57401)) ∧ Below w.heap.size w w' := by
  go_enter Tryd.func32, Tryd.ntmps32
  go_wp2_with fail
  refine bodyPost_ret (v := enV (padE 57401)) (by simp [results, Tryd.results32, go_sem, enV, padE] <;> (constructor <;> decide +kernel)) rfl ⟨rfl, below_two _ _⟩
set_option maxRecDepth 100000 in
set_option maxHeartbeats 16000000 in
theorem rpad_3 (w : World) : Calls Tryd.prog 32 #[.int .i64 57402] w fun e w' => e = .returned (enV (padE 57402)) ∧ Below w.heap.size w w' := by
  go_enter Tryd.func32, Tryd.ntmps32
  go_wp2_with fail
  refine bodyPost_ret (v := enV (padE 57402)) (by simp [results, Tryd.results32, go_sem, enV, padE] <;> (constructor <;> decide +kernel)) rfl ⟨rfl, below_two _ _⟩
set_option maxRecDepth 100000 in
set_option maxHeartbeats 16000000 in
theorem rpad_4 (w : World) : Calls Tryd.prog 32 #[.int .i64 57403] w fun e w' => e = .returned (enV (padE 57403)) ∧ Below w.heap.size w w' := by
  go_enter Tryd.func32, Tryd.ntmps32
  go_wp2_with fail
  refine bodyPost_ret (v := enV (padE 57403)) (by simp [results, Tryd.results32, go_sem, enV, padE] <;> (constructor <;> decide +kernel)) rfl ⟨rfl, below_two _ _⟩
set_option maxRecDepth 100000 in
set_option maxHeartbeats 16000000 in
theorem rpad_5 (w : World) : Calls Tryd.prog 32 #[.int .i64 57404] w fun e w' => e = .returned (enV (padE 57404)) ∧ Below w.heap.size w w' := by
  go_enter Tryd.func32, Tryd.ntmps32
  go_wp2_with fail
  refine bodyPost_ret (v := enV (padE 57404)) (by simp [results, Tryd.results32, go_sem, enV, padE] <;> (constructor <;> decide +kernel)) rfl ⟨rfl, below_two _ _⟩
set_option maxRecDepth 100000 in
set_option maxHeartbeats 16000000 in
theorem rpad_6 (w : World) : Calls Tryd.prog 32 #[.int .i64 57405] w fun e w' => e = .returned (enV (padE 57405)) ∧ Below w.heap.size w w' := by
  go_enter Tryd.func32, Tryd.ntmps32
  go_wp2_with fail
  refine bodyPost_ret (v := enV (padE 57405)) (by simp [results, Tryd.results32, go_sem, enV, padE] <;> (constructor <;> decide +kernel)) rfl ⟨rfl, below_two _ _⟩
set_option maxRecDepth 100000 in
set_option maxHeartbeats 16000000 in
theorem rpad_7 (w : World) : Calls Tryd.prog 32 #[.int .i64 57406] w fun e w' => e = .returned (enV (padE 57406)) ∧ Below w.heap.size w w' := by
  go_enter Tryd.func32, Tryd.ntmps32
  go_wp2_with fail
  refine bodyPost_ret (v := enV (padE 57406)) (by simp [results, Tryd.results32, go_sem, enV, padE] <;> (constructor <;> decide +kernel)) rfl ⟨rfl, below_two _ _⟩
set_option maxRecDepth 100000 in
set_option maxHeartbeats 16000000 in
theorem rpad_8 (w : World) : Calls Tryd.prog 32 #[.int .i64 57407] w fun e w' => e = .returned (enV (padE 57407)) ∧ Below w.heap.size w w' := by
  go_enter Tryd.func32, Tryd.ntmps32
  go_wp2_with fail
  refine bodyPost_ret (v := enV (padE 57407)) (by simp [results, Tryd.results32, go_sem, enV, padE] <;> (constructor <;> decide +kernel)) rfl ⟨rfl, below_two _ _⟩
set_option maxRecDepth 100000 in
set_option maxHeartbeats 16000000 in
theorem rpad_9 (w : World) : Calls Tryd.prog 32 #[.int .i64 57408] w fun e w' => e = .returned (enV (padE 57408)) ∧ Below w.heap.size w w' := by
  go_enter Tryd.func32, Tryd.ntmps32
  go_wp2_with fail
  refine bodyPost_ret (v := enV (padE 57408)) (by simp [results, Tryd.results32, go_sem, enV, padE] <;> (constructor <;> decide +kernel)) rfl ⟨rfl, below_two _ _⟩
set_option maxRecDepth 100000 in
set_option maxHeartbeats 16000000 in
theorem rpad_10 (w : World) : Calls Tryd.prog 32 #[.int .i64 57409] w fun e w' => e = .returned (enV (padE 57409)) ∧ Below w.heap.size w w' := by
  go_enter Tryd.func32, Tryd.ntmps32
  go_wp2_with fail
  refine bodyPost_ret (v := enV (padE 57409)) (by simp [results, Tryd.results32, go_sem, enV, padE] <;> (constructor <;> decide +kernel)) rfl ⟨rfl, below_two _ _⟩
set_option maxRecDepth 100000 in
set_option maxHeartbeats 16000000 in
theorem rpad_11 (w : World) : Calls Tryd.prog 32 #[.int .i64 57410] w fun e w' => e = .returned (enV (padE 57410)) ∧ Below w.heap.size w w' := by
  go_enter Tryd.func32, Tryd.ntmps32
  go_wp2_with fail
  refine bodyPost_ret (v := enV (padE 57410)) (by simp [results, Tryd.results32, go_sem, enV, padE] <;> (constructor <;> decide +kernel)) rfl ⟨rfl, below_two _ _⟩
set_option maxRecDepth 100000 in
set_option maxHeartbeats 16000000 in
theorem rpad_12 (w : World) : Calls Tryd.prog 32 #[.int .i64 57411] w fun e w' => e = .returned (enV (padE 57411)) ∧ Below w.heap.size w w' := by
  go_enter Tryd.func32, Tryd.ntmps32
  go_wp2_with fail
  refine bodyPost_ret (v := enV (padE 57411)) (by simp [results, Tryd.results32, go_sem, enV, padE] <;> (constructor <;> decide +kernel)) rfl ⟨rfl, below_two _ _⟩
set_option maxRecDepth 100000 in
set_option maxHeartbeats 16000000 in
theorem rpad_13 (w : World) : Calls Tryd.prog 32 #[.int .i64 57412] w fun e w' => e = .returned (enV (padE 57412)) ∧ Below w.heap.size w w' := by
  go_enter Tryd.func32, Tryd.ntmps32
  go_wp2_with fail
  refine bodyPost_ret (v := enV (padE 57412)) (by simp [results, Tryd.results32, go_sem, enV, padE] <;> (constructor <;> decide +kernel)) rfl ⟨rfl, below_two _ _⟩
set_option maxRecDepth 100000 in
set_option maxHeartbeats 16000000 in
theorem rpad_14 (w : World) : Calls Tryd.prog 32 #[.int .i64 57413] w fun e w' => e = .returned (enV (padE 57413)) ∧ Below w.heap.size w w' := by
  go_enter Tryd.func32, Tryd.ntmps32
  go_wp2_with fail
  refine bodyPost_ret (v := enV (padE 57413)) (by simp [results, Tryd.results32, go_sem, enV, padE] <;> (constructor <;> decide +kernel)) rfl ⟨rfl, below_two _ _⟩
set_option maxRecDepth 100000 in
set_option maxHeartbeats 16000000 in
theorem rpad_15 (w : World) : Calls Tryd.prog 32 #[.int .i64 57414] w fun e w' => e = .returned (enV (padE 57414)) ∧ Below w.heap.size w w' := by
  go_enter Tryd.func32, Tryd.ntmps32
  go_wp2_with fail
  refine bodyPost_ret (v := enV (padE 57414)) (by simp [results, Tryd.results32, go_sem, enV, padE] <;> (constructor <;> decide +kernel)) rfl ⟨rfl, below_two _ _⟩
set_option maxRecDepth 100000 in
set_option maxHeartbeats 16000000 in
theorem rpad_16 (w : World) : Calls Tryd.prog 32 #[.int .i64 57415] w fun e w' => e = .returned (enV (padE 57415)) ∧ Below w.heap.size w w' := by
  go_enter Tryd.func32, Tryd.ntmps32
  go_wp2_with fail
  refine bodyPost_ret (v := enV (padE 57415)) (by simp [results, Tryd.results32, go_sem, enV, padE] <;> (constructor <;> decide +kernel)) rfl ⟨rfl, below_two _ _⟩
set_option maxRecDepth 100000 in
set_option maxHeartbeats 16000000 in
theorem rpad_17 (w : World) : Calls Tryd.prog 32 #[.int .i64 57416] w fun e w' => e = .returned (enV (padE 57416)) ∧ Below w.heap.size w w' := by
  go_enter Tryd.func32, Tryd.ntmps32
  go_wp2_with fail
  refine bodyPost_ret (v := enV (padE 57416)) (by simp [results, Tryd.results32, go_sem, enV, padE] <;> (constructor <;> decide +kernel)) rfl ⟨rfl, below_two _ _⟩
theorem rpad_any (c : Int) (h1 : 57399 ≤ c) (h2 : c ≤ 57416) (w : World) : Calls Tryd.prog 32 #[.int .i64 c] w fun e w' => e = .returned (enV (padE c)) ∧ Below w.heap.size w w' := by
  have hc : c = 57399 ∨ c = 57400 ∨ c = 57401 ∨ c = 57402 ∨ c = 57403 ∨ c = 57404 ∨ c = 57405 ∨ c = 57406 ∨ c = 57407 ∨ c = 57408 ∨ c = 57409 ∨ c = 57410 ∨ c = 57411 ∨ c = 57412 ∨ c = 57413 ∨ c = 57414 ∨ c = 57415 ∨ c = 57416 := by omega
  rcases hc with rfl | rfl | rfl | rfl | rfl | rfl | rfl | rfl | rfl | rfl | rfl | rfl | rfl | rfl | rfl | rfl | rfl | rfl
  · exact rpad_0 w
  · exact rpad_1 w
  · exact rpad_2 w
  · exact rpad_3 w
  · exact rpad_4 w
  · exact rpad_5 w
  · exact rpad_6 w
  · exact rpad_7 w
  · exact rpad_8 w
  · exact rpad_9 w
  · exact rpad_10 w
  · exact rpad_11 w
  · exact rpad_12 w
  · exact rpad_13 w
  · exact rpad_14 w
  · exact rpad_15 w
  · exact rpad_16 w
  · exact rpad_17 w
end Go.Proofs.YtbjmfhcgkpjcfaaDoor
namespace Go.Proofs.YtbjmfhcgkpjcfaaDoor
open Go.RowKit Go.Shelf
attribute [local go_sem] Oper.semAt_some

theorem Siz.low {n₁ : Nat} {w w' : World} (h : Siz w) (h0 : 1 < n₁) (hb : Below n₁ w w') : Siz w' := by
  obtain ⟨t, fz, hh⟩ := h
  exact ⟨t, fz, (hb.block _ h0).trans hh⟩
/-- What a round that goes on keeps: all below a block, and one block. -/
def Kp2 (n₁ B : Nat) (w w' : World) : Prop := Below n₁ w w' ∧ w'.heap[B]? = w.heap[B]?

theorem take_tup (A : Option Addr) (n c : Nat) (l : List UInt8) (r : Int) (m : Nat) (w : World) (hn : l.length = n) (h : takeL l = (r, m)) (hs : Siz w) (hl : l.length ≤ 4294967296) (hlc : n ≤ c) (hr : Rd w A (bs l)) :
    Calls Tryd.prog 82 #[.slice A n c] w fun e w' => e = .returned (.tuple #[.int .i64 r, .int .i64 m]) ∧ Below w.heap.size w w' := by
  subst hn
  refine (take_any A c l w hs hl hlc hr).mono ?_
  rintro e w' ⟨rfl, hb⟩
  exact ⟨by unfold Tk; rw [h], hb⟩
theorem below_grown0 {w w' : World} (h : Below w.heap.size w w') : w.grownBy w' none := ⟨h.os, h.tape, h.output, h.size, fun k hk _ => h.block k hk⟩

set_option maxRecDepth 100000 in
set_option maxHeartbeats 2000000 in
theorem points_any (A : Option Addr) (n c : Nat) (w : World) : Calls Tryd.prog 74 #[.slice A n c] w fun e w' => e = .returned (.func (.func 81) #[] #[.pointer (some ⟨w.heap.size, 0, none⟩)]) ∧ w' = w.alloc (.cells #[.slice A n c] 28) := by
  go_enter Tryd.func74, Tryd.ntmps74
  go_wp2
  go_ret
  exact ⟨rfl, rfl⟩

set_option maxRecDepth 100000 in
set_option maxHeartbeats 2000000 in
theorem pts1_in (n : Nat) (hn : 1 ≤ n) (l Bs n₁ B0 c : Nat) (A : Option Addr) (t : List UInt8) (ht : t.length ≤ 4294967296) (htc : t.length ≤ c) (hg0 : 1 < n₁) (J Jx : List (Int × Bool) → World → Prop) (hJ : AbidesFrom B0 J)
    (hY : ∀ pre x W, J pre W → pre.length < (ptsL t).length → YieldAt Fence.wide (n - 1) Tryd.prog l #[.int .i64 x.1, .bool x.2] W fun e W' =>
      (e = .returned (.bool true) ∧ J (pre ++ [x]) W' ∧ Kp2 n₁ Bs W W') ∨ (e = .returned (.bool false) ∧ Jx (pre ++ [x]) W'))
    (W : World) (hbox : Blk W Bs 28 #[.slice A t.length c]) (hs : Siz W) (hr : RdIn n₁ W A (bs t)) (hn₁ : n₁ ≤ W.heap.size) (h0 : J [] W) :
    CallsIn Fence.wide n Tryd.prog 81 #[.func (.yield l) #[] #[], .pointer (some ⟨Bs, 0, none⟩)] W fun e W' => (∃ v, e = .returned v) ∧
      ((∃ ys, ys = ptsL t ∧ J ys W') ∨ (∃ pre, pre <+: ptsL t ∧ Jx pre W')) := by
  refine callsIn_of_wp Tryd.func81 rfl trivial ?_ rfl
  simp only [Tryd.ntmps81, List.size_toArray, List.length_cons, List.length_nil, Nat.reduceAdd, Nat.reduceSub, Array.replicate_succ, Array.replicate_zero, List.push_toArray, List.append_toArray, List.nil_append, List.cons_append]
  gi_wp2
  gi_loopw [3] (fun i wr => ∃ (k : Nat) (pre : List (Int × Bool)), k ≤ t.length ∧ i = .int .i64 k ∧ pre ++ ptsL (t.drop k) = ptsL t ∧ J pre wr ∧ Blk wr Bs 28 #[.slice A t.length c] ∧ Siz wr ∧ RdIn n₁ wr A (bs t) ∧ n₁ ≤ wr.heap.size) (fun i _ => t.length - (intOf i).toNat)
  case atStart => exact ⟨0, [], Nat.zero_le _, rfl, rfl, h0, hbox, hs, hr, hn₁⟩
  case round =>
    obtain ⟨k, pre, hk, rfl, hpre, hJs, hbx, hsz, hrd, hnw⟩ := hrel
    have HP := Lib.hid hpre
    clear hpre
    have hcb := hbx.cell 0
    by_cases hlt : k < t.length
    · obtain ⟨b, o, rfl, hb, hcc⟩ := hrd (by rw [bs_length]; omega)
      have hdr := hrd.drop k hlt
      clear hcc
      have k0 : (0 : Int) ≤ (k : Int) := by omega
      have k1 : (k : Int) ≤ (t.length : Int) := by omega
      have hlen := Lib.hid (show (t.drop k).length = t.length - k from List.length_drop)
      have hld : (t.drop k).length ≤ 4294967296 := by rw [List.length_drop]; omega
      by_cases hz : (takeL (t.drop k)).2 = 0
      · have E := Lib.hid (take_zero hz)
        have PN := Lib.hid (show ptsL (t.drop k) = [(0, false)] from ptsL_no (by rw [List.length_drop]; omega) hz)
        have hlt2 : pre.length < (ptsL t).length := by rw [← HP.out, PN.out]; simp
        have PE := Lib.hid (show pre ++ [(0, false)] = ptsL t by rw [← HP.out, PN.out])
        clear hz
        gi_wp2_with fail
        refine ⟨trivial, ?_⟩
        gi_at_call 82
        refine (callsIn_wide.2 (take_tup _ _ _ (t.drop k) 0 0 _ hlen.out E.out hsz hld (by omega) hdr)).mono ?_
        rintro e w2 ⟨rfl, hb2⟩
        have hJ2 : J pre w2 := hJ _ _ _ none hJs (below_grown0 hb2) (fun r e => by cases e)
        clear hb2
        obtain ⟨fn, tmps, assign, body, hy, hR⟩ := hY pre (0, false) w2 hJ2 hlt2
        dsimp only at hy
        gi_wp2
        refine hR.mono ?_
        rintro e W3 (⟨rfl, hJ3, hk3⟩ | ⟨rfl, hJx3⟩)
        · gi_wp2
          refine bodyPost_ret (results_none rfl _ _ _) rfl ?_
          exact ⟨⟨_, rfl⟩, .inl ⟨_, PE.out, hJ3⟩⟩
        · gi_wp2
          refine bodyPost_ret (results_none rfl _ _ _) rfl ?_
          exact ⟨⟨_, rfl⟩, .inr ⟨_, ⟨[], by rw [List.append_nil]; exact PE.out⟩, hJx3⟩⟩
      · have PY := Lib.hid (ptsL_yes hz)
        have hle := (take_snd_le (t.drop k)).1
        obtain ⟨r, hr1⟩ : ∃ r, (takeL (t.drop k)).1 = r := ⟨_, rfl⟩
        obtain ⟨m, hm1⟩ : ∃ m, (takeL (t.drop k)).2 = m := ⟨_, rfl⟩
        have E := Lib.hid (show takeL (t.drop k) = (r, m) by rw [← hr1, ← hm1])
        rw [hm1, List.length_drop] at hle
        rw [hm1] at hz
        have m0 : (0 : Int) < (m : Int) := by omega
        have m2 : 0 < m := by omega
        have m3 : decide (0 < m) = true := decide_eq_true m2
        have m4 : decide ((0 : Int) < (m : Int)) = true := decide_eq_true m0
        have m1 : ((m : Int) == 0) = false := beq_false_of_ne (by omega)
        have PD := Lib.hid (show ptsL (t.drop k) = (r, true) :: ptsL (t.drop (k + m)) by rw [PY.out, hr1, hm1, List.drop_drop])
        have hlt2 : pre.length < (ptsL t).length := by rw [← HP.out, PD.out]; simp
        have PE := Lib.hid (show (pre ++ [(r, true)]) ++ ptsL (t.drop (k + m)) = ptsL t by rw [← HP.out, PD.out]; simp)
        clear hr1 hm1 PY
        gi_wp2_with fail
        refine ⟨trivial, ?_⟩
        gi_at_call 82
        refine (callsIn_wide.2 (take_tup _ _ _ (t.drop k) r m _ hlen.out E.out hsz hld (by omega) hdr)).mono ?_
        rintro e w2 ⟨rfl, hb2⟩
        have hJ2 : J pre w2 := hJ _ _ _ none hJs (below_grown0 hb2) (fun r e => by cases e)
        have hbx2 := hbx.below hb2 hbx.lt
        have hsz2 := hsz.below' hb2
        have hrd2 := hrd.below (hb2.mono hnw)
        have hnw2 := Nat.le_trans hnw hb2.size
        clear hb2
        obtain ⟨fn, tmps, assign, body, hy, hR⟩ := hY pre (r, true) w2 hJ2 hlt2
        dsimp only at hy
        gi_wp2
        refine hR.mono ?_
        rintro e W3 (⟨rfl, hJ3, hk3⟩ | ⟨rfl, hJx3⟩)
        · gi_wp2
          go_roundw
          case rel => exact ⟨k + m, _, by omega, by go_num, PE.out, hJ3, hk3.2.trans hbx2, hsz2.low hg0 hk3.1, hrd2.below hk3.1, Nat.le_trans hnw2 hk3.1.size⟩
          case measure => simp [intOf]; omega
        · gi_wp2
          refine bodyPost_ret (results_none rfl _ _ _) rfl ?_
          exact ⟨⟨_, rfl⟩, .inr ⟨_, ⟨_, PE.out⟩, hJx3⟩⟩
    · have hke : k = t.length := by omega
      have PE := Lib.hid (show pre = ptsL t by
        have h1 := HP.out
        rw [hke, List.drop_length] at h1
        rw [← h1]; show pre = pre ++ []; simp)
      clear hke
      gi_wp2
      go_end0
      exact ⟨⟨_, rfl⟩, .inl ⟨_, PE.out, hJs⟩⟩
end Go.Proofs.YtbjmfhcgkpjcfaaDoor
