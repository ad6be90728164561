/-
  Layer 12: words for what its calls leave. Layer 2, walked: the code points that a function tells, one after the other, for every loop that ranges over it. Layer 2: what the callers of the iterator share. Layer 2, walked: All. Layer 3, walked: the program's reader: one, part. Layer 3, walked: Same, the program's (the document's: Same).
-/
import Derived.Test.YtmagokkegadmiaaDoorG04
import Derived.Test.YtmagokkegadmiaaDoorG07
import Derived.Test.YtmagokkegadmiaaDoorG14
import Derived.Test.YtmagokkegadmiaaDoorG15
import Derived.Test.YtmagokkegadmiaaDoorG16
import Derived.Test.YtmagokkegadmiaaDoorG17
import Derived.Test.YtmagokkegadmiaaDoorG18
import Derived.Test.YtmagokkegadmiaaDoorG19
import Derived.Test.YtmagokkegadmiaaDoorG20
import Derived.Test.YtmagokkegadmiaaDoorG22
import Derived.RangeFuncNested
import Derived.RangeFuncBound
import Derived.RangeFuncCalls
import Derived.RangeFuncLeaves
import Derived.RangeFuncBox
import Derived.Shelf.Abstract
import Derived.Shelf.RegionOpen
import Derived.WalkKit
import Derived.OwnWalkIn
import Derived.TacticsInMore
import Derived.LoopNIn
import Derived.LoopIn
import Derived.Maps.AppendAt
import Derived.Deep.QuietTactic
import Derived.BigQuiet
namespace Go.Proofs.YtmagokkegadmiaaDoor
open Go.RowKit

/-- What a call leaves that tells bytes, and whether there are any. -/
def OutB (L : List UInt8) (n : Nat) (q : Bool) (w : World) (e : Ending) (w' : World) : Prop := ∃ A c, e = .returned (.tuple #[.slice A n c, .bool q]) ∧ Rd w' A (bs L) ∧ Below w.heap.size w w'
/-- The same, with the room. -/
def OutC (L : List UInt8) (n : Nat) (q : Bool) (w : World) (e : Ending) (w' : World) : Prop := ∃ A c, e = .returned (.tuple #[.slice A n c, .bool q]) ∧ n ≤ c ∧ Rd w' A (bs L) ∧ Below w.heap.size w w'
/-- Three numbers, and whether. -/
def BkE (x : Int × Int × Bool) (w : World) (e : Ending) (w' : World) : Prop := e = .returned (.tuple #[.int .i64 x.1, .int .i64 x.2.1, .bool x.2.2]) ∧ Below w.heap.size w w'
theorem BkE.no {x : Int × Int × Bool} (h : x = (0, 0, false)) {w w' : World} (hb : Below w.heap.size w w') : BkE x w (.returned (.tuple #[.int .i64 0, .int .i64 0, .bool false])) w' := by
  subst h
  exact ⟨rfl, hb⟩
theorem BkE.yes {x : Int × Int × Bool} {c p : Int} (h : x = (c, p, true)) {w w' : World} (hb : Below w.heap.size w w') : BkE x w (.returned (.tuple #[.int .i64 c, .int .i64 p, .bool true])) w' := by
  subst h
  exact ⟨rfl, hb⟩
theorem str_bs {w : World} {A : Option Addr} {L : List UInt8} {n c : Nat} (hn : L.length = n) (h : Rd w A (bs L)) : (convert 27 9 (.slice A n c)).run Tryd.prog w = .ok (.string ⟨L.toArray⟩) w :=
  conv_str (P := Tryd.prog) Tryd.underlying27 Tryd.underlying5 hn h _ Tryd.underlying9
theorem rd_lits12 (w : World) (l : List UInt8) (L : Array Value) (t : TypeId) (z : Nat × Nat) (h : bs l = L.toList) : Rd (w.alloc (.cells L t z)) (some ⟨w.heap.size, 0, none⟩) (bs l) :=
  Rd.block (heap_alloc_new w _) (by rw [h]; exact List.take_of_length_le (Nat.le_refl _))
/-- Any key has at most so many bytes. -/
theorem oth_len (o : Int) (k : Ky) : (othL o k).length ≤ 20000 := by
  unfold othL
  split
  · unfold othB seqB
    split
    · exact (may_small (by assumption)).2.2.1
    · simp
  · simp
end Go.Proofs.YtmagokkegadmiaaDoor
namespace Go.Proofs.YtmagokkegadmiaaDoor
open Go.RowKit Go.Shelf
attribute [local go_sem] Oper.semAt_some

theorem Siz.low {n₁ : Nat} {w w' : World} (h : Siz w) (h0 : 1 < n₁) (hb : Below n₁ w w') : Siz w' := by
  obtain ⟨t, fz, hh⟩ := h
  exact ⟨t, fz, (hb.block _ h0).trans hh⟩
/-- What a round that goes on keeps: all below a block, and one block. -/
def Kp2 (n₁ B : Nat) (w w' : World) : Prop := Below n₁ w w' ∧ w'.heap[B]? = w.heap[B]?

theorem take_tup (A : Option Addr) (n c : Nat) (l : List UInt8) (r : Int) (m : Nat) (w : World) (hn : l.length = n) (h : takeL l = (r, m)) (hs : Siz w) (hl : l.length ≤ 4294967296) (hlc : n ≤ c) (hr : Rd w A (bs l)) :
    Calls Tryd.prog 76 #[.slice A n c] w fun e w' => e = .returned (.tuple #[.int .i64 r, .int .i64 m]) ∧ Below w.heap.size w w' := by
  subst hn
  refine (take_any A c l w hs hl hlc hr).mono ?_
  rintro e w' ⟨rfl, hb⟩
  exact ⟨by unfold Tk; rw [h], hb⟩
theorem below_grown0 {w w' : World} (h : Below w.heap.size w w') : w.grownBy w' none := ⟨h.os, h.tape, h.output, h.size, fun k hk _ => h.block k hk⟩

set_option maxRecDepth 100000 in
set_option maxHeartbeats 2000000 in
theorem points_any (A : Option Addr) (n c : Nat) (w : World) : Calls Tryd.prog 65 #[.slice A n c] w fun e w' => e = .returned (.func (.func 75) #[] #[.pointer (some ⟨w.heap.size, 0, none⟩)]) ∧ w' = w.alloc (.cells #[.slice A n c] 27) := by
  go_enter Tryd.func65, Tryd.ntmps65
  go_wp2
  go_ret
  exact ⟨rfl, rfl⟩

set_option maxRecDepth 100000 in
set_option maxHeartbeats 2000000 in
theorem pts1_in (n : Nat) (hn : 1 ≤ n) (l Bs n₁ B0 c : Nat) (A : Option Addr) (t : List UInt8) (ht : t.length ≤ 4294967296) (htc : t.length ≤ c) (hg0 : 1 < n₁) (J Jx : List (Int × Bool) → World → Prop) (hJ : AbidesFrom B0 J)
    (hY : ∀ pre x W, J pre W → pre.length < (ptsL t).length → YieldAt Fence.wide (n - 1) Tryd.prog l #[.int .i64 x.1, .bool x.2] W fun e W' =>
      (e = .returned (.bool true) ∧ J (pre ++ [x]) W' ∧ Kp2 n₁ Bs W W') ∨ (e = .returned (.bool false) ∧ Jx (pre ++ [x]) W'))
    (W : World) (hbox : Blk W Bs 27 #[.slice A t.length c]) (hs : Siz W) (hr : RdIn n₁ W A (bs t)) (hn₁ : n₁ ≤ W.heap.size) (h0 : J [] W) :
    CallsIn Fence.wide n Tryd.prog 75 #[.func (.yield l) #[] #[], .pointer (some ⟨Bs, 0, none⟩)] W fun e W' => (∃ v, e = .returned v) ∧
      ((∃ ys, ys = ptsL t ∧ J ys W') ∨ (∃ pre, pre <+: ptsL t ∧ Jx pre W')) := by
  refine callsIn_of_wp Tryd.func75 rfl trivial ?_ rfl
  simp only [Tryd.ntmps75, List.size_toArray, List.length_cons, List.length_nil, Nat.reduceAdd, Nat.reduceSub, Array.replicate_succ, Array.replicate_zero, List.push_toArray, List.append_toArray, List.nil_append, List.cons_append]
  gi_wp2
  gi_loopw [3] (fun i wr => ∃ (k : Nat) (pre : List (Int × Bool)), k ≤ t.length ∧ i = .int .i64 k ∧ pre ++ ptsL (t.drop k) = ptsL t ∧ J pre wr ∧ Blk wr Bs 27 #[.slice A t.length c] ∧ Siz wr ∧ RdIn n₁ wr A (bs t) ∧ n₁ ≤ wr.heap.size) (fun i _ => t.length - (intOf i).toNat)
  case atStart => exact ⟨0, [], Nat.zero_le _, rfl, rfl, h0, hbox, hs, hr, hn₁⟩
  case round =>
    obtain ⟨k, pre, hk, rfl, hpre, hJs, hbx, hsz, hrd, hnw⟩ := hrel
    have HP := Lib.hid hpre
    clear hpre
    have hcb := hbx.cell 0
    by_cases hlt : k < t.length
    · obtain ⟨b, o, rfl, hb, hcc⟩ := hrd (by rw [bs_length]; omega)
      have hdr := hrd.drop k hlt
      clear hcc
      have k0 : (0 : Int) ≤ (k : Int) := by omega
      have k1 : (k : Int) ≤ (t.length : Int) := by omega
      have hlen := Lib.hid (show (t.drop k).length = t.length - k from List.length_drop)
      have hld : (t.drop k).length ≤ 4294967296 := by rw [List.length_drop]; omega
      by_cases hz : (takeL (t.drop k)).2 = 0
      · have E := Lib.hid (take_zero hz)
        have PN := Lib.hid (show ptsL (t.drop k) = [(0, false)] from ptsL_no (by rw [List.length_drop]; omega) hz)
        have hlt2 : pre.length < (ptsL t).length := by rw [← HP.out, PN.out]; simp
        have PE := Lib.hid (show pre ++ [(0, false)] = ptsL t by rw [← HP.out, PN.out])
        clear hz
        gi_wp2_with fail
        refine ⟨trivial, ?_⟩
        gi_at_call 76
        refine (callsIn_wide.2 (take_tup _ _ _ (t.drop k) 0 0 _ hlen.out E.out hsz hld (by omega) hdr)).mono ?_
        rintro e w2 ⟨rfl, hb2⟩
        have hJ2 : J pre w2 := hJ _ _ _ none hJs (below_grown0 hb2) (fun r e => by cases e)
        clear hb2
        obtain ⟨fn, tmps, assign, body, hy, hR⟩ := hY pre (0, false) w2 hJ2 hlt2
        dsimp only at hy
        gi_wp2
        refine hR.mono ?_
        rintro e W3 (⟨rfl, hJ3, hk3⟩ | ⟨rfl, hJx3⟩)
        · gi_wp2
          refine bodyPost_ret (results_none rfl _ _ _) rfl ?_
          exact ⟨⟨_, rfl⟩, .inl ⟨_, PE.out, hJ3⟩⟩
        · gi_wp2
          refine bodyPost_ret (results_none rfl _ _ _) rfl ?_
          exact ⟨⟨_, rfl⟩, .inr ⟨_, ⟨[], by rw [List.append_nil]; exact PE.out⟩, hJx3⟩⟩
      · have PY := Lib.hid (ptsL_yes hz)
        have hle := (take_snd_le (t.drop k)).1
        obtain ⟨r, hr1⟩ : ∃ r, (takeL (t.drop k)).1 = r := ⟨_, rfl⟩
        obtain ⟨m, hm1⟩ : ∃ m, (takeL (t.drop k)).2 = m := ⟨_, rfl⟩
        have E := Lib.hid (show takeL (t.drop k) = (r, m) by rw [← hr1, ← hm1])
        rw [hm1, List.length_drop] at hle
        rw [hm1] at hz
        have m0 : (0 : Int) < (m : Int) := by omega
        have m2 : 0 < m := by omega
        have m3 : decide (0 < m) = true := decide_eq_true m2
        have m4 : decide ((0 : Int) < (m : Int)) = true := decide_eq_true m0
        have m1 : ((m : Int) == 0) = false := beq_false_of_ne (by omega)
        have PD := Lib.hid (show ptsL (t.drop k) = (r, true) :: ptsL (t.drop (k + m)) by rw [PY.out, hr1, hm1, List.drop_drop])
        have hlt2 : pre.length < (ptsL t).length := by rw [← HP.out, PD.out]; simp
        have PE := Lib.hid (show (pre ++ [(r, true)]) ++ ptsL (t.drop (k + m)) = ptsL t by rw [← HP.out, PD.out]; simp)
        clear hr1 hm1 PY
        gi_wp2_with fail
        refine ⟨trivial, ?_⟩
        gi_at_call 76
        refine (callsIn_wide.2 (take_tup _ _ _ (t.drop k) r m _ hlen.out E.out hsz hld (by omega) hdr)).mono ?_
        rintro e w2 ⟨rfl, hb2⟩
        have hJ2 : J pre w2 := hJ _ _ _ none hJs (below_grown0 hb2) (fun r e => by cases e)
        have hbx2 := hbx.below hb2 hbx.lt
        have hsz2 := hsz.below' hb2
        have hrd2 := hrd.below (hb2.mono hnw)
        have hnw2 := Nat.le_trans hnw hb2.size
        clear hb2
        obtain ⟨fn, tmps, assign, body, hy, hR⟩ := hY pre (r, true) w2 hJ2 hlt2
        dsimp only at hy
        gi_wp2
        refine hR.mono ?_
        rintro e W3 (⟨rfl, hJ3, hk3⟩ | ⟨rfl, hJx3⟩)
        · gi_wp2
          go_roundw
          case rel => exact ⟨k + m, _, by omega, by go_num, PE.out, hJ3, hk3.2.trans hbx2, hsz2.low hg0 hk3.1, hrd2.below hk3.1, Nat.le_trans hnw2 hk3.1.size⟩
          case measure => simp [intOf]; omega
        · gi_wp2
          refine bodyPost_ret (results_none rfl _ _ _) rfl ?_
          exact ⟨⟨_, rfl⟩, .inr ⟨_, ⟨_, PE.out⟩, hJx3⟩⟩
    · have hke : k = t.length := by omega
      have PE := Lib.hid (show pre = ptsL t by
        have h1 := HP.out
        rw [hke, List.drop_length] at h1
        rw [← h1]; show pre = pre ++ []; simp)
      clear hke
      gi_wp2
      go_end0
      exact ⟨⟨_, rfl⟩, .inl ⟨_, PE.out, hJs⟩⟩
end Go.Proofs.YtmagokkegadmiaaDoor
namespace Go.Proofs.YtmagokkegadmiaaDoor
open Go.RowKit Go.Shelf
attribute [local go_sem] Oper.semAt_some

theorem kp2_t {n₁ B : Nat} {X Y Z : World} (h : Kp2 n₁ B X Y) (k : Kp2 n₁ B Y Z) : Kp2 n₁ B X Z := ⟨h.1.trans k.1, k.2.trans h.2⟩
theorem kp2_b {n₁ B : Nat} {w : World} (hn : n₁ ≤ w.heap.size) (hB : B < w.heap.size) (W : World) (l : Nat) (o o' : Obj) (hl : w.heap.size ≤ l) (h : W.heap[l]? = some o) (hc : o.isCells = false) (hw : o.isWalk = false) : Kp2 n₁ B W (W.putObj l o') :=
  ⟨belowK_b hn W l o o' hl h hc hw, World.putObj_heap_other (by omega)⟩
theorem kp2_refl (n₁ B : Nat) (w : World) : Kp2 n₁ B w w := ⟨Below.refl _ _, rfl⟩

/-- What points tells is told to every loop. -/
theorem pts_stops (n : Nat) (hn : 1 ≤ n) (Bs n₁ c : Nat) (A : Option Addr) (t : List UInt8) (ht : t.length ≤ 4294967296) (htc : t.length ≤ c) (hg0 : 1 < n₁) (w : World) (hn₁ : n₁ ≤ w.heap.size)
    (hbox : Blk w Bs 27 #[.slice A t.length c]) (hs : Siz w) (hr : RdIn n₁ w A (bs t)) :
    SeqStopsK Fence.wide n Tryd.prog 75 #[.pointer (some ⟨Bs, 0, none⟩)] (fun x : Int × Bool => #[.int .i64 x.1, .bool x.2]) (Kp2 n₁ Bs) (fun ys => ys = ptsL t) (fun pre => pre <+: ptsL t) (ptsL t).length w := fun l J Jx W hW hJ _ hY h0 =>
  pts1_in n hn l Bs n₁ W.heap.size c A t ht htc hg0 J Jx hJ hY W (hbox.below hW hbox.lt) (hs.below' hW) (hr.below (hW.mono hn₁)) (Nat.le_trans hn₁ hW.size) h0

theorem all_false {p q : List (Int × Bool)} (h : p <+: q) {y : Int × Bool} (hy : y ∈ p) (h2 : y.2 = false) : q.all (·.2) = false := by
  rw [List.all_eq_false]
  exact ⟨y, h.subset hy, by simp [h2]⟩
theorem allL_none {t : List UInt8} (h : (ptsL t).all (·.2) = false) : allL t = none := by unfold allL allOf; rw [h]; rfl
theorem allL_some {t : List UInt8} (h : ∀ y ∈ ptsL t, y.2 = true) : allL t = some ((ptsL t).map (·.1)) := by
  unfold allL allOf
  rw [if_pos (List.all_eq_true.2 h)]
end Go.Proofs.YtmagokkegadmiaaDoor
namespace Go.Proofs.YtmagokkegadmiaaDoor
open Go.RowKit Go.Shelf
attribute [local go_sem] Oper.semAt_some

set_option maxRecDepth 100000 in
set_option maxHeartbeats 4000000 in
theorem all_any (A : Option Addr) (c : Nat) (t : List UInt8) (w : World) (hs : Siz w) (ht : t.length ≤ 4294967296) (htc : t.length ≤ c) (hr : Rd w A (bs t)) :
    Calls Tryd.prog 50 #[.slice A t.length c] w (Al (allL t) w) := by
  obtain ⟨i0, hi, hz0, hz1, hz2⟩ := info_parts Tryd.intinfo
  have hg0 : 1 < w.heap.size := by obtain ⟨_, _, hh⟩ := hs; exact (Array.getElem?_eq_some_iff.1 hh).1
  have hpl := ptsL_le t
  refine (callsIn_wide (n := 3)).1 ?_
  refine callsIn_of_wp_marks Tryd.func50 rfl trivial ?_ rfl
  simp only [Tryd.ntmps50, List.size_toArray, List.length_cons, List.length_nil, Nat.reduceAdd, Nat.reduceSub, Array.replicate_succ, Array.replicate_zero, List.push_toArray, List.append_toArray, List.nil_append, List.cons_append]
  gi_wp2_with fail
  refine ⟨trivial, ?_⟩
  gi_at_call 65
  refine (callsIn_wide.2 (points_any A t.length c _)).mono ?_
  rintro e w1 ⟨rfl, rfl⟩
  gi_wp2_with fail
  have r0 := Boxed.new w 68 (.slice none 0 0)
  have r1 := Boxed.new (w.alloc (.cells #[.slice none 0 0] 68)) 4 (.bool false)
  have r2 := Boxed.new ((w.alloc (.cells #[.slice none 0 0] 68)).alloc (.cells #[.bool false] 4)) 68 (.slice none 0 0)
  have bx := Blk.new (((w.alloc (.cells #[.slice none 0 0] 68)).alloc (.cells #[.bool false] 4)).alloc (.cells #[.slice none 0 0] 68)) 27 #[.slice A t.length c]
  simp only [World.size_alloc] at r1 r2 bx
  have hB0 : Below w.heap.size w ((((w.alloc (.cells #[.slice none 0 0] 68)).alloc (.cells #[.bool false] 4)).alloc (.cells #[.slice none 0 0] 68)).alloc (.cells #[.slice A t.length c] 27)) :=
    ((((Below.refl _ w).alloc (Nat.le_refl _) _).alloc (by simp) _).alloc (by simp; omega) _).alloc (by simp; omega) _
  refine wpIn_rangeFunc_ownG rfl (by omega) (gf := 75) (lb := #[.pointer (some ⟨w.heap.size + 1 + 1 + 1, 0, none⟩)]) rfl trivial (enters_of Tryd.func75 (by kernel_rfl) rfl)
    (pts_stops 2 (by omega) (w.heap.size + 1 + 1 + 1) w.heap.size c A t ht htc hg0 _ (by simp; omega) bx (hs.below' hB0) ((RdIn.of hr).below hB0)) kp2_t (kp2_b (by simp; omega) (by simp)) (Below.refl _ _) (fun _ => rfl)
    (fun (pre : List (Int × Bool)) W => (((((∃ v, Boxed W (w.heap.size + 1 + 1) 68 v ∧ W.ownsRow w.heap.size 3 1 v pre.length (is_ (pre.map (·.1))) ∧ True) ∧ Boxed W w.heap.size 68 (.slice none 0 0)) ∧ Boxed W (w.heap.size + 1) 4 (.bool false)) ∧ Boxed W (w.heap.size + 1 + 1 + 1) 27 (.slice A t.length c)) ∧ (∀ y ∈ pre, y.2 = true)) ∧ Below w.heap.size w W)
    (fun j (pre : List (Int × Bool)) W => ((Boxed W w.heap.size 68 (.slice none 0 0) ∧ Boxed W (w.heap.size + 1) 4 (.bool false)) ∧ (j = .ret ∧ ∃ y ∈ pre, y.2 = false)) ∧ Below w.heap.size w W)
    (OwnFrom.and (OwnFrom.and (OwnFrom.and (OwnFrom.and (OwnFrom.and (Go.Own.from (holdsRow_own w.heap.size (w.heap.size + 1 + 1) 68 3 1 (fun pre : List (Int × Bool) => pre.length) (fun pre => is_ (pre.map (·.1))) (fun _ _ => True)) _) (Go.Own.from (boxed_own w.heap.size 68 fun _ => .slice none 0 0) _)) (Go.Own.from (boxed_own (w.heap.size + 1) 4 fun _ => .bool false) _)) (Go.Own.from (boxed_own (w.heap.size + 1 + 1 + 1) 27 fun _ => .slice A t.length c) _)) (ownFrom_pure _ fun (pre : List (Int × Bool)) => ∀ y ∈ pre, y.2 = true)) (ownFrom_below (Nat.le_refl _) (by simp; omega)))
    (fun j => OwnFrom.and (OwnFrom.and (OwnFrom.and (Go.Own.from (boxed_own w.heap.size 68 fun _ => .slice none 0 0) _) (Go.Own.from (boxed_own (w.heap.size + 1) 4 fun _ => .bool false) _)) (ownFrom_pure _ fun (pre : List (Int × Bool)) => j = .ret ∧ ∃ y ∈ pre, y.2 = false)) (ownFrom_below (Nat.le_refl _) (by simp; omega)))
    ⟨⟨⟨⟨⟨⟨_, r2.alloc _, World.ownsRow_nil _ _ _ _, trivial⟩, ((r0.alloc _).alloc _).alloc _⟩, (r1.alloc _).alloc _⟩, bx⟩, by simp⟩, hB0⟩
    (fun x => { tmps := #[.slice A t.length c, undef, .pointer (some ⟨w.heap.size, 0, none⟩), .pointer (some ⟨w.heap.size + 1, 0, none⟩), .pointer (some ⟨w.heap.size + 1 + 1, 0, none⟩), .int .i64 x.1, .bool x.2, .slice A t.length c, .func (.func 75) #[] #[.pointer (some ⟨w.heap.size + 1 + 1 + 1, 0, none⟩)], .int .i64 x.1, .bool x.2, undef, undef, undef, undef, undef, undef, undef], defers := [] }) ?assign ?body ?done ?stop
  case assign =>
    intro l x W K hK
    gi_wp2
    exact hK
  case body =>
    rintro l pre ⟨r, ok⟩ W ⟨⟨⟨⟨⟨⟨v, hv, hrow, _⟩, b0⟩, b1⟩, b3⟩, hall⟩, hB⟩ hlt
    have hc := hv.cell
    have c0 := b0.cell
    have f0 := b0.frozen
    have c1 := b1.cell
    have f1 := b1.frozen
    cases ok with
    | true =>
      have h63 : pre.length + 1 ≤ maxLen := by simp only [maxLen]; omega
      have hlim : (pre.length + 1) * 8 ≤ 140737488355328 := by omega
      gi_wp2_with (gi_at_builtin; refine wpListIn_append_own _ rfl _ _ 68 rfl w.heap.size 3 i0 (.int .i64 0) 1 8 Tryd.underlying68 hi hz0 hz1 hz2 rfl (by decide) _ _ _ rfl (hrow.alloc _) ⟨W.heap.size, 0, none⟩ 1 1 [.int .i64 r] rfl rfl (cell_one_new _ _ _) (by simp [Value.oneCell']) h63 hlim (by have := hB.size; simp; omega) ?_; intro v' w1 hown' hgrow _; obtain ⟨g', cap', rfl⟩ := ownsRow_succ hown'; obtain ⟨hv1, hv2, hr2, hk2, hb2⟩ := hv.appended (by decide) hrow hB.size (by omega) hown' hgrow; have hc1 := hv1.cell; have hf1 := hv1.frozen)
      have d0 : Boxed (w1.setCell ⟨w.heap.size + 1 + 1, 0, none⟩ (.slice (some ⟨g', 0, none⟩) (pre.length + 1) cap')) w.heap.size 68 (.slice none 0 0) := ((b0.alloc _).kept hgrow (b0.not_row (by decide) hrow)).other (by omega) _
      have d1 : Boxed (w1.setCell ⟨w.heap.size + 1 + 1, 0, none⟩ (.slice (some ⟨g', 0, none⟩) (pre.length + 1) cap')) (w.heap.size + 1) 4 (.bool false) := ((b1.alloc _).kept hgrow (b1.not_row (by decide) hrow)).other (by omega) _
      have d3 : Boxed (w1.setCell ⟨w.heap.size + 1 + 1, 0, none⟩ (.slice (some ⟨g', 0, none⟩) (pre.length + 1) cap')) (w.heap.size + 1 + 1 + 1) 27 (.slice A t.length c) := ((b3.alloc _).kept hgrow (b3.not_row (by decide) hrow)).other (by omega) _
      refine ⟨hk2.from _, ⟨hb2, Eq.trans d3 (Eq.symm b3)⟩, ⟨⟨⟨⟨⟨_, hv2, ?_, trivial⟩, d0⟩, d1⟩, d3⟩, fun y hy => (List.mem_append.1 hy).elim (hall y) (fun e => by simp at e; subst e; rfl)⟩, hB.trans hb2⟩
      simpa [is_] using hr2
    | false =>
      gi_wp2
      exact ⟨((KeepsOthers.setCell _ _ _).trans (KeepsOthers.setCell _ _ _)).from _, ⟨⟨(Boxed.set _ b0).other (by omega) _, Boxed.set _ (b1.other (by omega) _)⟩, rfl, ⟨(r, false), by simp, rfl⟩⟩, (hB.setCell (p := ⟨w.heap.size, 0, none⟩) (Nat.le_refl _) _).setCell (p := ⟨w.heap.size + 1, 0, none⟩) (by simp) _⟩
  case done =>
    rintro D ys W hD rfl ⟨⟨⟨⟨⟨⟨v, hv, hrow, _⟩, b0⟩, b1⟩, b3⟩, hall⟩, hB⟩ hK
    have E := Lib.hid (allL_some hall)
    obtain ⟨A2, c2, rfl, _⟩ := own_form hrow
    have hc := hv.cell
    have c0 := b0.cell
    have f0 := b0.frozen
    have c1 := b1.cell
    have f1 := b1.frozen
    gi_wp2
    have hK' := ((KeepsOthers.setCell W ⟨w.heap.size, 0, none⟩ (.slice A2 (ptsL t).length c2)).trans (KeepsOthers.setCell _ ⟨w.heap.size + 1, 0, none⟩ (.bool true))).same D _ hK rfl
    refine ⟨by simp, .inl ⟨_, _, rfl, run_takeDeferred hK', ?_⟩⟩
    have e0 : Boxed ((W.setCell ⟨w.heap.size, 0, none⟩ (.slice A2 (ptsL t).length c2)).setCell ⟨w.heap.size + 1, 0, none⟩ (.bool true)) w.heap.size 68 (.slice A2 (ptsL t).length c2) := (Boxed.set _ b0).other (by omega) _
    have e1 : Boxed ((W.setCell ⟨w.heap.size, 0, none⟩ (.slice A2 (ptsL t).length c2)).setCell ⟨w.heap.size + 1, 0, none⟩ (.bool true)) (w.heap.size + 1) 4 (.bool true) := Boxed.set _ (b1.other (by omega) _)
    have hr1 := (hrow.kept (grownBy_setCell' W w.heap.size (.slice A2 (ptsL t).length c2)) (.inr (b0.not_row (by decide) hrow).symm))
    have hr2 := hr1.kept (grownBy_setCell' _ (w.heap.size + 1) (.bool true)) (.inr ((b1.other (B' := w.heap.size) (by omega) _).not_row (by decide) hr1).symm)
    have hr3 := ownsRow_putObj hr2 (.deferred none) hK' rfl
    have hc5 := cell_kept e0.cell (grownBy_putObj' _ D (.deferred none)) (fun r e => by cases e; exact ⟨_, hK', rfl⟩)
    have hc6 := cell_kept e1.cell (grownBy_putObj' _ D (.deferred none)) (fun r e => by cases e; exact ⟨_, hK', rfl⟩)
    refine ⟨.tuple #[.slice A2 (ptsL t).length c2, .bool true], ?_, Al.yes E.out (by simp) (Own.of hr3).rd (((hB.setCell (p := ⟨w.heap.size, 0, none⟩) (Nat.le_refl _) _).setCell (p := ⟨w.heap.size + 1, 0, none⟩) (by simp) _).trans (belowK_b (w := w) (Nat.le_refl _) _ D _ _ (by simp at hD; omega) hK' rfl rfl))⟩
    simp [results, Tryd.f50, go_sem, hc5, hc6]
  case stop =>
    rintro D j pre W hD hpre ⟨⟨⟨b0, b1⟩, rfl, ⟨y, hy, hy2⟩⟩, hB⟩ hK
    have E := Lib.hid (allL_none (all_false hpre hy hy2))
    gi_wp2
    refine ⟨by simp, .inl ⟨_, _, rfl, run_takeDeferred hK, ?_⟩⟩
    have hc5 := cell_kept b0.cell (grownBy_putObj' _ D (.deferred none)) (fun r e => by cases e; exact ⟨_, hK, rfl⟩)
    have hc6 := cell_kept b1.cell (grownBy_putObj' _ D (.deferred none)) (fun r e => by cases e; exact ⟨_, hK, rfl⟩)
    refine ⟨.tuple #[.slice none 0 0, .bool false], ?_, Al.no E.out (hB.trans (belowK_b (w := w) (Nat.le_refl _) W D _ _ (by simp at hD; omega) hK rfl rfl))⟩
    simp [results, Tryd.f50, go_sem, hc5, hc6]
end Go.Proofs.YtmagokkegadmiaaDoor
namespace Go.Proofs.YtmagokkegadmiaaDoor
open Go.RowKit

/-- The table, and all of it below a block. -/
def TabIn (n₁ : Nat) (w : World) : Prop := Lib.TabBelow Tryd.prog n₁ w "internal/strconv.uint64pow10" .u64 Lib.pow10Tab
theorem TabIn.tab {n₁ : Nat} {w : World} (h : TabIn n₁ w) : Tab w := h.here
theorem TabIn.below {n₁ : Nat} {w w' : World} (h : TabIn n₁ w) (hb : Below n₁ w w') : TabIn n₁ w' := h.on hb
theorem TabIn.grown {n₁ : Nat} {w w' : World} (h : TabIn n₁ w) (hg : w.grownBy w' (some n₁)) (hn : n₁ < w.heap.size) : TabIn n₁ w' := h.on (below_grown hg (Nat.le_refl _) hn)
theorem Rdr.lt {w : World} {g : Nat} {A : Option Addr} {c : Nat} {l r : List UInt8} {x0 x1 x2 x3 x4 x5 : Value} (h : Rdr w g A c l x0 x1 x2 x3 x4 x5 r) : g < w.heap.size := by
  obtain ⟨_, _, _, _, hb⟩ := h
  exact hb.lt
theorem Rdr.below {B : Nat} {w w' : World} {g : Nat} {A : Option Addr} {c : Nat} {l r : List UInt8} {x0 x1 x2 x3 x4 x5 : Value} (h : Rdr w g A c l x0 x1 x2 x3 x4 x5 r) (hb : Below B w w') (hB : g < B) : Rdr w' g A c l x0 x1 x2 x3 x4 x5 r := by
  obtain ⟨p, h1, h2, h3, h4⟩ := h
  exact ⟨p, h1, h2, h3.below (hb.mono (Nat.le_of_lt hB)), h4.below hb hB⟩
theorem Rdr.drewN {w : World} {g : Nat} {A : Option Addr} {c : Nat} {l r : List UInt8} {x0 x1 x2 x3 x4 x5 : Value} (h : Rdr w g A c l x0 x1 x2 x3 x4 x5 r) (n : Nat) : Rdr (w.drewN n) g A c l x0 x1 x2 x3 x4 x5 r := h

theorem skip_yes (g : Nat) (A : Option Addr) (c : Nat) (l t r : List UInt8) (x0 x1 x2 x3 x4 x5 : Value) (w : World) (hq : skipB t r = true) (hlc : l.length ≤ c) (hl : l.length ≤ 4294967296) (ht : t.length ≤ 4294967296) (h : Rdr w g A c l x0 x1 x2 x3 x4 x5 r) :
    Calls Tryd.prog 28 #[.pointer (some ⟨g, 0, none⟩), .string ⟨t.toArray⟩] w fun e w' => e = .returned (.bool true) ∧ Rdr w' g A c l x0 x1 x2 x3 x4 x5 (r.drop t.length) ∧ w.grownBy w' (some g) :=
  skip_any g A c l t r x0 x1 x2 x3 x4 x5 true w hq hlc hl ht h
theorem skip_no (g : Nat) (A : Option Addr) (c : Nat) (l t r : List UInt8) (x0 x1 x2 x3 x4 x5 : Value) (w : World) (hq : skipB t r = false) (hlc : l.length ≤ c) (hl : l.length ≤ 4294967296) (ht : t.length ≤ 4294967296) (h : Rdr w g A c l x0 x1 x2 x3 x4 x5 r) :
    Calls Tryd.prog 28 #[.pointer (some ⟨g, 0, none⟩), .string ⟨t.toArray⟩] w fun e w' => e = .returned (.bool false) ∧ Rdr w' g A c l x0 x1 x2 x3 x4 x5 r ∧ w.grownBy w' (some g) :=
  skip_any g A c l t r x0 x1 x2 x3 x4 x5 false w hq hlc hl ht h

set_option maxRecDepth 100000 in
set_option maxHeartbeats 4000000 in
theorem one_any (g : Nat) (A : Option Addr) (c a b : Nat) (l r : List UInt8) (x : UInt8) (x0 x1 x2 x3 x4 x5 : Value) (w : World) (hx : oneF a b r = x) (ha : 1 ≤ a) (hlc : l.length ≤ c) (hl : l.length ≤ 4294967296) (h : Rdr w g A c l x0 x1 x2 x3 x4 x5 r) :
    Calls Tryd.prog 47 #[.pointer (some ⟨g, 0, none⟩), .int .u8 a, .int .u8 b] w fun e w' => e = .returned (.int .u8 (x.toNat : Int)) ∧ Rdr w' g A c l x0 x1 x2 x3 x4 x5 (r.drop (runF a b 1 r).length) ∧ w.grownBy w' (some g) := by
  have hone := one_run a b r ha
  rw [hx] at hone
  by_cases h0 : x = 0
  · subst h0
    have HU := Lib.hid (show runF a b 1 r = [] from hone)
    clear hone hx
    go_enter Tryd.func47, Tryd.ntmps47
    go_wp2_with fail
    refine (run2_any g A c a b 1 l r [] x0 x1 x2 x3 x4 x5 _ HU.out hlc hl (by omega) h).mono ?_
    rintro e w1 ⟨rfl, h1, hg1⟩
    go_wp2_with fail
    go_ret
    rw [HU.out]
    exact ⟨rfl, h1, hg1⟩
  · have HU := Lib.hid (show runF a b 1 r = [x] by rw [hone]; exact if_neg h0)
    clear hone hx h0
    go_enter Tryd.func47, Tryd.ntmps47
    go_wp2_with fail
    refine (run2_any g A c a b 1 l r [x] x0 x1 x2 x3 x4 x5 _ HU.out hlc hl (by omega) h).mono ?_
    rintro e w1 ⟨rfl, h1, hg1⟩
    go_wp2_with fail
    go_ret
    rw [HU.out]
    exact ⟨rfl, h1, hg1⟩

set_option maxRecDepth 100000 in
set_option maxHeartbeats 4000000 in
theorem part2_any (g : Nat) (A : Option Addr) (c : Nat) (l r r' : List UInt8) (n : Int) (x0 x1 x2 x3 x4 x5 : Value) (w : World) (hn : partF r = (n, r')) (hlc : l.length ≤ c) (hl : l.length ≤ 4294967296) (ht : TabIn g w) (h : Rdr w g A c l x0 x1 x2 x3 x4 x5 r) :
    Calls Tryd.prog 74 #[.pointer (some ⟨g, 0, none⟩)] w fun e w' => e = .returned (.int .i64 n) ∧ Rdr w' g A c l x0 x1 x2 x3 x4 x5 r' ∧ w.grownBy w' (some g) := by
  have hh := h
  obtain ⟨at_, hat, hr, hrd, hblk⟩ := h
  have hlt := hblk.lt
  obtain ⟨A', hcut, hrd2⟩ := cut_run (P := Tryd.prog) (T := 27) (e := 5) (by kernel_rfl) Tryd.underlying27 Tryd.sizeOf5 A l.length c at_ hat hlc
  have hrd3 := hrd2 g w l rfl hrd
  rw [hr] at hrd3
  have c0 : w.cell? ⟨g, 0, none⟩ = some (.slice A l.length c) := hblk.cell 0
  have c1 : w.cell? ⟨g, 1, none⟩ = some (.int .i64 (at_ : Int)) := hblk.cell 1
  have HL := Lib.hid (show r.length = l.length - at_ by rw [← hr, List.length_drop])
  have n0 : (0 : Int) ≤ (at_ : Int) := by omega
  have n1 : (at_ : Int) ≤ (l.length : Int) := by omega
  have hrl : r.length ≤ 4294967296 := by have := HL.out; omega
  have HS : Hid (∀ W, Below w.heap.size w W → W.cell? ⟨g, 0, none⟩ = some (.slice A l.length c) ∧ W.cell? ⟨g, 1, none⟩ = some (.int .i64 (at_ : Int)) ∧ Below w.heap.size w W) := Lib.hid fun W hb => ⟨(hb.cell (p := ⟨g, 0, none⟩) hlt).trans c0, (hb.cell (p := ⟨g, 1, none⟩) hlt).trans c1, hb⟩
  have HR3 : Hid (∀ W, Below w.heap.size w W → Rd W A' (bs r)) := Lib.hid fun W hb => ((hrd3.rd (Nat.le_of_lt hlt))).below hb
  obtain ⟨v, hv⟩ : ∃ v, satv r = v := ⟨_, rfl⟩
  have hvle := satv_le r
  rw [hv] at hvle
  have HV := Lib.hid hv
  have HN := Lib.hid hn
  obtain ⟨d, hd⟩ : ∃ d, digs r = d := ⟨_, rfl⟩
  have HD := Lib.hid hd
  clear hr hv hrd2 hrd3 hn hd
  go_enter Tryd.func74, Tryd.ntmps74
  go_wp2_with fail
  go_region_held (fun w' => w'.cell? ⟨g, 0, none⟩ = some (.slice A l.length c) ∧ w'.cell? ⟨g, 1, none⟩ = some (.int .i64 (at_ : Int)) ∧ Below w.heap.size w w') (first | exact HS.out _ (Below.refl _ _).drew | exact HS.out _ ((Below.refl _ _).drew.trans hb2)) (first | (go_at_call 82; refine (take_at A' _ r _ _ HL.out hrl (HR3.out _ (Below.refl _ _).drew)).mono ?_; rw [HV.out, HD.out]; rintro e w2 ⟨rfl, hb2⟩))
  have hb2w : Below w.heap.size w w2 := (Below.refl _ _).drew.trans hb2
  have h2 := hh.below hb2w hlt
  have ht2 := ht.below (hb2w.mono (Nat.le_of_lt hlt))
  have hg2 := grown_below (some g) hb2w
  clear hb2
  obtain ⟨T, hT⟩ : ∃ T, textL (v : Int) = T := ⟨_, rfl⟩
  have HT := Lib.hid hT
  have hTl := textL_length (v : Int) (by omega)
  rw [hT] at hTl
  clear hT HS HR3 hcut c0 c1 hrd hblk hh
  have key : skipB T r = true ∧ n = (v : Int) ∧ r' = r.drop T.length ∨ skipB T r = false ∧ n = -1 ∧ r' = r := by
    have := HN.out
    unfold partF at this
    rw [HV.out, HT.out] at this
    cases hs : skipB T r with
    | true => rw [hs, if_pos rfl] at this; injection this with e1 e2; exact .inl ⟨rfl, e1.symm, e2.symm⟩
    | false => rw [hs, if_neg (by simp)] at this; injection this with e1 e2; exact .inr ⟨rfl, e1.symm, e2.symm⟩
  clear HN
  rcases key with ⟨hs, rfl, rfl⟩ | ⟨hs, rfl, rfl⟩
  · have HSK := Lib.hid hs
    clear hs
    go_wp2_with fail
    refine (text_any (v : Int) _ (by omega) (by omega) ht2.tab).mono ?_
    rw [HT.out]
    rintro e w3 ⟨rfl, hb3⟩
    go_wp2_with fail
    refine (skip_any g A c l T r x0 x1 x2 x3 x4 x5 true _ HSK.out hlc hl (by omega) (h2.below hb3 h2.lt)).mono ?_
    rintro e w4 ⟨rfl, h4, hg4⟩
    go_wp2_with fail
    go_ret
    exact ⟨rfl, h4, grown_trans hg2 (grown_trans (grown_below _ hb3) hg4)⟩
  · have HSK := Lib.hid hs
    clear hs
    go_wp2_with fail
    refine (text_any (v : Int) _ (by omega) (by omega) ht2.tab).mono ?_
    rw [HT.out]
    rintro e w3 ⟨rfl, hb3⟩
    go_wp2_with fail
    refine (skip_any g A c l T r' x0 x1 x2 x3 x4 x5 false _ HSK.out hlc hl (by omega) (h2.below hb3 h2.lt)).mono ?_
    rintro e w4 ⟨rfl, h4, hg4⟩
    go_wp2_with fail
    go_ret
    exact ⟨rfl, h4, grown_trans hg2 (grown_trans (grown_below _ hb3) hg4)⟩
end Go.Proofs.YtmagokkegadmiaaDoor
namespace Go.Proofs.YtmagokkegadmiaaDoor
open Go.RowKit

set_option maxRecDepth 100000 in
set_option maxHeartbeats 8000000 in
theorem psame_any (s t : Sq) (A B : Option Addr) (c d : Nat) (q : Bool) (w : World) (hq : sameB s t = q) (hl : s.params.length ≤ 4294967296) (hl2 : t.params.length ≤ 4294967296) (hp : ∀ p ∈ s.params, p.length ≤ 4294967296) (hp2 : ∀ p ∈ t.params, p.length ≤ 4294967296) (hra : RdP w A s.params) (hrb : RdP w B t.params) :
    Calls Tryd.prog 14 #[sqV s A c, sqV t B d] w fun e w' => e = .returned (.bool q) ∧ Below w.heap.size w w' := by
  have hB : ∀ (x y : Obj), Below w.heap.size w ((w.alloc x).alloc y) := fun x y => ((Below.refl _ w).alloc (Nat.le_refl _) _).alloc (by simp) _
  obtain ⟨k, pv, ps, it, f, dd⟩ := s
  obtain ⟨k', pv', ps', it', f', dd'⟩ := t
  have HQ := Lib.hid hq
  have HP := Lib.hid hp
  have HP2 := Lib.hid hp2
  clear hq hp hp2
  dsimp only at hl hl2 hra hrb HP HP2
  unfold sqV
  dsimp only
  by_cases h1 : k = k'
  · subst h1
    by_cases h2 : pv = pv'
    · subst h2
      by_cases h4 : it = it'
      · subst h4
        by_cases h5 : f = f'
        · subst h5
          by_cases h6 : dd = dd'
          · subst h6
            have HD := Lib.hid (show decide (ps = ps') = q by rw [← HQ.out]; simp [sameB])
            obtain ⟨n, hn⟩ : ∃ n, ps.length = n := ⟨_, rfl⟩
            obtain ⟨m, hm⟩ : ∃ m, ps'.length = m := ⟨_, rfl⟩
            have HN := Lib.hid hn
            have HM := Lib.hid hm
            rw [hn] at hl ⊢
            rw [hm] at hl2 ⊢
            clear hn hm
            have hra2 := hra.below (hB (.cells #[.int .i64 k, .int .u8 (pv.toNat : Int), .slice A n c, .string ⟨it.toArray⟩, .int .u8 (f.toNat : Int), .string ⟨dd.toArray⟩] 43) (.cells #[.int .i64 k, .int .u8 (pv.toNat : Int), .slice B m d, .string ⟨it.toArray⟩, .int .u8 (f.toNat : Int), .string ⟨dd.toArray⟩] 43))
            have hrb2 := hrb.below (hB (.cells #[.int .i64 k, .int .u8 (pv.toNat : Int), .slice A n c, .string ⟨it.toArray⟩, .int .u8 (f.toNat : Int), .string ⟨dd.toArray⟩] 43) (.cells #[.int .i64 k, .int .u8 (pv.toNat : Int), .slice B m d, .string ⟨it.toArray⟩, .int .u8 (f.toNat : Int), .string ⟨dd.toArray⟩] 43))
            go_enter Tryd.func14, Tryd.ntmps14
            go_wp2_with fail
            refine (eqf_any A B n m c d ps ps' q _ HN.out HM.out HD.out hl hl2 HP.out HP2.out hra2 hrb2).mono ?_
            rintro e w1 ⟨rfl, hb1⟩
            go_wp2_with fail
            go_ret
            exact ⟨rfl, (hB _ _).trans (hb1.mono (by simp; omega))⟩
          · have HF := Lib.hid (show false = q by rw [← HQ.out]; simp [sameB, h6])
            go_enter Tryd.func14, Tryd.ntmps14
            go_wp2_with fail
            go_ret
            exact ⟨ret_b HF.out, hB _ _⟩
        · have HF := Lib.hid (show false = q by rw [← HQ.out]; simp [sameB, h5])
          obtain ⟨n2, n3⟩ := byte_ne h5
          clear h5
          go_enter Tryd.func14, Tryd.ntmps14
          go_wp2_with fail
          go_ret
          exact ⟨ret_b HF.out, hB _ _⟩
      · have HF := Lib.hid (show false = q by rw [← HQ.out]; simp [sameB, h4])
        go_enter Tryd.func14, Tryd.ntmps14
        go_wp2_with fail
        go_ret
        exact ⟨ret_b HF.out, hB _ _⟩
    · have HF := Lib.hid (show false = q by rw [← HQ.out]; simp [sameB, h2])
      obtain ⟨n2, n3⟩ := byte_ne h2
      clear h2
      go_enter Tryd.func14, Tryd.ntmps14
      go_wp2_with fail
      go_ret
      exact ⟨ret_b HF.out, hB _ _⟩
  · have HF := Lib.hid (show false = q by rw [← HQ.out]; simp [sameB, h1])
    have n2 : (k == k') = false := beq_false_of_ne h1
    have n3 : (k != k') = true := by simp [bne, n2]
    clear h1
    go_enter Tryd.func14, Tryd.ntmps14
    go_wp2_with fail
    go_ret
    exact ⟨ret_b HF.out, hB _ _⟩

end Go.Proofs.YtmagokkegadmiaaDoor
