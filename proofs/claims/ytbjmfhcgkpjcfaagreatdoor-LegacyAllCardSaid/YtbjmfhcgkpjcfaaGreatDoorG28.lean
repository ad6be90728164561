/-
  Layer 3, walked: the program's parameters as a text. Layer 2, walked: the code points that a function tells, one after the other, for every loop that ranges over it.
-/
import Derived.Test.YtbjmfhcgkpjcfaaGreatDoorG27
import Derived.RangeFuncNested
import Derived.RangeFuncBound
import Derived.RangeFuncCalls
import Derived.RangeFuncLeaves
import Derived.RangeFuncBox
import Derived.Shelf.Abstract
import Derived.Shelf.RegionOpen
import Derived.WalkKit
import Derived.OwnWalkIn
import Derived.TacticsInMore
import Derived.LoopNIn
import Derived.LoopIn
import Derived.Maps.AppendAt
namespace Go.Proofs.YtbjmfhcgkpjcfaaGreatDoor
open Go.RowKit

theorem part_len22 (p : List Int) (h : partOk p) : (partL p).length ≤ 22 * p.length := partL_len p h
theorem own_full {w : World} {base : Nat} {e : TypeId} {g n : Nat} {xs : List Value} {l : List Value} (h : Own w base e 1 (.slice (some ⟨g, 0, none⟩) n n) n xs) (hl : l.length = n) (hx : ∀ j, j < n → xs[j]? = l[j]?) : Rd w (some ⟨g, 0, none⟩) l := by
  have h1 := h.1
  have : xs = l := List.ext_getElem? fun j => by
    by_cases hj : j < n
    · exact hx j hj
    · rw [List.getElem?_eq_none (by omega), List.getElem?_eq_none (by omega)]
  subst this
  exact h.rd

set_option maxRecDepth 100000 in
set_option maxHeartbeats 8000000 in
theorem ptext_any (A : Option Addr) (c : Nat) (ps : List (List Int)) (w : World) (hp : parOk ps = true) (ht : Tab w) (hr : RdP w A ps) :
    Calls Tryz.prog 77 #[.slice A ps.length c] w fun e w' => e = .returned (.string ⟨(parL ps).toArray⟩) ∧ Below w.heap.size w w' := by
  obtain ⟨i0, hi, hz0, hz1, hz2⟩ : ∃ i, Tryz.prog.info? 9 = some i ∧ i.zero = some (.string ⟨#[]⟩) ∧ i.size = 1 ∧ i.bytes = 16 := ⟨_, rfl, rfl, rfl, rfl⟩
  obtain ⟨hl16, hp8⟩ := parOk_lens hp
  have HP8 := Lib.hid hp8
  obtain ⟨n, hn⟩ : ∃ n, ps.length = n := ⟨_, rfl⟩
  rw [hn] at hl16 ⊢
  have HN := Lib.hid hn
  have HP := Lib.hid hp
  clear hp hp8 hn
  go_enter Tryz.func77, Tryz.ntmps77
  go_wp2_with (first | (at_make; refine wpList_make_full _ rfl _ _ 106 rfl w.heap.size 9 i0 _ 1 Tryz.underlying106 hi hz0 hz1 _ _ _ _ n rfl rfl ?d0 ?d1 ?d2 ?d3 ?d4 ?_))
  case d0 => omega
  case d1 => omega
  case d2 => rw [hz2]; omega
  case d3 => simp only [maxLen]; omega
  case d4 => exact Nat.le_refl _
  intro w2 hown2 hg2
  have hb2 : Below w.heap.size w w2 := (Below.refl _ _).grown hg2 (Nat.le_refl _) (by simp)
  have ho2 := Own.of hown2
  have hlt2 : w.heap.size < w2.heap.size := (ho2.lt w.heap.size rfl).2
  clear hown2 hg2
  go_wp2_with fail
  go_loopw [14] (fun i wr => ∃ (k : Nat) (xs : List Value), k ≤ n ∧ i = .int .i64 k ∧ Own wr w.heap.size 9 1 (.slice (some ⟨w.heap.size, 0, none⟩) n n) n xs ∧ Below w.heap.size w wr ∧ Hid (∀ j, j < k → xs[j]? = (ss_ (ps.map partL))[j]?)) (fun i _ => n - (intOf i).toNat)
  case atStart => exact ⟨0, _, Nat.zero_le _, rfl, ho2, hb2, Lib.hid fun j h => absurd h (by omega)⟩
  case round =>
    obtain ⟨k, xs, hk, rfl, ho, hb, hdone⟩ := hrel
    clear ho2 hb2 hlt2
    have hltr : w.heap.size < wr.heap.size := (ho.lt w.heap.size rfl).2
    obtain ⟨wo, rfl⟩ : ∃ wo : World, wo = wr := ⟨_, rfl⟩
    by_cases hlt : k < n
    · have hkn : k < ps.length := by rw [HN.out]; exact hlt
      obtain ⟨b, o, hA, hbA, hcc⟩ := (hr.below hb) (by omega)
      cases hA
      obtain ⟨A', c', hck, hrk⟩ := hcc k hkn
      obtain ⟨p, hp'⟩ : ∃ p, (ps[k]'hkn) = p := ⟨_, rfl⟩
      have hpl := HP8.out _ (List.getElem_mem hkn)
      rw [hp'] at hck hrk hpl
      have HPP := Lib.hid hp'
      clear hp' hcc
      obtain ⟨m, hm⟩ : ∃ m, p.length = m := ⟨_, rfl⟩
      rw [hm] at hck hpl
      have HM := Lib.hid hm
      obtain ⟨hm8, hpo⟩ := hpl
      have HPO := Lib.hid hpo
      clear hm hpo
      go_wp2_with (first | (at_make; refine wpList_make_full _ rfl _ _ 106 rfl wo.heap.size 9 i0 _ 1 Tryz.underlying106 hi hz0 hz1 _ _ _ _ m rfl rfl ?d0 ?d1 ?d2 ?d3 ?d4 ?_))
      case d0 => omega
      case d1 => omega
      case d2 => rw [hz2]; omega
      case d3 => simp only [maxLen]; omega
      case d4 => exact Nat.le_refl _
      intro w3 hown3 hg3
      have hb3 : Below wo.heap.size wo w3 := (Below.refl _ _).grown hg3 (Nat.le_refl _) (by simp)
      have ho3 := Own.of hown3
      clear hown3 hg3
      go_wp2_with fail
      go_loopw [24] (fun i wr => ∃ (j : Nat) (ys : List Value), j ≤ m ∧ i = .int .i64 j ∧ Own wr wo.heap.size 9 1 (.slice (some ⟨wo.heap.size, 0, none⟩) m m) m ys ∧ Below wo.heap.size wo wr ∧ Hid (∀ t, t < j → ys[t]? = (ss_ (p.map textL))[t]?)) (fun i _ => m - (intOf i).toNat)
      case atStart => exact ⟨0, _, Nat.zero_le _, rfl, ho3, hb3, Lib.hid fun j h => absurd h (by omega)⟩
      case round =>
        obtain ⟨j, ys, hj, rfl, hoi, hbi, hdi⟩ := hrel
        clear ho3 hb3
        have hlti : wo.heap.size < wr.heap.size := (hoi.lt wo.heap.size rfl).2
        by_cases hjm : j < m
        · have hjp : j < p.length := by rw [HM.out]; exact hjm
          obtain ⟨b4, o4, hA4, hb4, hc4⟩ := (hrk.below hbi).int_at (by omega)
          cases hA4
          have hcj := hc4 j hjp
          obtain ⟨x, hx⟩ : ∃ x, p[j]'hjp = x := ⟨_, rfl⟩
          have hxr := HPO.out _ (List.getElem_mem hjp)
          rw [hx] at hcj hxr
          have HX := Lib.hid hx
          clear hx hc4
          obtain ⟨x0, x1⟩ := hxr
          go_wp2_with fail
          refine (text_any x _ (by omega) (by omega) (ht.below (hb.trans (hbi.mono hb.size)))).mono ?_
          rintro e w5 ⟨rfl, hb5⟩
          have ho5 := hoi.behind hb5
          have hyl : j < ys.length := by have := hoi.1; omega
          have hd1 := ho5.cellAt j hyl
          have hd2 := ho5.frozenAt j hyl
          have hbi5 : Below wo.heap.size wo w5 := hbi.trans (hb5.mono hbi.size)
          clear hb5 hcj
          go_wp2_with fail
          go_roundw
          case rel =>
            refine ⟨j + 1, _, by omega, by go_num, ho5.stored j _, hbi5.setCell (p := ⟨wo.heap.size, j, none⟩) (Nat.le_refl _) _, Lib.hid fun t ht => ?_⟩
            by_cases e : t = j
            · subst e
              rw [List.getElem?_set_self hyl]
              simp [ss_, List.getElem?_eq_getElem hjp, HX.out]
            · rw [List.getElem?_set_ne (fun h => e h.symm)]
              exact hdi.out t (by omega)
          case measure => simp [intOf]; omega
        · have hrow := own_full hoi (l := ss_ (p.map textL)) (by simp [ss_, HM.out]) (fun t ht => hdi.out t (by omega))
          have hJ := Lib.hid (join_part p)
          have hlen := partL_len p HPO.out
          rw [HM.out] at hlen
          have hml := Lib.hid (show (p.map textL).length = m by rw [List.length_map]; exact HM.out)
          go_wp2_with fail
          refine (join_any (some ⟨wo.heap.size, 0, none⟩) m m (p.map textL) [58] (partL p) _ hml.out hJ.out (by omega) (Nat.le_refl _) (by omega) hrow).mono ?_
          rintro e w5 ⟨rfl, hb5⟩
          have hbi5 : Below wo.heap.size wo w5 := hbi.trans (hb5.mono hbi.size)
          have ho5 := ho.behind hbi5
          have hxl : k < xs.length := by have := ho.1; omega
          have hd1 := ho5.cellAt k hxl
          have hd2 := ho5.frozenAt k hxl
          have hb5' : Below w.heap.size w w5 := hb.trans (hbi5.mono hb.size)
          clear hb5 hrow
          go_wp2_with fail
          go_roundw
          case rel =>
            refine ⟨k + 1, _, by omega, by go_num, ho5.stored k _, hb5'.setCell (p := ⟨w.heap.size, k, none⟩) (Nat.le_refl _) _, Lib.hid fun t ht => ?_⟩
            by_cases e : t = k
            · subst e
              rw [List.getElem?_set_self hxl]
              simp [ss_, List.getElem?_eq_getElem hkn, HPP.out]
            · rw [List.getElem?_set_ne (fun h => e h.symm)]
              exact hdone.out t (by omega)
          case measure => simp [intOf]; omega
    · have hrow := own_full ho (l := ss_ (ps.map partL)) (by simp [ss_, HN.out]) (fun t ht => hdone.out t (by omega))
      have hJ := Lib.hid (join_par ps)
      have hlen := parL_len ps HP8.out
      rw [HN.out] at hlen
      have hml := Lib.hid (show (ps.map partL).length = n by rw [List.length_map]; exact HN.out)
      go_wp2_with fail
      refine (join_any (some ⟨w.heap.size, 0, none⟩) n n (ps.map partL) [59] (parL ps) _ hml.out hJ.out (by omega) (Nat.le_refl _) (by omega) hrow).mono ?_
      rintro e w5 ⟨rfl, hb5⟩
      go_wp2_with fail
      go_ret
      exact ⟨rfl, hb.trans (hb5.mono hb.size)⟩
end Go.Proofs.YtbjmfhcgkpjcfaaGreatDoor
namespace Go.Proofs.YtbjmfhcgkpjcfaaGreatDoor
open Go.RowKit Go.Shelf
attribute [local go_sem] Oper.semAt_some

theorem Siz.low {n₁ : Nat} {w w' : World} (h : Siz w) (h0 : 1 < n₁) (hb : Below n₁ w w') : Siz w' := by
  obtain ⟨t, fz, hh⟩ := h
  exact ⟨t, fz, (hb.block _ h0).trans hh⟩
/-- What a round that goes on keeps: all below a block, and one block. -/
def Kp2 (n₁ B : Nat) (w w' : World) : Prop := Below n₁ w w' ∧ w'.heap[B]? = w.heap[B]?

theorem take_tup (A : Option Addr) (n c : Nat) (l : List UInt8) (r : Int) (m : Nat) (w : World) (hn : l.length = n) (h : takeL l = (r, m)) (hs : Siz w) (hl : l.length ≤ 4294967296) (hlc : n ≤ c) (hr : Rd w A (bs l)) :
    Calls Tryz.prog 71 #[.slice A n c] w fun e w' => e = .returned (.tuple #[.int .i64 r, .int .i64 m]) ∧ Below w.heap.size w w' := by
  subst hn
  refine (take_any A c l w hs hl hlc hr).mono ?_
  rintro e w' ⟨rfl, hb⟩
  exact ⟨by unfold Tk; rw [h], hb⟩
theorem below_grown0 {w w' : World} (h : Below w.heap.size w w') : w.grownBy w' none := ⟨h.os, h.tape, h.output, h.size, fun k hk _ => h.block k hk⟩

set_option maxRecDepth 100000 in
set_option maxHeartbeats 2000000 in
theorem points_any (A : Option Addr) (n c : Nat) (w : World) : Calls Tryz.prog 58 #[.slice A n c] w fun e w' => e = .returned (.func (.func 70) #[] #[.pointer (some ⟨w.heap.size, 0, none⟩)]) ∧ w' = w.alloc (.cells #[.slice A n c] 27) := by
  go_enter Tryz.func58, Tryz.ntmps58
  go_wp2
  go_ret
  exact ⟨rfl, rfl⟩

set_option maxRecDepth 100000 in
set_option maxHeartbeats 2000000 in
theorem pts1_in (n : Nat) (hn : 1 ≤ n) (l Bs n₁ B0 c : Nat) (A : Option Addr) (t : List UInt8) (ht : t.length ≤ 4294967296) (htc : t.length ≤ c) (hg0 : 1 < n₁) (J Jx : List (Int × Bool) → World → Prop) (hJ : AbidesFrom B0 J)
    (hY : ∀ pre x W, J pre W → pre.length < (ptsL t).length → YieldAt Fence.wide (n - 1) Tryz.prog l #[.int .i64 x.1, .bool x.2] W fun e W' =>
      (e = .returned (.bool true) ∧ J (pre ++ [x]) W' ∧ Kp2 n₁ Bs W W') ∨ (e = .returned (.bool false) ∧ Jx (pre ++ [x]) W'))
    (W : World) (hbox : Blk W Bs 27 #[.slice A t.length c]) (hs : Siz W) (hr : RdIn n₁ W A (bs t)) (hn₁ : n₁ ≤ W.heap.size) (h0 : J [] W) :
    CallsIn Fence.wide n Tryz.prog 70 #[.func (.yield l) #[] #[], .pointer (some ⟨Bs, 0, none⟩)] W fun e W' => (∃ v, e = .returned v) ∧
      ((∃ ys, ys = ptsL t ∧ J ys W') ∨ (∃ pre, pre <+: ptsL t ∧ Jx pre W')) := by
  refine callsIn_of_wp Tryz.func70 rfl trivial ?_ rfl
  simp only [Tryz.ntmps70, List.size_toArray, List.length_cons, List.length_nil, Nat.reduceAdd, Nat.reduceSub, Array.replicate_succ, Array.replicate_zero, List.push_toArray, List.append_toArray, List.nil_append, List.cons_append]
  gi_wp2
  gi_loopw [3] (fun i wr => ∃ (k : Nat) (pre : List (Int × Bool)), k ≤ t.length ∧ i = .int .i64 k ∧ pre ++ ptsL (t.drop k) = ptsL t ∧ J pre wr ∧ Blk wr Bs 27 #[.slice A t.length c] ∧ Siz wr ∧ RdIn n₁ wr A (bs t) ∧ n₁ ≤ wr.heap.size) (fun i _ => t.length - (intOf i).toNat)
  case atStart => exact ⟨0, [], Nat.zero_le _, rfl, rfl, h0, hbox, hs, hr, hn₁⟩
  case round =>
    obtain ⟨k, pre, hk, rfl, hpre, hJs, hbx, hsz, hrd, hnw⟩ := hrel
    have HP := Lib.hid hpre
    clear hpre
    have hcb := hbx.cell 0
    by_cases hlt : k < t.length
    · obtain ⟨b, o, rfl, hb, hcc⟩ := hrd (by rw [bs_length]; omega)
      have hdr := hrd.drop k hlt
      clear hcc
      have k0 : (0 : Int) ≤ (k : Int) := by omega
      have k1 : (k : Int) ≤ (t.length : Int) := by omega
      have hlen := Lib.hid (show (t.drop k).length = t.length - k from List.length_drop)
      have hld : (t.drop k).length ≤ 4294967296 := by rw [List.length_drop]; omega
      by_cases hz : (takeL (t.drop k)).2 = 0
      · have E := Lib.hid (take_zero hz)
        have PN := Lib.hid (show ptsL (t.drop k) = [(0, false)] from ptsL_no (by rw [List.length_drop]; omega) hz)
        have hlt2 : pre.length < (ptsL t).length := by rw [← HP.out, PN.out]; simp
        have PE := Lib.hid (show pre ++ [(0, false)] = ptsL t by rw [← HP.out, PN.out])
        clear hz
        gi_wp2_with fail
        refine ⟨trivial, ?_⟩
        gi_at_call 71
        refine (callsIn_wide.2 (take_tup _ _ _ (t.drop k) 0 0 _ hlen.out E.out hsz hld (by omega) hdr)).mono ?_
        rintro e w2 ⟨rfl, hb2⟩
        have hJ2 : J pre w2 := hJ _ _ _ none hJs (below_grown0 hb2) (fun r e => by cases e)
        clear hb2
        obtain ⟨fn, tmps, assign, body, hy, hR⟩ := hY pre (0, false) w2 hJ2 hlt2
        dsimp only at hy
        gi_wp2
        refine hR.mono ?_
        rintro e W3 (⟨rfl, hJ3, hk3⟩ | ⟨rfl, hJx3⟩)
        · gi_wp2
          refine bodyPost_ret (results_none rfl _ _ _) rfl ?_
          exact ⟨⟨_, rfl⟩, .inl ⟨_, PE.out, hJ3⟩⟩
        · gi_wp2
          refine bodyPost_ret (results_none rfl _ _ _) rfl ?_
          exact ⟨⟨_, rfl⟩, .inr ⟨_, ⟨[], by rw [List.append_nil]; exact PE.out⟩, hJx3⟩⟩
      · have PY := Lib.hid (ptsL_yes hz)
        have hle := (take_snd_le (t.drop k)).1
        obtain ⟨r, hr1⟩ : ∃ r, (takeL (t.drop k)).1 = r := ⟨_, rfl⟩
        obtain ⟨m, hm1⟩ : ∃ m, (takeL (t.drop k)).2 = m := ⟨_, rfl⟩
        have E := Lib.hid (show takeL (t.drop k) = (r, m) by rw [← hr1, ← hm1])
        rw [hm1, List.length_drop] at hle
        rw [hm1] at hz
        have m0 : (0 : Int) < (m : Int) := by omega
        have m2 : 0 < m := by omega
        have m3 : decide (0 < m) = true := decide_eq_true m2
        have m4 : decide ((0 : Int) < (m : Int)) = true := decide_eq_true m0
        have m1 : ((m : Int) == 0) = false := beq_false_of_ne (by omega)
        have PD := Lib.hid (show ptsL (t.drop k) = (r, true) :: ptsL (t.drop (k + m)) by rw [PY.out, hr1, hm1, List.drop_drop])
        have hlt2 : pre.length < (ptsL t).length := by rw [← HP.out, PD.out]; simp
        have PE := Lib.hid (show (pre ++ [(r, true)]) ++ ptsL (t.drop (k + m)) = ptsL t by rw [← HP.out, PD.out]; simp)
        clear hr1 hm1 PY
        gi_wp2_with fail
        refine ⟨trivial, ?_⟩
        gi_at_call 71
        refine (callsIn_wide.2 (take_tup _ _ _ (t.drop k) r m _ hlen.out E.out hsz hld (by omega) hdr)).mono ?_
        rintro e w2 ⟨rfl, hb2⟩
        have hJ2 : J pre w2 := hJ _ _ _ none hJs (below_grown0 hb2) (fun r e => by cases e)
        have hbx2 := hbx.below hb2 hbx.lt
        have hsz2 := hsz.below' hb2
        have hrd2 := hrd.below (hb2.mono hnw)
        have hnw2 := Nat.le_trans hnw hb2.size
        clear hb2
        obtain ⟨fn, tmps, assign, body, hy, hR⟩ := hY pre (r, true) w2 hJ2 hlt2
        dsimp only at hy
        gi_wp2
        refine hR.mono ?_
        rintro e W3 (⟨rfl, hJ3, hk3⟩ | ⟨rfl, hJx3⟩)
        · gi_wp2
          go_roundw
          case rel => exact ⟨k + m, _, by omega, by go_num, PE.out, hJ3, hk3.2.trans hbx2, hsz2.low hg0 hk3.1, hrd2.below hk3.1, Nat.le_trans hnw2 hk3.1.size⟩
          case measure => simp [intOf]; omega
        · gi_wp2
          refine bodyPost_ret (results_none rfl _ _ _) rfl ?_
          exact ⟨⟨_, rfl⟩, .inr ⟨_, ⟨_, PE.out⟩, hJx3⟩⟩
    · have hke : k = t.length := by omega
      have PE := Lib.hid (show pre = ptsL t by
        have h1 := HP.out
        rw [hke, List.drop_length] at h1
        rw [← h1]; show pre = pre ++ []; simp)
      clear hke
      gi_wp2
      go_end0
      exact ⟨⟨_, rfl⟩, .inl ⟨_, PE.out, hJs⟩⟩
end Go.Proofs.YtbjmfhcgkpjcfaaGreatDoor
