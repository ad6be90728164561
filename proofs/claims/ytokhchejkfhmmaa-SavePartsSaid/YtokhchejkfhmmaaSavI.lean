/-
  Layer 7, walked: the places of modes that may be set, one after the other, for every loop that ranges over them.
-/
import Derived.RangeFuncNested
import Derived.RangeFuncBound
import Derived.RangeFuncCalls
import Derived.RangeFuncLeaves
import Derived.RangeFuncBox
import Derived.Shelf.Abstract
import Derived.Shelf.RegionOpen
import Derived.WalkKit
import Derived.OwnWalkIn
import Derived.TacticsInMore
import Derived.LoopNIn
import Derived.LoopIn
import Derived.Shelf.Slices.SearchI
import Derived.Test.YtokhchejkfhmmaaSavM
import Derived.Test.YtokhchejkfhmmaaModO
import Derived.Test.YtokhchejkfhmmaaSep
namespace Go.Proofs.Ytokhchejkfhmmaa
open Go.RowKit Go.Shelf
attribute [local go_sem] Oper.semAt_some

/-- What a round that goes on keeps: all blocks of cells but those of X. -/
def KpX (X : Nat → Prop) (W W' : World) : Prop := W.heap.size ≤ W'.heap.size ∧ ∀ k o, W.heap[k]? = some o → o.isCells = true → ¬ X k → W'.heap[k]? = some o
section
variable {X : Nat → Prop} {W W' W'' : World} {A : Option Addr} {xs : List Value}
theorem KpX.refl (X : Nat → Prop) (W : World) : KpX X W W := ⟨Nat.le_refl _, fun _ _ h _ _ => h⟩
theorem KpX.trans (h : KpX X W W') (k : KpX X W' W'') : KpX X W W'' := ⟨Nat.le_trans h.1 k.1, fun i o hi ho hx => k.2 i o (h.2 i o hi ho hx) ho hx⟩
theorem KpX.put (X : Nat → Prop) (W : World) (l : Nat) (o o' : Obj) (h : W.heap[l]? = some o) (hc : o.isCells = false) : KpX X W (W.putObj l o') :=
  ⟨by simp, fun k u hk hu _ => by
    by_cases e : k = l
    · subst e
      rw [h] at hk
      cases hk
      rw [hc] at hu
      cases hu
    · exact (World.putObj_heap_other e).trans hk⟩
theorem KpX.of_below (h : Below W.heap.size W W') : KpX X W W' := ⟨h.size, fun k _ hk _ _ => (h.block k (Array.getElem?_eq_some_iff.1 hk).1).trans hk⟩
theorem KpX.set (h : KpX X W W') {a : Addr} (ha : X a.block) (v : Value) : KpX X W (W'.setCell a v) :=
  ⟨by simpa [World.setCell] using h.1, fun k o hk ho hx => (Below.heap_setCell W' a v k (fun e => hx (by rw [e]; exact ha))).trans (h.2 k o hk ho hx)⟩
theorem cells_is {w : World} {a : Addr} {v : Value} (h : w.cell? a = some v) : ∃ o : Obj, w.heap[a.block]? = some o ∧ o.isCells = true := cells_of_cell h
theorem RdOff.kpx (h : RdOff W X A xs) (hk : KpX X W W') : RdOff W' X A xs := fun hp => by
  obtain ⟨b, o, rfl, hb, hn, hc⟩ := h hp
  obtain ⟨ob, h1, h2⟩ := cells_is (hc 0 _ (List.getElem?_eq_getElem hp))
  refine ⟨b, o, rfl, Nat.lt_of_lt_of_le hb hk.1, hn, fun k u hu => (World.cell?_of_block (w := W) (a := ⟨b, o + k, none⟩) ?_).trans (hc k u hu)⟩
  exact (hk.2 b ob h1 h2 hn).trans h1.symm
theorem RdOff.below' (h : RdOff W X A xs) (hb : Below W.heap.size W W') : RdOff W' X A xs := h.fr (Fr.of_below hb X) (Wid.refl _ _)
theorem Blk.kpx {g : Nat} {t : TypeId} {cs : Array Value} (h : Blk W g t cs) (hk : KpX X W W') (hn : ¬ X g) : Blk W' g t cs := hk.2 g _ h rfl hn
end
theorem Rd.off {w : World} {X : Nat → Prop} {g o : Nat} {xs : List Value} (h : Rd w (some ⟨g, o, none⟩) xs) (hn : ¬ X g) : RdOff w X (some ⟨g, o, none⟩) xs := fun hp => by
  obtain ⟨b, o', hA, hb, hc⟩ := h hp
  simp only [Option.some.injEq, Addr.mk.injEq, and_true] at hA
  obtain ⟨rfl, rfl⟩ := hA
  exact ⟨g, o, rfl, hb, hn, hc⟩
/-- A mode that may be set. -/
abbrev PN : Type := {n : Int // canM true n = true}
/-- The modes that may be set, of a list. -/
def prs (t : List Int) : List PN := t.filterMap fun n => if h : canM true n = true then some ⟨n, h⟩ else none
theorem prs_cons_yes {x : Int} {t : List Int} (h : canM true x = true) : prs (x :: t) = ⟨x, h⟩ :: prs t := by simp [prs, h]
theorem prs_cons_no {x : Int} {t : List Int} (h : canM true x = false) : prs (x :: t) = prs t := by simp [prs, h]
theorem prs_le (t : List Int) : (prs t).length ≤ t.length := List.length_filterMap_le _ t
theorem pn_in (x : PN) : inI x.1 := by
  have hx : x.1 ∈ ownM := by
    have := x.2
    rw [can_own, List.contains_iff_mem] at this
    exact this
  simp only [ownM, List.mem_cons, List.mem_nil_iff, or_false] at hx
  constructor <;> omega
theorem count_place {x : Int} (h : canM true x = true) : ownM.countP (· < x) = placeN x := by
  have hx : x ∈ ownM := by
    rw [can_own, List.contains_iff_mem] at h
    exact h
  simp only [ownM, List.mem_cons, List.mem_nil_iff, or_false] at hx
  rcases hx with rfl | rfl | rfl | rfl | rfl | rfl | rfl | rfl | rfl | rfl | rfl | rfl <;> decide
theorem below_grownN {w w' : World} (h : Below w.heap.size w w') : w.grownBy w' none := ⟨h.os, h.tape, h.output, h.size, fun k hk _ => h.block k hk⟩
/-- The library's search in the list of modes. -/
theorem search_at (A : Option Addr) (c : Nat) (x : Int) (w : World) (hr : Rd w A (is_ ownM)) (v : Bool) (hv : canM true x = v) :
    Calls Try.prog 30 #[.slice A 12 c, .int .i64 x] w fun e w' => e = .returned (.tuple #[.int .i64 ((ownM.countP (· < x) : Nat) : Int), .bool v]) ∧ ∃ q, w' = w.drewN q := by
  subst hv
  obtain ⟨b, o, rfl, _, hc⟩ := hr (by decide)
  have := Any.slices_BinarySearch_int Try.searchA b o 12 c ownM x w (by decide) (by decide) (fun j hj => by
    rw [hc j (.int .i64 (ownM.getD j 0)) (by
      have hj' : j < ownM.length := hj
      simp [is_, List.getD_eq_getElem?_getD, hj'])]) (by decide)
  rw [show ownM.take 12 = ownM from rfl] at this
  rw [can_own]
  exact this
set_option maxRecDepth 100000 in
set_option maxHeartbeats 2000000 in
theorem places_any (A : Option Addr) (n c : Nat) (w : World) : Calls Try.prog 18 #[.slice A n c] w fun e w' => e = .returned (.func (.func 29) #[] #[.pointer (some ⟨w.heap.size, 0, none⟩)]) ∧ w' = w.alloc (.cells #[.slice A n c] 26) := by
  go_enter Try.func18, Try.ntmps18
  go_wp2
  go_ret
  exact ⟨rfl, rfl⟩
theorem RdOff.int_at {w : World} {X : Nat → Prop} {A : Option Addr} {l : List Int} (h : RdOff w X A (is_ l)) (hp : 0 < l.length) :
    ∃ b o, A = some ⟨b, o, none⟩ ∧ ∀ k (hk : k < l.length), w.cell? ⟨b, o + k, none⟩ = some (.int .i64 l[k]) := by
  obtain ⟨b, o, rfl, _, _, hc⟩ := h (by simpa [is_] using hp)
  exact ⟨b, o, rfl, fun k hk => hc k _ (by simp [is_, hk])⟩
set_option maxRecDepth 100000 in
set_option maxHeartbeats 4000000 in
theorem pl1_in (n : Nat) (hn : 1 ≤ n) (l Bs B0 c m : Nat) (A : Option Addr) (t : List Int) (hm : t.length = m) (ht : m ≤ 4294967296) (X : Nat → Prop) (hXs : ¬ X Bs) (J Jx : List PN → World → Prop) (hJ : AbidesFrom B0 J)
    (hY : ∀ pre x W, J pre W → pre.length < (prs t).length → YieldAt Fence.wide (n - 1) Try.prog l #[.int .i64 (placeN x.1 : Int), .int .i64 x.1] W fun e W' =>
      (e = .returned (.bool true) ∧ J (pre ++ [x]) W' ∧ KpX X W W') ∨ (e = .returned (.bool false) ∧ Jx (pre ++ [x]) W'))
    (W : World) (hXW : ∀ k, X k → k < W.heap.size) (hbox : Blk W Bs 26 #[.slice A m c]) (hr : RdOff W X A (is_ t)) (h0 : J [] W) :
    CallsIn Fence.wide n Try.prog 29 #[.func (.yield l) #[] #[], .pointer (some ⟨Bs, 0, none⟩)] W fun e W' => (∃ v, e = .returned v) ∧
      ((∃ ys, ys = prs t ∧ J ys W') ∨ (∃ pre, pre <+: prs t ∧ Jx pre W')) := by
  refine callsIn_of_wp Try.func29 rfl trivial ?_ rfl
  simp only [Try.ntmps29, List.size_toArray, List.length_cons, List.length_nil, Nat.reduceAdd, Nat.reduceSub, Array.replicate_succ, Array.replicate_zero, List.push_toArray, List.append_toArray, List.nil_append, List.cons_append]
  have HM := Lib.hid hm
  clear hm
  gi_wp2_with fail
  refine ⟨trivial, ?_⟩
  gi_at_call 17
  refine (callsIn_wide.2 (pown_new W)).mono ?_
  rintro e w1 ⟨g, cap, rfl, hg, hro, hb1⟩
  have hro1 : RdOff w1 X (some ⟨g, 0, none⟩) (is_ ownM) := hro.off (fun hx => by have := hXW g hx; omega)
  have hJ1 : J [] w1 := hJ _ _ _ none h0 (below_grownN hb1) (fun r e => by cases e)
  have hbx1 := hbox.below hb1 hbox.lt
  have hr1 := hr.below' hb1
  have hcb1 := hbx1.cell 0
  clear hro hb1 hbox hr h0 hg hXW
  gi_wp2
  gi_loopw [11] (fun i wr => ∃ (k : Nat) (pre : List PN), k ≤ m ∧ i = .int .i64 k ∧ pre ++ prs (t.drop k) = prs t ∧ J pre wr ∧ Blk wr Bs 26 #[.slice A m c] ∧ RdOff wr X A (is_ t) ∧ RdOff wr X (some ⟨g, 0, none⟩) (is_ ownM)) (fun i _ => m - (intOf i).toNat)
  case atStart => exact ⟨0, [], Nat.zero_le _, rfl, rfl, hJ1, hbx1, hr1, hro1⟩
  case round =>
    clear hJ1 hbx1 hr1 hro1 hcb1
    obtain ⟨k, pre, hk, rfl, hpre, hJs, hbx, hrd, hrw⟩ := hrel
    have HP := Lib.hid hpre
    clear hpre
    by_cases hlt : k < m
    · have hkl : k < t.length := by rw [HM.out]; exact hlt
      obtain ⟨b, o, rfl, hcc⟩ := hrd.int_at (by omega)
      obtain ⟨x, hx⟩ : ∃ x, t[k]'hkl = x := ⟨_, rfl⟩
      have hck := hcc k hkl
      rw [hx] at hck
      have HD := Lib.hid (show t.drop k = x :: t.drop (k + 1) by rw [← hx]; exact List.drop_eq_getElem_cons hkl)
      clear hcc hx hkl
      have k0 : (0 : Int) ≤ (k : Int) := by omega
      have k1 : (k : Int) < (m : Int) := by omega
      obtain ⟨v, hv⟩ : ∃ v, canM true x = v := ⟨_, rfl⟩
      have HV := Lib.hid hv
      clear hv
      obtain ⟨p, hp⟩ : ∃ p, ownM.countP (· < x) = p := ⟨_, rfl⟩
      have HC := Lib.hid hp
      clear hp
      gi_wp2_with fail
      refine ⟨trivial, ?_⟩
      gi_at_call 30
      refine (callsIn_wide.2 (search_at (some ⟨g, 0, none⟩) cap x _ hrw.rd v HV.out)).mono ?_
      rw [HC.out]
      rintro e w2 ⟨rfl, q, rfl⟩
      have hJ2 : J pre (wr.drewN q) := hJ _ _ _ none hJs (below_grownN (below_drewN (Below.refl _ _) q)) (fun r e => by cases e)
      have hbx2 := hbx.drewN q
      have hrd2 : RdOff (wr.drewN q) X (some ⟨b, o, none⟩) (is_ t) := hrd
      have hrw2 : RdOff (wr.drewN q) X (some ⟨g, 0, none⟩) (is_ ownM) := hrw
      clear hJs hbx hrd hrw
      cases v with
      | false =>
        have PE := Lib.hid (show pre ++ prs (t.drop (k + 1)) = prs t by
          have h1 := HP.out
          rw [HD.out, prs_cons_no HV.out] at h1
          exact h1)
        gi_wp2
        refine ⟨(fun _ h => by cases h), ?_⟩
        gi_wp2
        go_roundw
        case rel => exact ⟨k + 1, pre, by omega, by go_num, PE.out, hJ2, hbx2, hrd2, hrw2⟩
        case measure => simp [intOf]; omega
      | true =>
        have HCP := Lib.hid (show p = placeN x by rw [← HC.out]; exact count_place HV.out)
        have PD := Lib.hid (show prs (t.drop k) = ⟨x, HV.out⟩ :: prs (t.drop (k + 1)) by rw [HD.out, prs_cons_yes HV.out])
        have hlt2 : pre.length < (prs t).length := by rw [← HP.out, PD.out]; simp
        have PE := Lib.hid (show (pre ++ [⟨x, HV.out⟩]) ++ prs (t.drop (k + 1)) = prs t by rw [← HP.out, PD.out]; simp)
        obtain ⟨fn, tmps, assign, body, hy, hR⟩ := hY pre ⟨x, HV.out⟩ (wr.drewN q) hJ2 hlt2
        dsimp only at hy
        rw [← HCP.out] at hy
        clear hlt2
        gi_wp2
        refine hR.mono ?_
        rintro e W3 (⟨rfl, hJ3, hk3⟩ | ⟨rfl, hJx3⟩)
        · gi_wp2
          go_roundw
          case rel => exact ⟨k + 1, _, by omega, by go_num, PE.out, hJ3, hbx2.kpx hk3 hXs, hrd2.kpx hk3, hrw2.kpx hk3⟩
          case measure => simp [intOf]; omega
        · gi_wp2
          refine bodyPost_ret (results_none rfl _ _ _) rfl ?_
          exact ⟨⟨_, rfl⟩, .inr ⟨_, ⟨_, PE.out⟩, hJx3⟩⟩
    · have PE := Lib.hid (show pre = prs t by
        have h1 := HP.out
        rw [show k = t.length by rw [HM.out]; omega, List.drop_length] at h1
        rw [← h1]; show pre = pre ++ []; simp)
      have k1 : (m : Int) ≤ (k : Int) := by omega
      gi_wp2
      go_end0
      exact ⟨⟨_, rfl⟩, .inl ⟨_, PE.out, hJs⟩⟩
/-- What places tells is told to every loop. -/
theorem pl_stops (n : Nat) (hn : 1 ≤ n) (Bs c m : Nat) (A : Option Addr) (t : List Int) (hm : t.length = m) (ht : m ≤ 4294967296) (X : Nat → Prop) (hXs : ¬ X Bs) (w : World) (hXw : ∀ k, X k → k < w.heap.size)
    (hbox : Blk w Bs 26 #[.slice A m c]) (hr : RdOff w X A (is_ t)) :
    SeqStopsK Fence.wide n Try.prog 29 #[.pointer (some ⟨Bs, 0, none⟩)] (fun x : PN => #[.int .i64 (placeN x.1 : Int), .int .i64 x.1]) (KpX X) (fun ys => ys = prs t) (fun pre => pre <+: prs t) (prs t).length w := fun l J Jx W hW hJ _ hY h0 =>
  pl1_in n hn l Bs W.heap.size c m A t hm ht X hXs J Jx hJ hY W (fun k hk => Nat.lt_of_lt_of_le (hXw k hk) hW.size) (hbox.below hW hbox.lt) (hr.below' hW) h0
end Go.Proofs.Ytokhchejkfhmmaa
