/-
  Stage 17, the landed paste, walked: the pieces that a function tells, one after the other, for every loop that ranges over it.
-/
import Derived.Test.YtgaoijinchakoaaDoorG03
import Derived.Test.YtgaoijinchakoaaDoorG25
namespace Go.Proofs.YtgaoijinchakoaaDoor
open Go.RowKit Go.Shelf
section
attribute [local go_sem] Oper.semAt_some
structure PcT (t : List UInt8) where
 v : Int × Nat × Nat
 h : v ∈ pcL t
set_option maxRecDepth 100000 in
set_option maxHeartbeats 2000000 in
theorem ppoints_any (A : Option Addr) (n c : Nat) (w : World) : Calls Tryd.prog 21 #[.slice A n c] w fun e w' => e = .returned (.func (.func 34) #[] #[.pointer (some ⟨w.heap.size, 0, none⟩)]) ∧ w' = w.alloc (.cells #[.slice A n c] 24) := by
 go_enter Tryd.func21, Tryd.ntmps21
 go_wp2
 go_ret
 exact ⟨rfl, rfl⟩
def pcV (b o c : Nat) (x : Int × Nat × Nat) : Array Value := #[.int .i64 x.1, .slice (some ⟨b, o + x.2.1, none⟩) x.2.2 (c - x.2.1)]
set_option maxRecDepth 100000 in
set_option maxHeartbeats 4000000 in
theorem pcs1_in (n : Nat) (hn : 1 ≤ n) (l Bs n₁ B0 c b o : Nat) (A : Option Addr) (t : List UInt8) (hA : 0 < t.length → A = some ⟨b, o, none⟩) (ht : t.length ≤ 4294967296) (htc : t.length ≤ c) (hg0 : 0 < n₁) (J Jx : List (PcT t) → World → Prop) (hJ : AbidesFrom B0 J)
 (hY : ∀ pre (x : PcT t) W, J pre W → pre.length < (pcL t).length → YieldAt Fence.wide (n - 1) Tryd.prog l (pcV b o c x.v) W fun e W' =>
   (e = .returned (.bool true) ∧ J (pre ++ [x]) W' ∧ Kp2 n₁ Bs W W') ∨ (e = .returned (.bool false) ∧ Jx (pre ++ [x]) W'))
 (W : World) (hbox : Blk W Bs 24 #[.slice A t.length c]) (hs : Siz W) (hr : RdIn n₁ W A (bs t)) (hn₁ : n₁ ≤ W.heap.size) (h0 : J [] W) :
 CallsIn Fence.wide n Tryd.prog 34 #[.func (.yield l) #[] #[], .pointer (some ⟨Bs, 0, none⟩)] W fun e W' => (∃ v, e = .returned v) ∧
  ((∃ ys : List (PcT t), ys.map PcT.v = pcL t ∧ J ys W') ∨ (∃ pre : List (PcT t), pre.map PcT.v <+: pcL t ∧ Jx pre W')) := by
 refine callsIn_of_wp Tryd.func34 rfl trivial ?_ rfl
 simp only [Tryd.ntmps34, List.size_toArray, List.length_cons, List.length_nil, Nat.reduceAdd, Nat.reduceSub, Array.replicate_succ, Array.replicate_zero, List.push_toArray, List.append_toArray, List.nil_append, List.cons_append]
 gi_wp2
 gi_loopw [3] (fun i wr => ∃ (k : Nat) (pre : List (PcT t)), k ≤ t.length ∧ i = .int .i64 k ∧ pre.map PcT.v ++ pcA t k = pcL t ∧ J pre wr ∧ Blk wr Bs 24 #[.slice A t.length c] ∧ Siz wr ∧ RdIn n₁ wr A (bs t) ∧ n₁ ≤ wr.heap.size) (fun i _ => t.length - (intOf i).toNat)
 case atStart => exact ⟨0, [], Nat.zero_le _, rfl, rfl, h0, hbox, hs, hr, hn₁⟩
 case round =>
  obtain ⟨k, pre, hk, rfl, hpre, hJs, hbx, hsz, hrd, hnw⟩ := hrel
  have HP := Lib.hid hpre
  clear hpre
  have hcb := hbx.cell 0
  by_cases hlt : k < t.length
  ·obtain rfl := hA (by omega)
   have hdr := hrd.drop k hlt
   have k0 : (0 : Int) ≤ (k : Int) := by omega
   have k1 : (k : Int) ≤ (t.length : Int) := by omega
   have hlen := Lib.hid (show (t.drop k).length = t.length - k from List.length_drop)
   have hld : (t.drop k).length ≤ 4294967296 := by rw [List.length_drop]; omega
   obtain ⟨x1, x2, x3⟩ := pcX_len t hlt
   have hst := pcA_step t hlt
   obtain ⟨r, hr1⟩ : ∃ r, (pcX t k).1 = r := ⟨_, rfl⟩
   obtain ⟨m, hm1⟩ : ∃ m, (pcX t k).2.2 = m := ⟨_, rfl⟩
   have hx : pcX t k = ((pcX t k).1, k, (pcX t k).2.2) := Prod.ext rfl (Prod.ext x3 rfl)
   rw [hr1, hm1] at hx
   rw [hm1] at x1 x2
   rw [hx] at hst
   simp only at hst
   have hmem : (r, k, m) ∈ pcL t := by rw [← HP.out, hst]; simp
   have hlt2 : pre.length < (pcL t).length := by rw [← HP.out, hst, List.length_append, List.length_map, List.length_cons]; omega
   have PE := Lib.hid (show (pre ++ [(⟨(r, k, m), hmem⟩ : PcT t)]).map PcT.v ++ pcA t (k + m) = pcL t by rw [← HP.out, hst, List.map_append]; simp)
   have k2 : (k : Int) ≤ ((k + m : Nat) : Int) := by omega
   have k3 : ((k + m : Nat) : Int) ≤ (c : Int) := by omega
   have hw : IntKind.i64.wrap ((k : Int) + (m : Int)) = ((k + m : Nat) : Int) := by rw [IntKind.wrap_i64]; omega
   by_cases hz : (takeL (t.drop k)).2 = 0
   ·have E := Lib.hid (take_zero hz)
    obtain ⟨rfl, rfl⟩ : r = -1 ∧ m = 1 := by
     unfold pcX at hx
     rw [if_pos hz] at hx
     injection hx with h1 h2
     injection h2 with _ h3
     exact ⟨h1.symm, h3.symm⟩
    clear hz hx hr1 hm1 hst
    gi_wp2_with fail
    refine ⟨trivial, ?_⟩
    gi_at_call 35
    refine (callsIn_wide.2 (take_tup _ _ _ (t.drop k) 0 0 _ hlen.out E.out hsz hld (by omega) hdr)).mono ?_
    rintro e w2 ⟨rfl, hb2⟩
    have hJ2 : J pre w2 := hJ _ _ _ none hJs (below_grown0 hb2) (fun r e => by cases e)
    have hbx2 := hbx.below hb2 hbx.lt
    have hcb2 := hbx2.cell 0
    have hsz2 := hsz.below' hb2
    have hrd2 := hrd.below (hb2.mono hnw)
    have hnw2 := Nat.le_trans hnw hb2.size
    clear hb2 hcb
    obtain ⟨fn, tmps, assign, body, hy, hR⟩ := hY pre ⟨(-1, k, 1), hmem⟩ w2 hJ2 hlt2
    dsimp only [pcV] at hy
    gi_wp2
    refine hR.mono ?_
    rintro e W3 (⟨rfl, hJ3, hk3⟩ | ⟨rfl, hJx3⟩)
    ·gi_wp2
     go_roundw
     case rel => exact ⟨k + 1, _, by omega, by go_num, PE.out, hJ3, hk3.2.trans hbx2, hsz2.low hg0 hk3.1, hrd2.below hk3.1, Nat.le_trans hnw2 hk3.1.size⟩
     case measure => simp [intOf]; omega
    ·gi_wp2
     refine bodyPost_ret (results_none rfl _ _ _) rfl ?_
     exact ⟨⟨_, rfl⟩, .inr ⟨_, ⟨_, PE.out⟩, hJx3⟩⟩
   ·have E := Lib.hid (show takeL (t.drop k) = (r, m) by
     unfold pcX at hx
     rw [if_neg hz] at hx
     injection hx with h1 h2
     injection h2 with _ h3
     rw [← h1, ← h3])
    have m1 : ((m : Int) == 0) = false := beq_false_of_ne (by omega)
    clear hz hx hr1 hm1 hst
    have m9 : ¬ (m = 0) := by omega
    gi_wp2_with fail
    refine ⟨trivial, ?_⟩
    gi_at_call 35
    refine (callsIn_wide.2 (take_tup _ _ _ (t.drop k) r m _ hlen.out E.out hsz hld (by omega) hdr)).mono ?_
    rintro e w2 ⟨rfl, hb2⟩
    have hJ2 : J pre w2 := hJ _ _ _ none hJs (below_grown0 hb2) (fun r e => by cases e)
    have hbx2 := hbx.below hb2 hbx.lt
    have hcb2 := hbx2.cell 0
    have hsz2 := hsz.below' hb2
    have hrd2 := hrd.below (hb2.mono hnw)
    have hnw2 := Nat.le_trans hnw hb2.size
    clear hb2 hcb
    obtain ⟨fn, tmps, assign, body, hy, hR⟩ := hY pre ⟨(r, k, m), hmem⟩ w2 hJ2 hlt2
    dsimp only [pcV] at hy
    gi_wp2
    refine hR.mono ?_
    rintro e W3 (⟨rfl, hJ3, hk3⟩ | ⟨rfl, hJx3⟩)
    ·gi_wp2
     go_roundw
     case rel => exact ⟨k + m, _, by omega, by go_num, PE.out, hJ3, hk3.2.trans hbx2, hsz2.low hg0 hk3.1, hrd2.below hk3.1, Nat.le_trans hnw2 hk3.1.size⟩
     case measure => simp [intOf]; omega
    ·gi_wp2
     refine bodyPost_ret (results_none rfl _ _ _) rfl ?_
     exact ⟨⟨_, rfl⟩, .inr ⟨_, ⟨_, PE.out⟩, hJx3⟩⟩
  ·have hke : k = t.length := by omega
   have PE := Lib.hid (show pre.map PcT.v = pcL t by
    have h1 := HP.out
    rw [pcA_end t (by omega), List.append_nil] at h1
    exact h1)
   clear hke
   gi_wp2
   go_end0
   exact ⟨⟨_, rfl⟩, .inl ⟨_, PE.out, hJs⟩⟩
theorem pcs_stops (n : Nat) (hn : 1 ≤ n) (Bs n₁ c b o : Nat) (A : Option Addr) (t : List UInt8) (hA : 0 < t.length → A = some ⟨b, o, none⟩) (ht : t.length ≤ 4294967296) (htc : t.length ≤ c) (hg0 : 0 < n₁) (w : World) (hn₁ : n₁ ≤ w.heap.size)
 (hbox : Blk w Bs 24 #[.slice A t.length c]) (hs : Siz w) (hr : RdIn n₁ w A (bs t)) :
 SeqStopsK Fence.wide n Tryd.prog 34 #[.pointer (some ⟨Bs, 0, none⟩)] (fun x : PcT t => pcV b o c x.v) (Kp2 n₁ Bs) (fun ys => ys.map PcT.v = pcL t) (fun pre => pre.map PcT.v <+: pcL t) (pcL t).length w := fun l J Jx W hW hJ _ hY h0 =>
 pcs1_in n hn l Bs n₁ W.heap.size c b o A t hA ht htc hg0 J Jx hJ hY W (hbox.below hW hbox.lt) (hs.below' hW) (hr.below (hW.mono hn₁)) (Nat.le_trans hn₁ hW.size) h0
end
end Go.Proofs.YtgaoijinchakoaaDoor
