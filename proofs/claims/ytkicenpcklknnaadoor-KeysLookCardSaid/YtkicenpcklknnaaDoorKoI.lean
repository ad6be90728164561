/-
  Layer 9, the landed keys, walked: the codes of all rows, one after the other, for every loop that ranges over them.
-/
import Derived.Shelf.Abstract
import Derived.Shelf.RegionOpen
import Derived.Test.YtkicenpcklknnaaDoorKoL
namespace Go.Proofs.YtkicenpcklknnaaDoor
open Go.RowKit Go.Shelf
attribute [local go_sem] Oper.semAt_some

def roA (r : Ro) (A : Option Addr) (c : Nat) : Array Value := #[.int .i64 r.first, .int .i64 r.last, .int .i64 r.kind, .string ⟨r.finals.toArray⟩, .slice A r.nums.length c, .string ⟨r.chars.toArray⟩, .bool r.keys]
set_option maxRecDepth 100000 in
set_option maxHeartbeats 4000000 in
theorem codes_in (n : Nat) (hn : 1 ≤ n) (l n₁ B0 : Nat) (X : Nat → Prop) (hX : ∀ k, X k → n₁ ≤ k) (J Jx : List (Int × En) → World → Prop) (hJ : AbidesFrom B0 J)
    (hY : ∀ pre x W, J pre W → pre.length < codesL.length → YieldAt Fence.wide (n - 1) Tryd.prog l #[.int .i64 x.1, enV x.2] W fun e W' =>
      (e = .returned (.bool true) ∧ J (pre ++ [x]) W' ∧ KpX X W W') ∨ (e = .returned (.bool false) ∧ Jx (pre ++ [x]) W'))
    (W : World) (hXW : ∀ k, X k → k < W.heap.size) (hR : RwsIn n₁ W) (hn₁ : n₁ ≤ W.heap.size) (h0 : J [] W) :
    CallsIn Fence.wide n Tryd.prog 21 #[.func (.yield l) #[] #[]] W fun e W' => (∃ v, e = .returned v) ∧
      ((∃ ys, ys = codesL ∧ J ys W') ∨ (∃ pre, pre <+: codesL ∧ Jx pre W')) := by
  refine callsIn_of_wp Tryd.func21 rfl trivial ?_ rfl
  simp only [Tryd.ntmps21, List.size_toArray, List.length_cons, List.length_nil, Nat.reduceAdd, Nat.reduceSub, Array.replicate_succ, Array.replicate_zero, List.push_toArray, List.append_toArray, List.nil_append, List.cons_append]
  obtain ⟨b, o, cp, t, fz, hg, hg0, hb0, hrd⟩ := hR
  have cg := cell_of_row W 0 0 _ t fz hg
  simp only [List.getElem?_toArray, List.getElem?_cons_zero] at cg
  gi_wp2
  gi_loopw [4, 7] (fun j i wr => ∃ (k : Nat) (pre : List (Int × En)), k ≤ 22 ∧ i = .int .i64 k ∧ Hid (pre ++ fromRo (roL.drop k) = codesL) ∧ J pre wr ∧ RdRo n₁ wr b o roL ∧ W.heap.size ≤ wr.heap.size) (fun _ i _ => 22 - (intOf i).toNat)
  case atStart => exact ⟨0, [], by omega, rfl, Lib.hid rfl, h0, hrd, Nat.le_refl _⟩
  case round =>
    clear cg hg hg0 hrd h0
    obtain ⟨k, pre, hk, rfl, HP, hJs, hrd, hsz⟩ := hrel
    by_cases hlt : k < 22
    · obtain ⟨r, hr⟩ : ∃ r, roL[k]'hlt = r := ⟨_, rfl⟩
      obtain ⟨A, cp1, hns, a0, a1, a2, a3, a4, a5, a6⟩ := hrd.at_ hlt hr
      have hx := ro_mem hlt hr
      have hb1 : b < wr.heap.size := Nat.lt_of_lt_of_le hb0 (Nat.le_trans hn₁ hsz)
      have k1 : (k : Int) < 22 := by omega
      have k0 : (0 : Int) ≤ (k : Int) := by omega
      obtain ⟨rest, hrest⟩ : ∃ rest, fromRo (roL.drop (k + 1)) = rest := ⟨_, rfl⟩
      have HD := Lib.hid (show pre ++ (inRow r 0 ++ rest) = codesL by rw [← HP.out, from_drop hlt, hr, hrest])
      have HRest := Lib.hid hrest
      have HBx : ∀ V, V = wr.alloc (.cells (roA r A cp1) 38) → Blk V wr.heap.size 38 (roA r A cp1) ∧ J pre V ∧ RdRo n₁ V b o roL ∧ RdIn n₁ V A (is_ r.nums) ∧ V.heap.size = wr.heap.size + 1 := by
        rintro V rfl
        have hb := (Below.refl wr.heap.size wr).alloc (Nat.le_refl _) (.cells (roA r A cp1) 38)
        have hbn := hb.mono (Nat.le_trans hn₁ hsz)
        exact ⟨Blk.new wr _ _, hJ _ _ _ none hJs (below_grownN hb) (fun r e => by cases e), hrd.below hbn hb0, hns.below hbn, by simp⟩
      have hXb : ¬ X wr.heap.size := fun h => by have := hXW _ h; omega
      clear HP hrest hr
      gi_wp2
      obtain ⟨V, hV⟩ : ∃ V, wr.alloc (.cells (roA r A cp1) 38) = V := ⟨_, rfl⟩
      obtain ⟨v0, v1, v2, v3, v4⟩ := HBx V hV.symm
      unfold roA at hV
      rw [hV]
      clear HBx hV hJs hns hrd a0 a1 a2 a3 a4 a5 a6
      gi_loopw [4] (fun i wi => ∃ (a : Nat) (pre : List (Int × En)), i = .int .i64 (r.first + (a : Int)) ∧ r.first + (a : Int) ≤ r.last + 1 ∧ Hid (pre ++ (inRow r a ++ rest) = codesL) ∧ J pre wi ∧ Blk wi wr.heap.size 38 (roA r A cp1) ∧ RdRo n₁ wi b o roL ∧ RdIn n₁ wi A (is_ r.nums) ∧ wr.heap.size + 1 ≤ wi.heap.size) (fun i _ => (r.last + 1 - intOf i).toNat)
      case atStart => exact ⟨0, pre, by simp, by have := (ro_bd r hx).1; omega, HD, v1, v0, v2, v3, by omega⟩
      case round =>
        clear v0 v1 v2 v3 v4 HD
        obtain ⟨a, pre, rfl, ha, HQ, hJs, hbx, hrd, hns, hsi⟩ := hrel
        unfold roA at hbx
        have c0 := hbx.cell 0
        have c1 := hbx.cell 1
        have c2 := hbx.cell 2
        have c3 := hbx.cell 3
        have c4 := hbx.cell 4
        have c5 := hbx.cell 5
        have c6 := hbx.cell 6
        by_cases hla : r.first + (a : Int) ≤ r.last
        · have HC := Lib.hid (show pre ++ ((r.first + (a : Int), entK r a) :: (inRow r (a + 1) ++ rest)) = codesL by rw [← HQ.out, inRow_cons hla]; rfl)
          have hlt2 : pre.length < codesL.length := by rw [← HC.out]; simp
          have PE := Lib.hid (show (pre ++ [(r.first + (a : Int), entK r a)]) ++ (inRow r (a + 1) ++ rest) = codesL by rw [← HC.out]; simp)
          have hbd := (ro_bd r hx).1
          gi_wp2_with fail
          refine ⟨trivial, ?_⟩
          gi_at_call 15
          refine (callsIn_wide.2 (entry_ro r hx a (r.first + (a : Int)) rfl hla A cp1 _ (hns.rd (by omega)))).mono ?_
          rintro e w2 ⟨rfl, hb2⟩
          have hJ2 : J pre w2 := hJ _ _ _ none hJs (below_grownN hb2) (fun r e => by cases e)
          have hbx2 := hbx.below hb2 hbx.lt
          have hrd2 := hrd.below (hb2.mono (by omega)) hb0
          have hns2 := hns.below (hb2.mono (by omega))
          have hs2 := hb2.size
          clear hb2 hJs hbx hrd hns
          obtain ⟨fn, tmps, assign, body, hy, hR⟩ := hY pre (r.first + (a : Int), entK r a) w2 hJ2 hlt2
          dsimp only at hy
          gi_wp2
          refine hR.mono ?_
          rintro e W3 (⟨rfl, hJ3, hk3⟩ | ⟨rfl, hJx3⟩)
          · gi_wp2
            go_roundw
            case rel => exact ⟨a + 1, _, by go_num, by omega, PE, hJ3, hbx2.kpx hk3 hXb, hrd2.kpx hk3 hX hb0, hns2.kpx hk3 hX, by have := hk3.1; omega⟩
            case measure => simp [intOf]; omega
          · gi_wp2
            refine bodyPost_ret (results_none rfl _ _ _) rfl ?_
            exact ⟨⟨_, rfl⟩, .inr ⟨_, ⟨_, PE.out⟩, hJx3⟩⟩
        · have HP := Lib.hid (show pre ++ fromRo (roL.drop (k + 1)) = codesL by rw [← HQ.out, inRow_nil (by omega), HRest.out]; rfl)
          gi_wp2
          go_roundw
          case rel => exact ⟨k + 1, pre, by omega, by go_num, HP, hJs, hrd, by omega⟩
          case measure => simp [intOf]; omega
    · obtain rfl : k = 22 := by omega
      have PE := Lib.hid (show pre = codesL by rw [← HP.out]; show pre = pre ++ []; simp)
      gi_wp2
      go_end0
      exact ⟨⟨_, rfl⟩, .inl ⟨_, PE.out, hJs⟩⟩
/-- What codes tells is told to every loop. -/
theorem codes_stops (n : Nat) (hn : 1 ≤ n) (n₁ : Nat) (X : Nat → Prop) (hX : ∀ k, X k → n₁ ≤ k) (w : World) (hXw : ∀ k, X k → k < w.heap.size) (hn₁ : n₁ ≤ w.heap.size) (hR : RwsIn n₁ w) :
    SeqStopsK Fence.wide n Tryd.prog 21 #[] (fun x : Int × En => #[.int .i64 x.1, enV x.2]) (KpX X) (fun ys => ys = codesL) (fun pre => pre <+: codesL) codesL.length w := fun l J Jx W hW hJ _ hY h0 =>
  codes_in n hn l n₁ W.heap.size X hX J Jx hJ hY W (fun k hk => Nat.lt_of_lt_of_le (hXw k hk) hW.size) (hR.below (hW.mono hn₁)) (Nat.le_trans hn₁ hW.size) h0
end Go.Proofs.YtkicenpcklknnaaDoor
