/-
  Layer 2, walked: a code point's bytes, laid behind others.
-/
import Derived.Test.YtjlhhelikiegdaaDoorG03
import Derived.Test.YtjlhhelikiegdaaDoorG21
import Derived.Deep.RegionLaw
import Derived.BigRegion
namespace Go.Proofs.YtjlhhelikiegdaaDoor
open Go.RowKit
theorem Tryd.u8info : (Tryd.prog.info? 5).map (fun i => (i.zero, i.size, i.bytes)) = some (some (.int .u8 0), 1, 1) := by kernel_rfl
def wei : Nat → Int
 | 0 => 1
 | k + 1 => wei k * 64
theorem wei_pos (k : Nat) : 1 ≤ wei k := by
 induction k with
 | zero => exact Int.le_refl _
 | succ k ih => unfold wei; omega
theorem wei_le {k : Nat} (h : k ≤ 3) : wei k ≤ 262144 := by
 obtain rfl | rfl | rfl | rfl : k = 0 ∨ k = 1 ∨ k = 2 ∨ k = 3 := by omega
 all_goals simp [wei]
def tailL (r : Int) : Nat → List UInt8
 | 0 => []
 | k + 1 => byt (128 + r / wei k % 64) :: tailL r k
theorem put_split {r : Int} (h : isPt r = true) : ∃ (j : Nat) (least lead : Int), j ≤ 3 ∧ cnt r = j + 1 ∧ szA (ixP r 4) = #[.int .i64 ((j : Int) + 1), .int .i64 least, .int .i64 lead] ∧ 0 ≤ lead ∧ 0 ≤ lead + r / wei j ∧ lead + r / wei j ≤ 255 ∧ 0 ≤ r / wei j ∧ r / wei j ≤ 255 ∧ lead ≤ 240 ∧
 putL r = byt (lead + r / wei j) :: tailL r j := by
 obtain ⟨h0, h1, _⟩ := (isPt_iff r).1 h
 have w0 : wei 0 = 1 := rfl
 have w1 : wei 1 = 64 := rfl
 have w2 : wei 2 = 4096 := rfl
 have w3 : wei 3 = 262144 := rfl
 by_cases a1 : r < 128
 ·refine ⟨0, 0, 0, by omega, by simp [cnt, a1], ?_, by omega, ?_, ?_, ?_, ?_, by omega, ?_⟩
  ·rw [show ixP r 4 = 0 by unfold ixP; (repeat' split) <;> omega]; rfl
  ·rw [w0]; omega
  ·rw [w0]; omega
  ·rw [w0]; omega
  ·rw [w0]; omega
  ·rw [putL_1 h a1, w0, Int.ediv_one, Int.zero_add]; rfl
 ·by_cases a2 : r < 2048
  ·refine ⟨1, 128, 192, by omega, by simp [cnt, a1, a2], ?_, by omega, ?_, ?_, ?_, ?_, by omega, ?_⟩
   ·rw [show ixP r 4 = 1 by unfold ixP; (repeat' split) <;> omega]; rfl
   ·rw [w1]; omega
   ·rw [w1]; omega
   ·rw [w1]; omega
   ·rw [w1]; omega
   ·rw [putL_2 h (by omega) a2, w1]; simp only [tailL, w0, Int.ediv_one]
  ·by_cases a3 : r < 65536
   ·refine ⟨2, 2048, 224, by omega, by simp [cnt, a1, a2, a3], ?_, by omega, ?_, ?_, ?_, ?_, by omega, ?_⟩
    ·rw [show ixP r 4 = 2 by unfold ixP; (repeat' split) <;> omega]; rfl
    ·rw [w2]; omega
    ·rw [w2]; omega
    ·rw [w2]; omega
    ·rw [w2]; omega
    ·rw [putL_3 h (by omega) a3, w2]; simp only [tailL, w0, w1, Int.ediv_one]
   ·refine ⟨3, 65536, 240, by omega, by simp [cnt, a1, a2, a3], ?_, by omega, ?_, ?_, ?_, ?_, by omega, ?_⟩
    ·rw [show ixP r 4 = 3 by unfold ixP; (repeat' split) <;> omega]; rfl
    ·rw [w3]; omega
    ·rw [w3]; omega
    ·rw [w3]; omega
    ·rw [w3]; omega
    ·rw [putL_4 h (by omega), w3]; simp only [tailL, w0, w1, w2, Int.ediv_one]
theorem tail_step (ys : List Value) (r Y : Int) (j : Nat) (h : Y = wei j) : ys ++ bs [byt (128 + r / Y % 64)] ++ bs (tailL r j) = ys ++ bs (tailL r (j + 1)) := by
 subst h
 rw [List.append_assoc]
 rfl
set_option maxRecDepth 100000 in
set_option maxHeartbeats 4000000 in
theorem put_any (r : Int) (h : isPt r = true) (base : Nat) (v : Value) (n : Nat) (xs : List Value) (w : World) (hs : Siz w) (hown : Own w base 5 1 v n xs) (hbase : base ≤ w.heap.size) (hn : n ≤ 4294967296) :
 Calls Tryd.prog 45 #[v, .int .i64 r] w fun e w' => ∃ v', e = .returned v' ∧ Own w' base 5 1 v' (n + cnt r) (xs ++ bs (putL r)) ∧ Below base w w' := by
 obtain ⟨i0, hi, hz0, hz1, hz2⟩ := info_parts Tryd.u8info
 obtain ⟨j, least, lead, hj, hc, hz, l0, l1, l2, l3, l4, l5, hp⟩ := put_split h
 obtain ⟨h0, h1, _⟩ := (isPt_iff r).1 h
 have HF := byt_val (lead + r / wei j) l1 (by omega)
 obtain ⟨f, hf⟩ : ∃ f, byt (lead + r / wei j) = f := ⟨_, rfl⟩
 rw [hf] at hp HF
 rw [hc, hp]
 have HG := Lib.hid HF
 clear hf hp hc HF
 go_enter Tryd.func45, Tryd.ntmps45
 go_wp2_with fail
 refine (sizeOf_any r _ hs).mono ?_
 rw [hz]
 rintro e w1 ⟨rfl, hb1⟩
 go_wp2_with fail
 have hown1 : Own w1 base 5 1 v n xs := hown.behind hb1
 have hB1 : Below base w w1 := hb1.mono hbase
 have hs1 := hb1.size
 have p1 := Blk.new w1 85 #[.int .i64 ((j : Int) + 1), .int .i64 least, .int .i64 lead]
 have g2 := p1.cell 2
 clear hb1 hz
 go_loop [6, 12] (fun a i => ∃ k : Nat, k ≤ j ∧ a = .int .i64 (wei k) ∧ i = .int .i64 k) (fun _ i => j - (intOf i).toNat)
 case atStart => exact ⟨0, Nat.zero_le _, rfl, rfl⟩
 case round =>
  obtain ⟨k, hk, rfl, rfl⟩ := hrel
  by_cases hlt : k < j
  ·have b1 := wei_pos k
   have b2 := wei_le (k := k) (by omega)
   have e1 : wei (k + 1) = wei k * 64 := rfl
   have E1 := Lib.hid e1
   clear e1
   go_wp2
   go_round
   case rel => exact ⟨k + 1, by omega, by rw [E1.out], by go_num⟩
   case measure => simp [intOf]; omega
  ·obtain rfl : k = j := by omega
   have b1 := wei_pos k
   have b2 := wei_le (k := k) (by omega)
   have e1 : r.tdiv (wei k) = r / wei k := Int.tdiv_eq_ediv_of_nonneg h0
   have e2 : IntKind.i64.wrap (r / wei k) = r / wei k := IntWalk.i64_in _ (by omega)
   have e3 : IntKind.i64.wrap (lead + r / wei k) = lead + r / wei k := IntWalk.i64_in _ (by omega)
   have e4 : IntKind.u8.wrap (lead + r / wei k) = lead + r / wei k := by rw [IntKind.wrap_u8]; omega
   have hB2 : Below base w (w1.alloc (.cells #[.int .i64 ((k : Int) + 1), .int .i64 least, .int .i64 lead] 85)) := hB1.alloc (Nat.le_trans hbase hs1) _
   have hownA : ∀ o, Own ((w1.alloc (.cells #[.int .i64 ((k : Int) + 1), .int .i64 least, .int .i64 lead] 85)).alloc o).drew base 5 1 v n xs := fun o => ((hown1.alloc _).alloc o).drew
   have hBA : ∀ o, Below base w ((w1.alloc (.cells #[.int .i64 ((k : Int) + 1), .int .i64 least, .int .i64 lead] 85)).alloc o).drew := fun o => (hB2.alloc (Nat.le_trans hbase hB2.size) o).drew
   have hrA : ∀ x, Rd ((w1.alloc (.cells #[.int .i64 ((k : Int) + 1), .int .i64 least, .int .i64 lead] 85)).alloc (.cells #[x] 5)).drew (some ⟨w1.heap.size + 1, 0, none⟩) [x] := fun x => by
    have := rd_lit (w1.alloc (.cells #[.int .i64 ((k : Int) + 1), .int .i64 least, .int .i64 lead] 85)) x 5
    rw [World.size_alloc] at this
    exact this
   have hw0 : ¬ wei k = 0 := by omega
   have h63 : n + 1 ≤ maxLen := by simp only [maxLen]; omega
   have hlim : (n + 1) * 1 ≤ 140737488355328 := by omega
   have one1 : ∀ x : Int, ∀ u ∈ [Value.int .u8 x], u.oneCell' = true := fun x => ints_one [x]
   go_wp2
   go_region_law (refine step_app _ rfl (.tmp 17) (.tmp 25) 26 rfl base 5 i0 _ 1 1 Tryd.underlying26 hi hz0 hz1 hz2 rfl Nat.one_pos v n xs (by simp [Act.eval]) (hownA _) (some ⟨w1.heap.size + 1, 0, none⟩) 1 1 _ (by simp [Act.eval]) rfl (hrA _) (one1 _) h63 hlim (Nat.le_trans hbase (hBA _).size) ?_; intro v' w' hown' hg')
   all_goals
    have hB3 : Below base w w' := (hBA _).grown hg' (Nat.le_trans hbase (hBA _).size) (fun g hg => (hown1.lt g hg).1)
    rw [HG.out] at hown'
    clear hg' hBA hownA hrA hB2 one1 h63 hlim e1 e2 e3 e4 hw0 p1 g2 hown1 hB1 hs1
    clear l1 l2 l3 l4 HG
    go_wp2
    simp only [Act.put, List.getElem_toArray, List.getElem_cons_succ, List.getElem_cons_zero, List.setIfInBounds_toArray, List.set_cons_zero]
    go_loopw [0, 6] (fun a wt wr => ∃ (j m : Nat) (ys : List Value), j ≤ k ∧ wt = .int .i64 (wei j) ∧ Own wr base 5 1 a m ys ∧ m + j = n + (k + 1) ∧ ys ++ bs (tailL r j) = xs ++ bs (f :: tailL r k) ∧ Below base w wr) (fun _ wt _ => (intOf wt).toNat)
    case atStart => exact ⟨k, n + 1, _, Nat.le_refl _, rfl, hown', by omega, by simp [bs], hB3⟩
    case round =>
     clear hown' hB3
     obtain ⟨j, m, ys, hjk, rfl, hown, hm, hy, hbw⟩ := hrel
     have HY := Lib.hid hy
     have HM := Lib.hid hm
     have hml : m ≤ 4294967300 := by omega
     clear hy hm
     cases j with
     | zero =>
       have e0 : wei 0 = 1 := rfl
       go_wp2
       go_ret
       refine ⟨_, rfl, ?_, hbw⟩
       have h1 := HY.out
       simp only [tailL, bs, List.map_nil, List.append_nil] at h1
       rw [show n + (k + 1) = m from HM.out.symm]
       simp only [bs] at *
       rw [← h1]; exact hown
     | succ j =>
       have b1 := wei_pos j
       have b2 := wei_le (k := j) (by omega)
       obtain ⟨X, hX⟩ : ∃ X, wei (j + 1) = X := ⟨_, rfl⟩
       have hX2 : X = wei j * 64 := hX.symm
       have hXd := Lib.hid (show X / 64 = wei j by omega)
       have x1 : 64 ≤ X := by omega
       have x2 : X ≤ 16777216 := by omega
       have x3 : ¬ X / 64 = 0 := by omega
       have x4 : 1 ≤ X / 64 := by omega
       have x5 : 0 ≤ r / (X / 64) := Int.ediv_nonneg h0 (by omega)
       have x6 : r / (X / 64) ≤ 1114111 := Int.le_trans (Int.ediv_le_self _ h0) h1
       have x7 : 0 ≤ r / (X / 64) % 64 := by omega
       have x8 : r / (X / 64) % 64 < 64 := by omega
       have hXX := Lib.hid hX
       have hbv := Lib.hid (byt_val (128 + r / (X / 64) % 64) (by omega) (by omega))
       rw [hX]
       clear hX hX2 b1 b2
       have h63 : m + 1 ≤ maxLen := by simp only [maxLen]; omega
       have hlim : (m + 1) * 1 ≤ 140737488355328 := by omega
       have one1 : ∀ x : Int, ∀ u ∈ [Value.int .u8 x], u.oneCell' = true := fun x => ints_one [x]
       have hbs := Nat.le_trans hbase hbw.size
       go_wp2_with (at_builtin; refine list_app _ rfl (.tmp 31) (.tmp 38) 26 rfl base 5 i0 _ 1 1 Tryd.underlying26 hi hz0 hz1 hz2 rfl Nat.one_pos _ _ _ rfl (hown.alloc _) (some ⟨wr.heap.size, 0, none⟩) 1 1 _ rfl rfl (rd_lit wr _ _) (one1 _) h63 hlim (by simp; omega) ?_; intro v4 w4 hown4 hg4)
       have hb4 : Below base w w4 := (hbw.alloc hbs _).grown hg4 (by simp; omega) (fun g hg => (hown.lt g hg).1)
       rw [hbv.out] at hown4
       clear hg4
       go_wp2
       go_roundw
       case rel =>
        refine ⟨j, m + 1, _, by omega, by rw [hXd.out], hown4, by have := HM.out; omega, ?_, hb4⟩
        rw [← HY.out]
        exact tail_step _ _ _ _ hXd.out
       case measure => simp [intOf]; omega
end Go.Proofs.YtjlhhelikiegdaaDoor
