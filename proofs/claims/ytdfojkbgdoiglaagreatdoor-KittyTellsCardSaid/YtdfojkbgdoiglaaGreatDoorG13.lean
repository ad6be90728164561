/-
  Layer 2, walked: a code point's bytes, laid behind others. Layer 3, walked: the program's isNone and paramsMay.
-/
import Derived.Test.YtdfojkbgdoiglaaGreatDoorG02
import Derived.Test.YtdfojkbgdoiglaaGreatDoorG08
import Derived.Test.YtdfojkbgdoiglaaGreatDoorG12
import Derived.Deep.RegionLaw
import Derived.BigRegion
import Derived.Test.YtdfojkbgdoiglaaGreatDoorShelf
namespace Go.Proofs.YtdfojkbgdoiglaaGreatDoor
open Go.RowKit
theorem Tryz.u8info : (Tryz.prog.info? 5).map (fun i => (i.zero, i.size, i.bytes)) = some (some (.int .u8 0), 1, 1) := by kernel_rfl
def wei : Nat → Int
 | 0 => 1
 | k + 1 => wei k * 64
theorem wei_pos (k : Nat) : 1 ≤ wei k := by
 induction k with
 | zero => exact Int.le_refl _
 | succ k ih => unfold wei; omega
theorem wei_le {k : Nat} (h : k ≤ 3) : wei k ≤ 262144 := by
 obtain rfl | rfl | rfl | rfl : k = 0 ∨ k = 1 ∨ k = 2 ∨ k = 3 := by omega
 all_goals simp [wei]
def tailL (r : Int) : Nat → List UInt8
 | 0 => []
 | k + 1 => byt (128 + r / wei k % 64) :: tailL r k
theorem put_split {r : Int} (h : isPt r = true) : ∃ (j : Nat) (least lead : Int), j ≤ 3 ∧ cnt r = j + 1 ∧ szA (ixP r 4) = #[.int .i64 ((j : Int) + 1), .int .i64 least, .int .i64 lead] ∧ 0 ≤ lead ∧ 0 ≤ lead + r / wei j ∧ lead + r / wei j ≤ 255 ∧ 0 ≤ r / wei j ∧ r / wei j ≤ 255 ∧ lead ≤ 240 ∧
 putL r = byt (lead + r / wei j) :: tailL r j := by
 obtain ⟨h0, h1, _⟩ := (isPt_iff r).1 h
 have w0 : wei 0 = 1 := rfl
 have w1 : wei 1 = 64 := rfl
 have w2 : wei 2 = 4096 := rfl
 have w3 : wei 3 = 262144 := rfl
 by_cases a1 : r < 128
 ·refine ⟨0, 0, 0, by omega, by simp [cnt, a1], ?_, by omega, ?_, ?_, ?_, ?_, by omega, ?_⟩
  ·rw [show ixP r 4 = 0 by unfold ixP; (repeat' split) <;> omega]; rfl
  ·rw [w0]; omega
  ·rw [w0]; omega
  ·rw [w0]; omega
  ·rw [w0]; omega
  ·rw [putL_1 h a1, w0, Int.ediv_one, Int.zero_add]; rfl
 ·by_cases a2 : r < 2048
  ·refine ⟨1, 128, 192, by omega, by simp [cnt, a1, a2], ?_, by omega, ?_, ?_, ?_, ?_, by omega, ?_⟩
   ·rw [show ixP r 4 = 1 by unfold ixP; (repeat' split) <;> omega]; rfl
   ·rw [w1]; omega
   ·rw [w1]; omega
   ·rw [w1]; omega
   ·rw [w1]; omega
   ·rw [putL_2 h (by omega) a2, w1]; simp only [tailL, w0, Int.ediv_one]
  ·by_cases a3 : r < 65536
   ·refine ⟨2, 2048, 224, by omega, by simp [cnt, a1, a2, a3], ?_, by omega, ?_, ?_, ?_, ?_, by omega, ?_⟩
    ·rw [show ixP r 4 = 2 by unfold ixP; (repeat' split) <;> omega]; rfl
    ·rw [w2]; omega
    ·rw [w2]; omega
    ·rw [w2]; omega
    ·rw [w2]; omega
    ·rw [putL_3 h (by omega) a3, w2]; simp only [tailL, w0, w1, Int.ediv_one]
   ·refine ⟨3, 65536, 240, by omega, by simp [cnt, a1, a2, a3], ?_, by omega, ?_, ?_, ?_, ?_, by omega, ?_⟩
    ·rw [show ixP r 4 = 3 by unfold ixP; (repeat' split) <;> omega]; rfl
    ·rw [w3]; omega
    ·rw [w3]; omega
    ·rw [w3]; omega
    ·rw [w3]; omega
    ·rw [putL_4 h (by omega), w3]; simp only [tailL, w0, w1, w2, Int.ediv_one]
theorem tail_step (ys : List Value) (r Y : Int) (j : Nat) (h : Y = wei j) : ys ++ bs [byt (128 + r / Y % 64)] ++ bs (tailL r j) = ys ++ bs (tailL r (j + 1)) := by
 subst h
 rw [List.append_assoc]
 rfl
set_option maxRecDepth 100000 in
set_option maxHeartbeats 4000000 in
theorem put_any (r : Int) (h : isPt r = true) (base : Nat) (v : Value) (n : Nat) (xs : List Value) (w : World) (hs : Siz w) (hown : Own w base 5 1 v n xs) (hbase : base ≤ w.heap.size) (hn : n ≤ 4294967296) :
 Calls Tryz.prog 73 #[v, .int .i64 r] w fun e w' => ∃ v', e = .returned v' ∧ Own w' base 5 1 v' (n + cnt r) (xs ++ bs (putL r)) ∧ Below base w w' := by
 obtain ⟨i0, hi, hz0, hz1, hz2⟩ := info_parts Tryz.u8info
 obtain ⟨j, least, lead, hj, hc, hz, l0, l1, l2, l3, l4, l5, hp⟩ := put_split h
 obtain ⟨h0, h1, _⟩ := (isPt_iff r).1 h
 have HF := byt_val (lead + r / wei j) l1 (by omega)
 obtain ⟨f, hf⟩ : ∃ f, byt (lead + r / wei j) = f := ⟨_, rfl⟩
 rw [hf] at hp HF
 rw [hc, hp]
 have HG := Lib.hid HF
 clear hf hp hc HF
 go_enter Tryz.func73, Tryz.ntmps73
 go_wp2_with fail
 refine (sizeOf_any r _ hs).mono ?_
 rw [hz]
 rintro e w1 ⟨rfl, hb1⟩
 go_wp2_with fail
 have hown1 : Own w1 base 5 1 v n xs := hown.behind hb1
 have hB1 : Below base w w1 := hb1.mono hbase
 have hs1 := hb1.size
 have p1 := Blk.new w1 106 #[.int .i64 ((j : Int) + 1), .int .i64 least, .int .i64 lead]
 have g2 := p1.cell 2
 clear hb1 hz
 go_loop [6, 12] (fun a i => ∃ k : Nat, k ≤ j ∧ a = .int .i64 (wei k) ∧ i = .int .i64 k) (fun _ i => j - (intOf i).toNat)
 case atStart => exact ⟨0, Nat.zero_le _, rfl, rfl⟩
 case round =>
  obtain ⟨k, hk, rfl, rfl⟩ := hrel
  by_cases hlt : k < j
  ·have b1 := wei_pos k
   have b2 := wei_le (k := k) (by omega)
   have e1 : wei (k + 1) = wei k * 64 := rfl
   have E1 := Lib.hid e1
   clear e1
   go_wp2
   go_round
   case rel => exact ⟨k + 1, by omega, by rw [E1.out], by go_num⟩
   case measure => simp [intOf]; omega
  ·obtain rfl : k = j := by omega
   have b1 := wei_pos k
   have b2 := wei_le (k := k) (by omega)
   have e1 : r.tdiv (wei k) = r / wei k := Int.tdiv_eq_ediv_of_nonneg h0
   have e2 : IntKind.i64.wrap (r / wei k) = r / wei k := IntWalk.i64_in _ (by omega)
   have e3 : IntKind.i64.wrap (lead + r / wei k) = lead + r / wei k := IntWalk.i64_in _ (by omega)
   have e4 : IntKind.u8.wrap (lead + r / wei k) = lead + r / wei k := by rw [IntKind.wrap_u8]; omega
   have hB2 : Below base w (w1.alloc (.cells #[.int .i64 ((k : Int) + 1), .int .i64 least, .int .i64 lead] 106)) := hB1.alloc (Nat.le_trans hbase hs1) _
   have hownA : ∀ o, Own ((w1.alloc (.cells #[.int .i64 ((k : Int) + 1), .int .i64 least, .int .i64 lead] 106)).alloc o).drew base 5 1 v n xs := fun o => ((hown1.alloc _).alloc o).drew
   have hBA : ∀ o, Below base w ((w1.alloc (.cells #[.int .i64 ((k : Int) + 1), .int .i64 least, .int .i64 lead] 106)).alloc o).drew := fun o => (hB2.alloc (Nat.le_trans hbase hB2.size) o).drew
   have hrA : ∀ x, Rd ((w1.alloc (.cells #[.int .i64 ((k : Int) + 1), .int .i64 least, .int .i64 lead] 106)).alloc (.cells #[x] 5)).drew (some ⟨w1.heap.size + 1, 0, none⟩) [x] := fun x => by
    have := rd_lit (w1.alloc (.cells #[.int .i64 ((k : Int) + 1), .int .i64 least, .int .i64 lead] 106)) x 5
    rw [World.size_alloc] at this
    exact this
   have hw0 : ¬ wei k = 0 := by omega
   have h63 : n + 1 ≤ maxLen := by simp only [maxLen]; omega
   have hlim : (n + 1) * 1 ≤ 140737488355328 := by omega
   have one1 : ∀ x : Int, ∀ u ∈ [Value.int .u8 x], u.oneCell' = true := fun x => ints_one [x]
   go_wp2
   go_region_law (refine step_app _ rfl (.tmp 17) (.tmp 25) 27 rfl base 5 i0 _ 1 1 Tryz.underlying27 hi hz0 hz1 hz2 rfl Nat.one_pos v n xs (by simp [Act.eval]) (hownA _) (some ⟨w1.heap.size + 1, 0, none⟩) 1 1 _ (by simp [Act.eval]) rfl (hrA _) (one1 _) h63 hlim (Nat.le_trans hbase (hBA _).size) ?_; intro v' w' hown' hg')
   all_goals
    have hB3 : Below base w w' := (hBA _).grown hg' (Nat.le_trans hbase (hBA _).size) (fun g hg => (hown1.lt g hg).1)
    rw [HG.out] at hown'
    clear hg' hBA hownA hrA hB2 one1 h63 hlim e1 e2 e3 e4 hw0 p1 g2 hown1 hB1 hs1
    clear l1 l2 l3 l4 HG
    go_wp2
    simp only [Act.put, List.getElem_toArray, List.getElem_cons_succ, List.getElem_cons_zero, List.setIfInBounds_toArray, List.set_cons_zero]
    go_loopw [0, 6] (fun a wt wr => ∃ (j m : Nat) (ys : List Value), j ≤ k ∧ wt = .int .i64 (wei j) ∧ Own wr base 5 1 a m ys ∧ m + j = n + (k + 1) ∧ ys ++ bs (tailL r j) = xs ++ bs (f :: tailL r k) ∧ Below base w wr) (fun _ wt _ => (intOf wt).toNat)
    case atStart => exact ⟨k, n + 1, _, Nat.le_refl _, rfl, hown', by omega, by simp [bs], hB3⟩
    case round =>
     clear hown' hB3
     obtain ⟨j, m, ys, hjk, rfl, hown, hm, hy, hbw⟩ := hrel
     have HY := Lib.hid hy
     have HM := Lib.hid hm
     have hml : m ≤ 4294967300 := by omega
     clear hy hm
     cases j with
     | zero =>
       have e0 : wei 0 = 1 := rfl
       go_wp2
       go_ret
       refine ⟨_, rfl, ?_, hbw⟩
       have h1 := HY.out
       simp only [tailL, bs, List.map_nil, List.append_nil] at h1
       rw [show n + (k + 1) = m from HM.out.symm]
       simp only [bs] at *
       rw [← h1]; exact hown
     | succ j =>
       have b1 := wei_pos j
       have b2 := wei_le (k := j) (by omega)
       obtain ⟨X, hX⟩ : ∃ X, wei (j + 1) = X := ⟨_, rfl⟩
       have hX2 : X = wei j * 64 := hX.symm
       have hXd := Lib.hid (show X / 64 = wei j by omega)
       have x1 : 64 ≤ X := by omega
       have x2 : X ≤ 16777216 := by omega
       have x3 : ¬ X / 64 = 0 := by omega
       have x4 : 1 ≤ X / 64 := by omega
       have x5 : 0 ≤ r / (X / 64) := Int.ediv_nonneg h0 (by omega)
       have x6 : r / (X / 64) ≤ 1114111 := Int.le_trans (Int.ediv_le_self _ h0) h1
       have x7 : 0 ≤ r / (X / 64) % 64 := by omega
       have x8 : r / (X / 64) % 64 < 64 := by omega
       have hXX := Lib.hid hX
       have hbv := Lib.hid (byt_val (128 + r / (X / 64) % 64) (by omega) (by omega))
       rw [hX]
       clear hX hX2 b1 b2
       have h63 : m + 1 ≤ maxLen := by simp only [maxLen]; omega
       have hlim : (m + 1) * 1 ≤ 140737488355328 := by omega
       have one1 : ∀ x : Int, ∀ u ∈ [Value.int .u8 x], u.oneCell' = true := fun x => ints_one [x]
       have hbs := Nat.le_trans hbase hbw.size
       go_wp2_with (at_builtin; refine list_app _ rfl (.tmp 31) (.tmp 38) 27 rfl base 5 i0 _ 1 1 Tryz.underlying27 hi hz0 hz1 hz2 rfl Nat.one_pos _ _ _ rfl (hown.alloc _) (some ⟨wr.heap.size, 0, none⟩) 1 1 _ rfl rfl (rd_lit wr _ _) (one1 _) h63 hlim (by simp; omega) ?_; intro v4 w4 hown4 hg4)
       have hb4 : Below base w w4 := (hbw.alloc hbs _).grown hg4 (by simp; omega) (fun g hg => (hown.lt g hg).1)
       rw [hbv.out] at hown4
       clear hg4
       go_wp2
       go_roundw
       case rel =>
        refine ⟨j, m + 1, _, by omega, by rw [hXd.out], hown4, by have := HM.out; omega, ?_, hb4⟩
        rw [← HY.out]
        exact tail_step _ _ _ _ hXd.out
       case measure => simp [intOf]; omega
end Go.Proofs.YtdfojkbgdoiglaaGreatDoor
namespace Go.Proofs.YtdfojkbgdoiglaaGreatDoor
open Go.RowKit
theorem none_key (ps : List (List Int)) : ps.length ≠ 1 ∧ decide (ps = [[-1]]) = false ∨ ∃ (h : ps.length = 1), ((ps[0]'(by omega)).length ≠ 1 ∧ decide (ps = [[-1]]) = false ∨ ∃ (h2 : (ps[0]'(by omega)).length = 1), ((ps[0]'(by omega))[0]'(by omega) ≠ -1 ∧ decide (ps = [[-1]]) = false ∨ (ps[0]'(by omega))[0]'(by omega) = -1 ∧ decide (ps = [[-1]]) = true)) := by
 by_cases h1 : ps.length = 1
 ·refine .inr ⟨h1, ?_⟩
  match ps, h1 with
  | [p], _ =>
    by_cases h2 : p.length = 1
    ·refine .inr ⟨h2, ?_⟩
     match p, h2 with
     | [x], _ =>
       by_cases h3 : x = -1
       ·exact .inr ⟨h3, by rw [h3]; rfl⟩
       ·exact .inl ⟨h3, decide_eq_false (by simpa using h3)⟩
    ·exact .inl ⟨h2, decide_eq_false (fun e => h2 (by injection e with e; rw [e]; rfl))⟩
 ·exact .inl ⟨h1, decide_eq_false (fun e => h1 (by rw [e]; rfl))⟩
set_option maxRecDepth 100000 in
set_option maxHeartbeats 4000000 in
theorem isNone_any (A : Option Addr) (n c : Nat) (ps : List (List Int)) (q : Bool) (w : World) (hn : ps.length = n) (hq : decide (ps = [[-1]]) = q) (hl : n ≤ 4294967296) (hr : RdP w A ps) :
 Calls Tryz.prog 86 #[.slice A n c] w fun e w' => e = .returned (.bool q) ∧ w = w' := by
 subst hn
 rcases none_key ps with ⟨h1, h⟩ | ⟨h1, ⟨h2, h⟩ | ⟨h2, ⟨h3, h⟩ | ⟨h3, h⟩⟩⟩
 all_goals
  rw [h] at hq
  subst hq
  clear h
 ·have t1 : ((ps.length : Int) == 1) = false := beq_false_of_ne (by omega)
  clear h1
  go_enter Tryz.func86, Tryz.ntmps86
  go_wp2
  go_ret
  exact ⟨rfl, rfl⟩
 ·obtain ⟨b, o, hA, hb, hcc⟩ := hr (by omega)
  obtain ⟨A', c', hck, hrk⟩ := hcc 0 (by omega)
  rw [Nat.add_zero] at hck
  cases hA
  obtain ⟨m, hm⟩ : ∃ m, (ps[0]'(by omega)).length = m := ⟨_, rfl⟩
  rw [hm] at hck h2
  clear hm hcc hrk
  have t1 : ((ps.length : Int) == 1) = true := beq_iff_eq.2 (by omega)
  have p0 : 0 < ps.length := by omega
  have t2 : ((m : Int) == 1) = false := beq_false_of_ne (by omega)
  clear h1 h2
  go_enter Tryz.func86, Tryz.ntmps86
  go_wp2
  go_ret
  exact ⟨rfl, rfl⟩
 all_goals
  obtain ⟨b, o, hA, hb, hcc⟩ := hr (by omega)
  obtain ⟨A', c', hck, hrk⟩ := hcc 0 (by omega)
  rw [Nat.add_zero] at hck
  obtain ⟨b2, o2, hA2, hb2, hc2⟩ := hrk.int_at (by omega)
  have hc3 := hc2 0 (by omega)
  rw [Nat.add_zero] at hc3
  cases hA
  cases hA2
  obtain ⟨x, hx⟩ : ∃ x, (ps[0]'(by omega))[0]'(by omega) = x := ⟨_, rfl⟩
  rw [hx] at hc3 h3
  rw [h2] at hck
  have t1 : ((ps.length : Int) == 1) = true := beq_iff_eq.2 (by omega)
  have p0 : 0 < ps.length := by omega
  clear hx hc2 hcc hrk h2 h1
 ·have t3 : (x == -1) = false := beq_false_of_ne h3
  clear h3
  go_enter Tryz.func86, Tryz.ntmps86
  go_wp2
  go_ret
  exact ⟨rfl, rfl⟩
 ·subst h3
  go_enter Tryz.func86, Tryz.ntmps86
  go_wp2
  go_ret
  exact ⟨rfl, rfl⟩
theorem fold_min (l : List Int) : ∀ a m : Int, m ≤ l.foldl min a ↔ m ≤ a ∧ ∀ x ∈ l, m ≤ x := by
 induction l with
 | nil => intro a m; simp
 | cons c l ih =>
   intro a m
   rw [List.foldl_cons, ih]
   simp only [List.mem_cons, forall_eq_or_imp]
   exact ⟨fun h => ⟨by omega, by omega, h.2⟩, fun h => ⟨by omega, h.2.2⟩⟩
theorem fold_max (l : List Int) : ∀ a m : Int, l.foldl max a ≤ m ↔ a ≤ m ∧ ∀ x ∈ l, x ≤ m := by
 induction l with
 | nil => intro a m; simp
 | cons c l ih =>
   intro a m
   rw [List.foldl_cons, ih]
   simp only [List.mem_cons, forall_eq_or_imp]
   exact ⟨fun h => ⟨by omega, by omega, h.2⟩, fun h => ⟨by omega, h.2.2⟩⟩
theorem part_minmax {p : List Int} (h : 1 ≤ p.length) : p.all numOk = true ↔ -1 ≤ Lib.minOf p ∧ Lib.maxOf p ≤ 1114111 := by
 match p, h with
 | a :: p, _ =>
   unfold Lib.minOf Lib.maxOf
   rw [fold_min, fold_max]
   simp only [List.headD_cons, List.all_eq_true, numOk_iff]
   constructor
   ·intro h
    exact ⟨⟨(h a (List.mem_cons_self ..)).1, fun x hx => (h x hx).1⟩, (h a (List.mem_cons_self ..)).2, fun x hx => (h x hx).2⟩
   ·intro h x hx
    exact ⟨h.1.2 x hx, h.2.2 x hx⟩
set_option maxRecDepth 100000 in
set_option maxHeartbeats 4000000 in
theorem pparams_any (A : Option Addr) (c : Nat) (ps : List (List Int)) (q : Bool) (w : World) (hq : parOk ps = q) (hl : ps.length ≤ 4294967296) (hp : ∀ p ∈ ps, p.length ≤ 4294967296) (hr : RdP w A ps) :
 Calls Tryz.prog 67 #[.slice A ps.length c] w fun e w' => e = .returned (.bool q) ∧ w = w' := by
 by_cases h16 : 16 < ps.length
 ·obtain rfl : false = q := (par_long h16).symm.trans hq
  clear hq
  go_enter Tryz.func67, Tryz.ntmps67
  go_wp2
  go_ret
  exact ⟨rfl, rfl⟩
 ·have HQ := Lib.hid hq
  clear hq
  cases hN : decide (ps = [[-1]]) with
  | true =>
    have HN := Lib.hid hN
    have he := of_decide_eq_true hN
    obtain rfl : false = q := by rw [← HQ.out, he]; rfl
    clear hN he
    go_enter Tryz.func67, Tryz.ntmps67
    go_wp2_with fail
    refine (isNone_any A _ c ps true _ rfl HN.out hl hr).mono ?_
    rintro e w1 ⟨rfl, rfl⟩
    go_wp2_with fail
    go_ret
    exact ⟨rfl, rfl⟩
  | false =>
    have HN := Lib.hid hN
    have HNE := Lib.hid (of_decide_eq_false hN)
    clear hN
    go_enter Tryz.func67, Tryz.ntmps67
    go_wp2_with fail
    refine (isNone_any A _ c ps false _ rfl HN.out hl hr).mono ?_
    rintro e w1 ⟨rfl, rfl⟩
    go_wp2_with fail
    go_loop [14] (fun i => ∃ k : Nat, k ≤ ps.length ∧ i = .int .i64 k ∧ (ps.take k).all partB = true) (fun i => ps.length - (intOf i).toNat)
    case atStart => exact ⟨0, Nat.zero_le _, rfl, rfl⟩
    case round =>
     obtain ⟨k, hk, rfl, hall⟩ := hrel
     have HA := Lib.hid hall
     clear hall
     by_cases hlt : k < ps.length
     ·obtain ⟨b, o, hA, hb, hcc⟩ := hr (by omega)
      cases hA
      obtain ⟨A', c', hck, hrk⟩ := hcc k hlt
      obtain ⟨p, hp'⟩ : ∃ p, (ps[k]'hlt) = p := ⟨_, rfl⟩
      have hpl := hp _ (List.getElem_mem hlt)
      rw [hp'] at hck hrk hpl
      have HP := Lib.hid hp'
      clear hp' hcc
      obtain ⟨n, hn⟩ : ∃ n, p.length = n := ⟨_, rfl⟩
      rw [hn] at hck hpl
      have HLN := Lib.hid hn
      clear hn
      by_cases hs : 1 ≤ n ∧ n ≤ 8
      ·obtain ⟨n1, n8⟩ := hs
       obtain ⟨b2, o2, hA2, hb2, hc2⟩ := hrk.int_at (by rw [HLN.out]; omega)
       cases hA2
       have HC2 := Lib.hid (fun j (hj : j < p.length) => (hc2 j hj).trans (show some (Value.int .i64 p[j]) = some (.int .i64 (p.getD j 0)) by rw [List.getD_eq_getElem?_getD, List.getElem?_eq_getElem hj]; rfl))
       clear hc2
       have HT := Lib.hid (show p.take n = p from List.take_of_length_le (by rw [HLN.out]; omega))
       have HM := Lib.hid (part_minmax (p := p) (by rw [HLN.out]; omega))
       obtain ⟨mn, hmn⟩ : ∃ mn, Lib.minOf (p.take n) = mn := ⟨_, rfl⟩
       obtain ⟨mx, hmx⟩ : ∃ mx, Lib.maxOf (p.take n) = mx := ⟨_, rfl⟩
       have HMN := Lib.hid hmn
       have HMX := Lib.hid hmx
       clear hmn hmx
       by_cases m1 : -1 ≤ mn
       ·by_cases m2 : mx ≤ 1114111
        ·have E := Lib.hid (show (ps.take (k + 1)).all partB = true by
          rw [List.take_succ_eq_append_getElem hlt, List.all_append, HA.out, HP.out]
          simp only [List.all_cons, List.all_nil, Bool.and_true, Bool.true_and]
          refine partB_yes (by rw [HLN.out]; omega) (by rw [HLN.out]; omega) (HM.out.2 ?_)
          have e1 := HMN.out
          have e2 := HMX.out
          rw [HT.out] at e1 e2
          rw [e1, e2]
          exact ⟨m1, m2⟩)
         go_wp2_with fail
         refine (Tryz.slices_Min_int _ _ n _ p _ (by omega) (by rw [HLN.out]; omega) (by omega) HC2.out).mono ?_
         rw [HMN.out]
         rintro e w1 ⟨rfl, rfl⟩
         go_wp2_with fail
         refine (Tryz.slices_Max_int _ _ n _ p _ (by omega) (by rw [HLN.out]; omega) (by omega) HC2.out).mono ?_
         rw [HMX.out]
         rintro e w1 ⟨rfl, rfl⟩
         go_wp2_with fail
         go_round
         case rel => exact ⟨k + 1, by omega, by go_num, E.out⟩
         case measure => simp [intOf]; omega
        ·have E := Lib.hid (show false = q by
          rw [← HQ.out]
          refine (par_no hlt ?_).symm
          rw [HP.out]
          cases hB : partB p with
          | false => rfl
          | true =>
            exfalso
            unfold partB at hB
            simp only [Bool.and_eq_true] at hB
            have := (HM.out.1 hB.2).2
            have e2 := HMX.out
            rw [HT.out] at e2
            omega)
         go_wp2_with fail
         refine (Tryz.slices_Min_int _ _ n _ p _ (by omega) (by rw [HLN.out]; omega) (by omega) HC2.out).mono ?_
         rw [HMN.out]
         rintro e w1 ⟨rfl, rfl⟩
         go_wp2_with fail
         refine (Tryz.slices_Max_int _ _ n _ p _ (by omega) (by rw [HLN.out]; omega) (by omega) HC2.out).mono ?_
         rw [HMX.out]
         rintro e w1 ⟨rfl, rfl⟩
         go_wp2_with fail
         go_ret
         exact ⟨ret_b E.out, rfl⟩
       ·have E := Lib.hid (show false = q by
         rw [← HQ.out]
         refine (par_no hlt ?_).symm
         rw [HP.out]
         cases hB : partB p with
         | false => rfl
         | true =>
           exfalso
           unfold partB at hB
           simp only [Bool.and_eq_true] at hB
           have := (HM.out.1 hB.2).1
           have e2 := HMN.out
           rw [HT.out] at e2
           omega)
        go_wp2_with fail
        refine (Tryz.slices_Min_int _ _ n _ p _ (by omega) (by rw [HLN.out]; omega) (by omega) HC2.out).mono ?_
        rw [HMN.out]
        rintro e w1 ⟨rfl, rfl⟩
        go_wp2_with fail
        go_ret
        exact ⟨ret_b E.out, rfl⟩
      ·have E := Lib.hid (show false = q by
        rw [← HQ.out]
        refine (par_no hlt ?_).symm
        rw [HP.out]
        exact part_len (by rw [HLN.out]; exact hs))
       by_cases n1 : n < 1
       ·clear hs
        go_wp2_with fail
        go_ret
        exact ⟨ret_b E.out, rfl⟩
       ·have n8 : 8 < n := by omega
        clear hs
        go_wp2_with fail
        go_ret
        exact ⟨ret_b E.out, rfl⟩
     ·have E := Lib.hid (show true = q by
       have := HA.out
       rw [List.take_of_length_le (by omega)] at this
       rw [← HQ.out]
       exact (parOk_yes (by omega) HNE.out this).symm)
      go_wp2_with fail
      go_ret
      exact ⟨ret_b E.out, rfl⟩
end Go.Proofs.YtdfojkbgdoiglaaGreatDoor
