/-
  Layer 2, walked: a code point's bytes, laid behind others. Layer 3, walked: the document's guess.
-/
import Derived.Test.YtjlhhelikiegdaaGreatDoorG02
import Derived.Test.YtjlhhelikiegdaaGreatDoorG05
import Derived.Test.YtjlhhelikiegdaaGreatDoorG10
import Derived.Test.YtjlhhelikiegdaaGreatDoorG14
import Derived.Test.YtjlhhelikiegdaaGreatDoorG19
import Derived.Test.YtjlhhelikiegdaaGreatDoorG21
import Derived.Deep.RegionLaw
import Derived.BigRegion
import Derived.Deep.Cut
namespace Go.Proofs.YtjlhhelikiegdaaGreatDoor
open Go.RowKit
theorem Tryz.u8info : (Tryz.prog.info? 5).map (fun i => (i.zero, i.size, i.bytes)) = some (some (.int .u8 0), 1, 1) := by kernel_rfl
def wei : Nat → Int
 | 0 => 1
 | k + 1 => wei k * 64
theorem wei_pos (k : Nat) : 1 ≤ wei k := by
 induction k with
 | zero => exact Int.le_refl _
 | succ k ih => unfold wei; omega
theorem wei_le {k : Nat} (h : k ≤ 3) : wei k ≤ 262144 := by
 obtain rfl | rfl | rfl | rfl : k = 0 ∨ k = 1 ∨ k = 2 ∨ k = 3 := by omega
 all_goals simp [wei]
def tailL (r : Int) : Nat → List UInt8
 | 0 => []
 | k + 1 => byt (128 + r / wei k % 64) :: tailL r k
theorem put_split {r : Int} (h : isPt r = true) : ∃ (j : Nat) (least lead : Int), j ≤ 3 ∧ cnt r = j + 1 ∧ szA (ixP r 4) = #[.int .i64 ((j : Int) + 1), .int .i64 least, .int .i64 lead] ∧ 0 ≤ lead ∧ 0 ≤ lead + r / wei j ∧ lead + r / wei j ≤ 255 ∧ 0 ≤ r / wei j ∧ r / wei j ≤ 255 ∧ lead ≤ 240 ∧
 putL r = byt (lead + r / wei j) :: tailL r j := by
 obtain ⟨h0, h1, _⟩ := (isPt_iff r).1 h
 have w0 : wei 0 = 1 := rfl
 have w1 : wei 1 = 64 := rfl
 have w2 : wei 2 = 4096 := rfl
 have w3 : wei 3 = 262144 := rfl
 by_cases a1 : r < 128
 ·refine ⟨0, 0, 0, by omega, by simp [cnt, a1], ?_, by omega, ?_, ?_, ?_, ?_, by omega, ?_⟩
  ·rw [show ixP r 4 = 0 by unfold ixP; (repeat' split) <;> omega]; rfl
  ·rw [w0]; omega
  ·rw [w0]; omega
  ·rw [w0]; omega
  ·rw [w0]; omega
  ·rw [putL_1 h a1, w0, Int.ediv_one, Int.zero_add]; rfl
 ·by_cases a2 : r < 2048
  ·refine ⟨1, 128, 192, by omega, by simp [cnt, a1, a2], ?_, by omega, ?_, ?_, ?_, ?_, by omega, ?_⟩
   ·rw [show ixP r 4 = 1 by unfold ixP; (repeat' split) <;> omega]; rfl
   ·rw [w1]; omega
   ·rw [w1]; omega
   ·rw [w1]; omega
   ·rw [w1]; omega
   ·rw [putL_2 h (by omega) a2, w1]; simp only [tailL, w0, Int.ediv_one]
  ·by_cases a3 : r < 65536
   ·refine ⟨2, 2048, 224, by omega, by simp [cnt, a1, a2, a3], ?_, by omega, ?_, ?_, ?_, ?_, by omega, ?_⟩
    ·rw [show ixP r 4 = 2 by unfold ixP; (repeat' split) <;> omega]; rfl
    ·rw [w2]; omega
    ·rw [w2]; omega
    ·rw [w2]; omega
    ·rw [w2]; omega
    ·rw [putL_3 h (by omega) a3, w2]; simp only [tailL, w0, w1, Int.ediv_one]
   ·refine ⟨3, 65536, 240, by omega, by simp [cnt, a1, a2, a3], ?_, by omega, ?_, ?_, ?_, ?_, by omega, ?_⟩
    ·rw [show ixP r 4 = 3 by unfold ixP; (repeat' split) <;> omega]; rfl
    ·rw [w3]; omega
    ·rw [w3]; omega
    ·rw [w3]; omega
    ·rw [w3]; omega
    ·rw [putL_4 h (by omega), w3]; simp only [tailL, w0, w1, w2, Int.ediv_one]
theorem tail_step (ys : List Value) (r Y : Int) (j : Nat) (h : Y = wei j) : ys ++ bs [byt (128 + r / Y % 64)] ++ bs (tailL r j) = ys ++ bs (tailL r (j + 1)) := by
 subst h
 rw [List.append_assoc]
 rfl
set_option maxRecDepth 100000 in
set_option maxHeartbeats 4000000 in
theorem put_any (r : Int) (h : isPt r = true) (base : Nat) (v : Value) (n : Nat) (xs : List Value) (w : World) (hs : Siz w) (hown : Own w base 5 1 v n xs) (hbase : base ≤ w.heap.size) (hn : n ≤ 4294967296) :
 Calls Tryz.prog 57 #[v, .int .i64 r] w fun e w' => ∃ v', e = .returned v' ∧ Own w' base 5 1 v' (n + cnt r) (xs ++ bs (putL r)) ∧ Below base w w' := by
 obtain ⟨i0, hi, hz0, hz1, hz2⟩ := info_parts Tryz.u8info
 obtain ⟨j, least, lead, hj, hc, hz, l0, l1, l2, l3, l4, l5, hp⟩ := put_split h
 obtain ⟨h0, h1, _⟩ := (isPt_iff r).1 h
 have HF := byt_val (lead + r / wei j) l1 (by omega)
 obtain ⟨f, hf⟩ : ∃ f, byt (lead + r / wei j) = f := ⟨_, rfl⟩
 rw [hf] at hp HF
 rw [hc, hp]
 have HG := Lib.hid HF
 clear hf hp hc HF
 go_enter Tryz.func57, Tryz.ntmps57
 go_wp2_with fail
 refine (sizeOf_any r _ hs).mono ?_
 rw [hz]
 rintro e w1 ⟨rfl, hb1⟩
 go_wp2_with fail
 have hown1 : Own w1 base 5 1 v n xs := hown.behind hb1
 have hB1 : Below base w w1 := hb1.mono hbase
 have hs1 := hb1.size
 have p1 := Blk.new w1 95 #[.int .i64 ((j : Int) + 1), .int .i64 least, .int .i64 lead]
 have g2 := p1.cell 2
 clear hb1 hz
 go_loop [6, 12] (fun a i => ∃ k : Nat, k ≤ j ∧ a = .int .i64 (wei k) ∧ i = .int .i64 k) (fun _ i => j - (intOf i).toNat)
 case atStart => exact ⟨0, Nat.zero_le _, rfl, rfl⟩
 case round =>
  obtain ⟨k, hk, rfl, rfl⟩ := hrel
  by_cases hlt : k < j
  ·have b1 := wei_pos k
   have b2 := wei_le (k := k) (by omega)
   have e1 : wei (k + 1) = wei k * 64 := rfl
   have E1 := Lib.hid e1
   clear e1
   go_wp2
   go_round
   case rel => exact ⟨k + 1, by omega, by rw [E1.out], by go_num⟩
   case measure => simp [intOf]; omega
  ·obtain rfl : k = j := by omega
   have b1 := wei_pos k
   have b2 := wei_le (k := k) (by omega)
   have e1 : r.tdiv (wei k) = r / wei k := Int.tdiv_eq_ediv_of_nonneg h0
   have e2 : IntKind.i64.wrap (r / wei k) = r / wei k := IntWalk.i64_in _ (by omega)
   have e3 : IntKind.i64.wrap (lead + r / wei k) = lead + r / wei k := IntWalk.i64_in _ (by omega)
   have e4 : IntKind.u8.wrap (lead + r / wei k) = lead + r / wei k := by rw [IntKind.wrap_u8]; omega
   have hB2 : Below base w (w1.alloc (.cells #[.int .i64 ((k : Int) + 1), .int .i64 least, .int .i64 lead] 95)) := hB1.alloc (Nat.le_trans hbase hs1) _
   have hownA : ∀ o, Own ((w1.alloc (.cells #[.int .i64 ((k : Int) + 1), .int .i64 least, .int .i64 lead] 95)).alloc o).drew base 5 1 v n xs := fun o => ((hown1.alloc _).alloc o).drew
   have hBA : ∀ o, Below base w ((w1.alloc (.cells #[.int .i64 ((k : Int) + 1), .int .i64 least, .int .i64 lead] 95)).alloc o).drew := fun o => (hB2.alloc (Nat.le_trans hbase hB2.size) o).drew
   have hrA : ∀ x, Rd ((w1.alloc (.cells #[.int .i64 ((k : Int) + 1), .int .i64 least, .int .i64 lead] 95)).alloc (.cells #[x] 5)).drew (some ⟨w1.heap.size + 1, 0, none⟩) [x] := fun x => by
    have := rd_lit (w1.alloc (.cells #[.int .i64 ((k : Int) + 1), .int .i64 least, .int .i64 lead] 95)) x 5
    rw [World.size_alloc] at this
    exact this
   have hw0 : ¬ wei k = 0 := by omega
   have h63 : n + 1 ≤ maxLen := by simp only [maxLen]; omega
   have hlim : (n + 1) * 1 ≤ 140737488355328 := by omega
   have one1 : ∀ x : Int, ∀ u ∈ [Value.int .u8 x], u.oneCell' = true := fun x => ints_one [x]
   go_wp2
   go_region_law (refine step_app _ rfl (.tmp 17) (.tmp 25) 25 rfl base 5 i0 _ 1 1 Tryz.underlying25 hi hz0 hz1 hz2 rfl Nat.one_pos v n xs (by simp [Act.eval]) (hownA _) (some ⟨w1.heap.size + 1, 0, none⟩) 1 1 _ (by simp [Act.eval]) rfl (hrA _) (one1 _) h63 hlim (Nat.le_trans hbase (hBA _).size) ?_; intro v' w' hown' hg')
   all_goals
    have hB3 : Below base w w' := (hBA _).grown hg' (Nat.le_trans hbase (hBA _).size) (fun g hg => (hown1.lt g hg).1)
    rw [HG.out] at hown'
    clear hg' hBA hownA hrA hB2 one1 h63 hlim e1 e2 e3 e4 hw0 p1 g2 hown1 hB1 hs1
    clear l1 l2 l3 l4 HG
    go_wp2
    simp only [Act.put, List.getElem_toArray, List.getElem_cons_succ, List.getElem_cons_zero, List.setIfInBounds_toArray, List.set_cons_zero]
    go_loopw [0, 6] (fun a wt wr => ∃ (j m : Nat) (ys : List Value), j ≤ k ∧ wt = .int .i64 (wei j) ∧ Own wr base 5 1 a m ys ∧ m + j = n + (k + 1) ∧ ys ++ bs (tailL r j) = xs ++ bs (f :: tailL r k) ∧ Below base w wr) (fun _ wt _ => (intOf wt).toNat)
    case atStart => exact ⟨k, n + 1, _, Nat.le_refl _, rfl, hown', by omega, by simp [bs], hB3⟩
    case round =>
     clear hown' hB3
     obtain ⟨j, m, ys, hjk, rfl, hown, hm, hy, hbw⟩ := hrel
     have HY := Lib.hid hy
     have HM := Lib.hid hm
     have hml : m ≤ 4294967300 := by omega
     clear hy hm
     cases j with
     | zero =>
       have e0 : wei 0 = 1 := rfl
       go_wp2
       go_ret
       refine ⟨_, rfl, ?_, hbw⟩
       have h1 := HY.out
       simp only [tailL, bs, List.map_nil, List.append_nil] at h1
       rw [show n + (k + 1) = m from HM.out.symm]
       simp only [bs] at *
       rw [← h1]; exact hown
     | succ j =>
       have b1 := wei_pos j
       have b2 := wei_le (k := j) (by omega)
       obtain ⟨X, hX⟩ : ∃ X, wei (j + 1) = X := ⟨_, rfl⟩
       have hX2 : X = wei j * 64 := hX.symm
       have hXd := Lib.hid (show X / 64 = wei j by omega)
       have x1 : 64 ≤ X := by omega
       have x2 : X ≤ 16777216 := by omega
       have x3 : ¬ X / 64 = 0 := by omega
       have x4 : 1 ≤ X / 64 := by omega
       have x5 : 0 ≤ r / (X / 64) := Int.ediv_nonneg h0 (by omega)
       have x6 : r / (X / 64) ≤ 1114111 := Int.le_trans (Int.ediv_le_self _ h0) h1
       have x7 : 0 ≤ r / (X / 64) % 64 := by omega
       have x8 : r / (X / 64) % 64 < 64 := by omega
       have hXX := Lib.hid hX
       have hbv := Lib.hid (byt_val (128 + r / (X / 64) % 64) (by omega) (by omega))
       rw [hX]
       clear hX hX2 b1 b2
       have h63 : m + 1 ≤ maxLen := by simp only [maxLen]; omega
       have hlim : (m + 1) * 1 ≤ 140737488355328 := by omega
       have one1 : ∀ x : Int, ∀ u ∈ [Value.int .u8 x], u.oneCell' = true := fun x => ints_one [x]
       have hbs := Nat.le_trans hbase hbw.size
       go_wp2_with (at_builtin; refine list_app _ rfl (.tmp 31) (.tmp 38) 25 rfl base 5 i0 _ 1 1 Tryz.underlying25 hi hz0 hz1 hz2 rfl Nat.one_pos _ _ _ rfl (hown.alloc _) (some ⟨wr.heap.size, 0, none⟩) 1 1 _ rfl rfl (rd_lit wr _ _) (one1 _) h63 hlim (by simp; omega) ?_; intro v4 w4 hown4 hg4)
       have hb4 : Below base w w4 := (hbw.alloc hbs _).grown hg4 (by simp; omega) (fun g hg => (hown.lt g hg).1)
       rw [hbv.out] at hown4
       clear hg4
       go_wp2
       go_roundw
       case rel =>
        refine ⟨j, m + 1, _, by omega, by rw [hXd.out], hown4, by have := HM.out; omega, ?_, hb4⟩
        rw [← HY.out]
        exact tail_step _ _ _ _ hXd.out
       case measure => simp [intOf]; omega
theorem getD_at (l : List UInt8) (i : Nat) (h : i < l.length) : l.getD i 0 = l[i] := by
 rw [List.getD_eq_getElem?_getD, List.getElem?_eq_getElem h, Option.getD_some]
def GuessP (l : List UInt8) (w : World) (e : Ending) (w' : World) : Prop :=
 (match guessS l with
  | some (q, n) => ∃ A c g, e = .returned (.tuple #[sqV q A c, .int .i64 (n : Nat)]) ∧ RdPN g w' A q.params
  | none => ∃ (k b f : Int) (A : Option Addr) (n c : Nat) (x y : ByteArray), e = .returned (.tuple #[.agg #[.int .i64 k, .int .u8 b, .slice A n c, .string x, .int .u8 f, .string y], .int .i64 (-1)])) ∧ Below w.heap.size w w'
theorem gp_no {l : List UInt8} {w w' : World} {e : Ending} (h : guessS l = none) (k b f : Int) (A : Option Addr) (n c : Nat) (x y : ByteArray) (he : e = .returned (.tuple #[.agg #[.int .i64 k, .int .u8 b, .slice A n c, .string x, .int .u8 f, .string y], .int .i64 (-1)])) (hb : Below w.heap.size w w') : GuessP l w e w' := by
 unfold GuessP
 rw [h]
 exact ⟨⟨k, b, f, A, n, c, x, y, he⟩, hb⟩
theorem gp_yes {l : List UInt8} {w w' : World} {e : Ending} {q : Sq} {n : Nat} (h : guessS l = some (q, n)) (A : Option Addr) (c : Nat) (he : e = .returned (.tuple #[sqV q A c, .int .i64 n])) {g : Nat} (hr : RdPN g w' A q.params) (hb : Below w.heap.size w w') : GuessP l w e w' := by
 unfold GuessP
 rw [h]
 exact ⟨⟨A, c, g, he, hr⟩, hb⟩
theorem RdPN.below {g : Nat} {w w' : World} {A : Option Addr} {ps : List (List Int)} (h : RdPN g w A ps) (hb : Below w.heap.size w w') : RdPN g w' A ps :=
 h.keep fun k _ ⟨cur, fz, hh⟩ => hb.block k (by rcases hh with hh | hh <;> exact (Array.getElem?_eq_some_iff.1 hh).1)
theorem u8_is {c : UInt8} {n : Nat} (h : c.toNat = n) : c = UInt8.ofNat n := by rw [← h]; simp
theorem ext_list (s : ByteArray) (at_ n m a b : Nat) (hn : runL s.data.toList at_ a b = n) (hm : at_ + n = m) : (s.extract at_ m).data.toList = (s.data.toList.drop at_).takeWhile (btw a b) := by
 have h1 : (s.data.toList.drop at_).takeWhile (btw a b) = (s.data.toList.drop at_).take n := by
  rw [← hn]
  exact List.prefix_iff_eq_take.1 (List.takeWhile_prefix _)
 rw [h1, ByteArray.data_extract, Array.toList_extract, ← hm]
 simp
theorem ext_str (s : ByteArray) (at_ n m a b : Nat) (hn : runL s.data.toList at_ a b = n) (hm : at_ + n = m) : s.extract at_ m = ⟨((s.data.toList.drop at_).takeWhile (btw a b)).toArray⟩ := by
 apply ByteArray.ext
 rw [← ext_list s at_ n m a b hn hm]
theorem ext_size (s : ByteArray) (a b : Nat) (h : s.size ≤ 4294967296) : (s.extract a b).size ≤ 4294967296 := by
 rw [ByteArray.size_extract]
 omega
theorem two_bytes (s : ByteArray) (h2 : 1 < s.size) : s.data.toList = s[0] :: s[1] :: s.data.toList.drop 2 := by
 have hlen : s.data.toList.length = s.size := by simp
 have e0 := List.drop_eq_getElem_cons (l := s.data.toList) (i := 0) (by omega)
 have e1 := List.drop_eq_getElem_cons (l := s.data.toList) (i := 1) (by omega)
 rw [List.drop_zero, Nat.zero_add, e1] at e0
 exact e0
theorem third (s : ByteArray) (h : 2 < s.size) : s.data.toList.drop 2 = s[2] :: s.data.toList.drop 3 := by
 have hlen : s.data.toList.length = s.size := by simp
 exact List.drop_eq_getElem_cons (l := s.data.toList) (i := 2) (by omega)
def kindC (k : Int) : Nat := if k = 1 then 91 else 80
theorem guess_seq (s : ByteArray) (h2 : 1 < s.size) (h0 : (s[0]'(by omega)).toNat = 27) (k : Int) (h1 : (s[1]'h2).toNat = kindC k) (hk : k = 1 ∨ k = 3) : guessS s.data.toList = seqS k (s.data.toList.drop 2) := by
 rw [two_bytes s h2, u8_is h0, u8_is h1]
 rcases hk with rfl | rfl <;> simp [guessS, kindC]
theorem seq_e (k : Int) (s : ByteArray) (h : s.size = 2) : seqS k (s.data.toList.drop 2) = tailS k 0 2 (s.data.toList.drop 2) := by
 have : s.data.toList.drop 2 = [] := List.drop_eq_nil_of_le (by simp; omega)
 rw [this]; rfl
theorem seq_no (k : Int) (s : ByteArray) (h : 2 < s.size) (hc : (s[2]'h).toNat < 60 ∨ 63 < (s[2]'h).toNat) : seqS k (s.data.toList.drop 2) = tailS k 0 2 (s.data.toList.drop 2) := by
 rw [third s h]
 unfold seqS
 dsimp only
 rw [if_neg (by rw [Bool.not_eq_true, btw_no]; omega)]
theorem seq_yes (k : Int) (s : ByteArray) (h : 2 < s.size) (hc : 60 ≤ (s[2]'h).toNat ∧ (s[2]'h).toNat ≤ 63) : seqS k (s.data.toList.drop 2) = tailS k (s[2]'h) 3 (s.data.toList.drop 3) := by
 rw [third s h]
 unfold seqS
 dsimp only
 rw [if_pos ((btw_iff _ _ _).2 hc)]
theorem tail_none (k : Int) (pv : UInt8) (at_ n1 n2 m1 m2 : Nat) (l : List UInt8) (h1 : runL l at_ 48 59 = n1) (e1 : at_ + n1 = m1) (h2 : runL l m1 32 47 = n2) (e2 : m1 + n2 = m2) (hm : l.length ≤ m2) : tailS k pv at_ (l.drop at_) = none := by
 unfold runL at h1 h2
 unfold tailS
 have d1 : (l.drop at_).drop n1 = l.drop m1 := by rw [List.drop_drop, e1]
 have d2 : (l.drop m1).drop n2 = l.drop m2 := by rw [List.drop_drop, e2]
 rw [h1, d1, h2, d2, List.drop_eq_nil_of_le hm]
theorem tail_some (k : Int) (pv : UInt8) (at_ n1 n2 m1 m2 : Nat) (l : List UInt8) (h1 : runL l at_ 48 59 = n1) (e1 : at_ + n1 = m1) (h2 : runL l m1 32 47 = n2) (e2 : m1 + n2 = m2) (ps : List (List Int)) (hp : numsL ((l.drop at_).takeWhile (btw 48 59)) = ps) (hm : m2 < l.length) :
 tailS k pv at_ (l.drop at_) = some (⟨k, pv, ps, (l.drop m1).takeWhile (btw 32 47), l.getD m2 0, if k = 3 then (l.drop (m2 + 1)).takeWhile (btw 32 126) else []⟩, m2 + 1 + if k = 3 then ((l.drop (m2 + 1)).takeWhile (btw 32 126)).length + 2 else 0) := by
 unfold runL at h1 h2
 unfold tailS
 have d1 : (l.drop at_).drop n1 = l.drop m1 := by rw [List.drop_drop, e1]
 have d2 : (l.drop m1).drop n2 = l.drop m2 := by rw [List.drop_drop, e2]
 rw [h1, d1, h2, d2, List.drop_eq_getElem_cons hm, hp]
 dsimp only
 rw [e1, e2, getD_at _ _ hm]
theorem tail_1 {pv : UInt8} {at_ m1 m2 : Nat} {l : List UInt8} {ps : List (List Int)} {x : UInt8} (h : m2 < l.length → tailS 1 pv at_ (l.drop at_) = some (⟨1, pv, ps, (l.drop m1).takeWhile (btw 32 47), l.getD m2 0, if (1 : Int) = 3 then (l.drop (m2 + 1)).takeWhile (btw 32 126) else []⟩, m2 + 1 + if (1 : Int) = 3 then ((l.drop (m2 + 1)).takeWhile (btw 32 126)).length + 2 else 0)) (hm : m2 < l.length) (hx : x = l.getD m2 0) :
 tailS 1 pv at_ (l.drop at_) = some (⟨1, pv, ps, (l.drop m1).takeWhile (btw 32 47), x, []⟩, m2 + 1) := by
 rw [h hm, hx]
 simp
theorem tail_3 {pv : UInt8} {at_ m1 m2 m3 m4 n3 : Nat} {l : List UInt8} {ps : List (List Int)} {x : UInt8} (h : m2 < l.length → tailS 3 pv at_ (l.drop at_) = some (⟨3, pv, ps, (l.drop m1).takeWhile (btw 32 47), l.getD m2 0, if (3 : Int) = 3 then (l.drop (m2 + 1)).takeWhile (btw 32 126) else []⟩, m2 + 1 + if (3 : Int) = 3 then ((l.drop (m2 + 1)).takeWhile (btw 32 126)).length + 2 else 0)) (hm : m2 < l.length) (hx : x = l.getD m2 0) (h3 : m2 + 1 = m3) (hn : runL l m3 32 126 = n3) (h4 : m3 + n3 = m4) :
 tailS 3 pv at_ (l.drop at_) = some (⟨3, pv, ps, (l.drop m1).takeWhile (btw 32 47), x, (l.drop m3).takeWhile (btw 32 126)⟩, m4 + 2) := by
 unfold runL at hn
 rw [h hm, hx, h3, if_pos rfl, if_pos rfl, hn, ← h4]
 rfl
theorem guess_short (s : ByteArray) (h : s.size < 2) : guessS s.data.toList = none := by
 have hlen : s.data.toList.length = s.size := by simp
 match hl : s.data.toList with
 | [] => rfl
 | [c] => rfl
 | a :: b :: r => rw [hl] at hlen; simp at hlen; omega
theorem guess_not (s : ByteArray) (h2 : 1 < s.size) (h0 : (s[0]'(by omega)).toNat ≠ 27) : guessS s.data.toList = none := by
 have e : s[0]'(by omega) ≠ 27 := fun e => h0 (by rw [e]; rfl)
 rw [two_bytes s h2]
 unfold guessS
 dsimp only
 rw [if_pos e]
theorem guess_79n (s : ByteArray) (h2 : s.size = 2) (h0 : (s[0]'(by omega)).toNat = 27) (h1 : (s[1]'(by omega)).toNat = 79) : guessS s.data.toList = none := by
 have e : s.data.toList.drop 2 = [] := List.drop_eq_nil_of_le (by simp; omega)
 rw [two_bytes s (by omega), u8_is h0, u8_is h1, e]
 rfl
theorem guess_79s (s : ByteArray) (h2 : 2 < s.size) (h0 : (s[0]'(by omega)).toNat = 27) (h1 : (s[1]'(by omega)).toNat = 79) : guessS s.data.toList = some (⟨2, 0, [], [], s[2], []⟩, 3) := by
 rw [two_bytes s (by omega), u8_is h0, u8_is h1, third s h2]
 rfl
theorem guess_93 (s : ByteArray) (h2 : 1 < s.size) (h0 : (s[0]'(by omega)).toNat = 27) (h1 : (s[1]'h2).toNat = 93) (n m : Nat) (hn : runL s.data.toList 2 32 126 = n) (hm : 2 + n = m) : guessS s.data.toList = some (⟨4, 0, [], [], 0, (s.data.toList.drop 2).takeWhile (btw 32 126)⟩, m + 2) := by
 unfold runL at hn
 rw [← hm, ← hn]
 conv => lhs; rw [two_bytes s h2, u8_is h0, u8_is h1]
 rfl
theorem guess_esc (s : ByteArray) (h2 : 1 < s.size) (h0 : (s[0]'(by omega)).toNat = 27) (h1 : (s[1]'h2).toNat ≠ 79 ∧ (s[1]'h2).toNat ≠ 93 ∧ (s[1]'h2).toNat ≠ 91 ∧ (s[1]'h2).toNat ≠ 80) : guessS s.data.toList = escS (s.data.toList.drop 1) := by
 obtain ⟨e1, e2, e3, e4⟩ := h1
 rw [two_bytes s h2, u8_is h0]
 unfold guessS
 dsimp only
 rw [if_neg (by decide), if_neg (fun e => e1 (by rw [e]; rfl)), if_neg (fun e => e2 (by rw [e]; rfl)), if_neg (fun e => e3 (by rw [e]; rfl)), if_neg (fun e => e4 (by rw [e]; rfl))]
 rfl
theorem esc_none (l : List UInt8) (n2 m2 : Nat) (h2 : runL l 1 32 47 = n2) (e2 : 1 + n2 = m2) (hm : l.length ≤ m2) : escS (l.drop 1) = none := by
 unfold runL at h2
 unfold escS
 rw [h2, List.drop_drop, e2, List.drop_eq_nil_of_le hm]
theorem esc_some (l : List UInt8) (n2 m2 : Nat) (x : UInt8) (h2 : runL l 1 32 47 = n2) (e2 : 1 + n2 = m2) (hm : m2 < l.length) (hx : x = l.getD m2 0) : escS (l.drop 1) = some (⟨5, 0, [], (l.drop 1).takeWhile (btw 32 47), x, []⟩, m2 + 1) := by
 unfold runL at h2
 unfold escS
 rw [h2, List.drop_drop, e2, List.drop_eq_getElem_cons hm, hx, getD_at _ _ hm]
end Go.Proofs.YtjlhhelikiegdaaGreatDoor
