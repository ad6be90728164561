/-
  From layer 6's walks to a law's row: modes, arrays of two bools or numbers, and slices of bools that came in. What a round over a function keeps: all blocks of cells but some. (For all layers.) Layer 2, walked: a code point's bytes, laid behind others.
-/
import Derived.Test.YtbjmfhcgkpjcfaaDoorG02
import Derived.Test.YtbjmfhcgkpjcfaaDoorG09
import Derived.Test.YtbjmfhcgkpjcfaaDoorG11
import Derived.Test.YtbjmfhcgkpjcfaaDoorG12
import Derived.Deep.Grids
import Derived.RangeFuncNested
import Derived.RangeFuncBound
import Derived.RangeFuncCalls
import Derived.RangeFuncLeaves
import Derived.RangeFuncBox
import Derived.WalkKit
import Derived.OwnWalkIn
import Derived.TacticsInMore
import Derived.LoopNIn
import Derived.LoopIn
import Derived.Deep.RegionLaw
import Derived.BigRegion
namespace Go.Proofs.YtbjmfhcgkpjcfaaDoor
open Go.RowKit Go.WideShapes Go.ChangeShapes Go.ChangeAt Go.ChangeMaps Go.Deep

section
variable {H : Type} {enc : TypeId × Value → H}
theorem okWide_st {P : Program} {t : TypeId} {fs : Array Field} {W : World} {r : Reach} {b0 : Nat} {v : Value} (ht : P.underlying t = some (.struct fs)) (h : Value.okWide P W r b0 t v) : ∃ cs, v = .agg cs ∧ cs.size = P.cellsOf t := by
  simp only [Value.okWide, ht] at h
  obtain ⟨cs, h1, h2, _⟩ := h
  exact ⟨cs, h1, h2⟩
set_option maxRecDepth 100000 in
theorem mo_in {W : World} {held : Bool} {fuel : Nat} {cs : List Value} {x : DataW H × List MemPlace} (h : DataW.trod enc Tryd.prog W 0 (fun _ => true) held fuel 23 cs = some x) :
    ∃ m, cs = (moC m).toList ∧ okM m := by
  obtain ⟨xs, n, _, hx, hlen, hxl, hf⟩ := DataW.trod_struct Tryd.underlying23 h
  rw [show Tryd.prog.cellsOf 23 = 10 by kernel_rfl] at hlen
  match cs, hlen with
  | [u0, u1, u2, u3, u4, u5, u6, u7, u8, u9], _ =>
    match xs, hxl with
    | [y0, y1, y2, y3, y4, y5, y6, y7, y8, y9], _ =>
      have ci : Tryd.prog.cellsOf 3 = 1 := by kernel_rfl
      have cb : Tryd.prog.cellsOf 4 = 1 := by kernel_rfl
      have g0 : DataW.trod enc Tryd.prog W 0 (fun _ => true) held n 4 (List.take (Tryd.prog.cellsOf 4) (List.drop 0 [u0, u1, u2, u3, u4, u5, u6, u7, u8, u9])) = some y0 := hf 0 _ rfl
      have g1 : DataW.trod enc Tryd.prog W 0 (fun _ => true) held n 4 (List.take (Tryd.prog.cellsOf 4) (List.drop 1 [u0, u1, u2, u3, u4, u5, u6, u7, u8, u9])) = some y1 := hf 1 _ rfl
      have g2 : DataW.trod enc Tryd.prog W 0 (fun _ => true) held n 4 (List.take (Tryd.prog.cellsOf 4) (List.drop 2 [u0, u1, u2, u3, u4, u5, u6, u7, u8, u9])) = some y2 := hf 2 _ rfl
      have g3 : DataW.trod enc Tryd.prog W 0 (fun _ => true) held n 4 (List.take (Tryd.prog.cellsOf 4) (List.drop 3 [u0, u1, u2, u3, u4, u5, u6, u7, u8, u9])) = some y3 := hf 3 _ rfl
      have g4 : DataW.trod enc Tryd.prog W 0 (fun _ => true) held n 4 (List.take (Tryd.prog.cellsOf 4) (List.drop 4 [u0, u1, u2, u3, u4, u5, u6, u7, u8, u9])) = some y4 := hf 4 _ rfl
      have g5 : DataW.trod enc Tryd.prog W 0 (fun _ => true) held n 4 (List.take (Tryd.prog.cellsOf 4) (List.drop 5 [u0, u1, u2, u3, u4, u5, u6, u7, u8, u9])) = some y5 := hf 5 _ rfl
      have g6 : DataW.trod enc Tryd.prog W 0 (fun _ => true) held n 4 (List.take (Tryd.prog.cellsOf 4) (List.drop 6 [u0, u1, u2, u3, u4, u5, u6, u7, u8, u9])) = some y6 := hf 6 _ rfl
      have g7 : DataW.trod enc Tryd.prog W 0 (fun _ => true) held n 3 (List.take (Tryd.prog.cellsOf 3) (List.drop 7 [u0, u1, u2, u3, u4, u5, u6, u7, u8, u9])) = some y7 := hf 7 _ rfl
      have g8 : DataW.trod enc Tryd.prog W 0 (fun _ => true) held n 3 (List.take (Tryd.prog.cellsOf 3) (List.drop 8 [u0, u1, u2, u3, u4, u5, u6, u7, u8, u9])) = some y8 := hf 8 _ rfl
      have g9 : DataW.trod enc Tryd.prog W 0 (fun _ => true) held n 3 (List.take (Tryd.prog.cellsOf 3) (List.drop 9 [u0, u1, u2, u3, u4, u5, u6, u7, u8, u9])) = some y9 := hf 9 _ rfl
      rw [cb] at g0 g1 g2 g3 g4 g5 g6
      rw [ci] at g7 g8 g9
      obtain ⟨z0, k0, _⟩ := DataW.trod_bool Tryd.underlying4 g0
      obtain ⟨z1, k1, _⟩ := DataW.trod_bool Tryd.underlying4 g1
      obtain ⟨z2, k2, _⟩ := DataW.trod_bool Tryd.underlying4 g2
      obtain ⟨z3, k3, _⟩ := DataW.trod_bool Tryd.underlying4 g3
      obtain ⟨z4, k4, _⟩ := DataW.trod_bool Tryd.underlying4 g4
      obtain ⟨z5, k5, _⟩ := DataW.trod_bool Tryd.underlying4 g5
      obtain ⟨z6, k6, _⟩ := DataW.trod_bool Tryd.underlying4 g6
      obtain ⟨z7, k7, _, w7⟩ := DataW.trod_int Tryd.underlying3 g7
      obtain ⟨z8, k8, _, w8⟩ := DataW.trod_int Tryd.underlying3 g8
      obtain ⟨z9, k9, _, w9⟩ := DataW.trod_int Tryd.underlying3 g9
      simp at k0 k1 k2 k3 k4 k5 k6 k7 k8 k9
      subst k0 k1 k2 k3 k4 k5 k6 k7 k8 k9
      have b7 := bounds_i64 w7
      have b8 := bounds_i64 w8
      have e7 : inI z7 := ⟨by omega, by omega⟩
      have e8 : inI z8 := ⟨by omega, by omega⟩
      exact ⟨⟨z0, z1, z2, z3, z4, z5, z6, z7, z8, z9⟩, rfl, e7, e8⟩
set_option maxRecDepth 100000 in
theorem open_mo {r : Reach} {b0 : Nat} {W : World} {v : Value} {d : DataW H} {ps : List MemPlace} (hval : Value.okWide Tryd.prog W r b0 23 v) (h : DataW.Trod enc Tryd.prog W 0 (fun _ => true) true 23 v d ps) :
    ∃ m, v = moV m ∧ okM m := by
  obtain ⟨cs, rfl, _⟩ := okWide_st Tryd.underlying23 hval
  obtain ⟨fuel, hf⟩ := h
  obtain ⟨m, hm, hk⟩ := mo_in hf
  refine ⟨m, ?_, hk⟩
  have e : cs = moC m := by
    apply Array.ext'
    simpa [Value.cells] using hm
  rw [e]
  rfl
end
end Go.Proofs.YtbjmfhcgkpjcfaaDoor
namespace Go.Proofs.YtbjmfhcgkpjcfaaDoor
open Go.RowKit

/-- What a round that goes on keeps: all blocks of cells but those of X. -/
def KpX (X : Nat → Prop) (W W' : World) : Prop := W.heap.size ≤ W'.heap.size ∧ ∀ k o, W.heap[k]? = some o → o.isCells = true → ¬ X k → W'.heap[k]? = some o
section
variable {X : Nat → Prop} {W W' W'' : World} {A : Option Addr} {xs : List Value}
theorem KpX.refl (X : Nat → Prop) (W : World) : KpX X W W := ⟨Nat.le_refl _, fun _ _ h _ _ => h⟩
theorem KpX.trans (h : KpX X W W') (k : KpX X W' W'') : KpX X W W'' := ⟨Nat.le_trans h.1 k.1, fun i o hi ho hx => k.2 i o (h.2 i o hi ho hx) ho hx⟩
theorem KpX.put (X : Nat → Prop) (W : World) (l : Nat) (o o' : Obj) (h : W.heap[l]? = some o) (hc : o.isCells = false) : KpX X W (W.putObj l o') :=
  ⟨by simp, fun k u hk hu _ => by
    by_cases e : k = l
    · subst e
      rw [h] at hk
      cases hk
      rw [hc] at hu
      cases hu
    · exact (World.putObj_heap_other e).trans hk⟩
theorem KpX.of_below (h : Below W.heap.size W W') : KpX X W W' := ⟨h.size, fun k _ hk _ _ => (h.block k (Array.getElem?_eq_some_iff.1 hk).1).trans hk⟩
theorem KpX.set (h : KpX X W W') {a : Addr} (ha : X a.block) (v : Value) : KpX X W (W'.setCell a v) :=
  ⟨by simpa [World.setCell] using h.1, fun k o hk ho hx => (Below.heap_setCell W' a v k (fun e => hx (by rw [e]; exact ha))).trans (h.2 k o hk ho hx)⟩
theorem cells_is {w : World} {a : Addr} {v : Value} (h : w.cell? a = some v) : ∃ o : Obj, w.heap[a.block]? = some o ∧ o.isCells = true := cells_of_cell h
theorem RdOff.kpx (h : RdOff W X A xs) (hk : KpX X W W') : RdOff W' X A xs := fun hp => by
  obtain ⟨b, o, rfl, hb, hn, hc⟩ := h hp
  obtain ⟨ob, h1, h2⟩ := cells_is (hc 0 _ (List.getElem?_eq_getElem hp))
  refine ⟨b, o, rfl, Nat.lt_of_lt_of_le hb hk.1, hn, fun k u hu => (World.cell?_of_block (w := W) (a := ⟨b, o + k, none⟩) ?_).trans (hc k u hu)⟩
  exact (hk.2 b ob h1 h2 hn).trans h1.symm
theorem RdOff.below' (h : RdOff W X A xs) (hb : Below W.heap.size W W') : RdOff W' X A xs := h.fr (Fr.of_below hb X) (Wid.refl _ _)
theorem Blk.kpx {g : Nat} {t : TypeId} {cs : Array Value} (h : Blk W g t cs) (hk : KpX X W W') (hn : ¬ X g) : Blk W' g t cs := hk.2 g _ h rfl hn
end
theorem Rd.off {w : World} {X : Nat → Prop} {g o : Nat} {xs : List Value} (h : Rd w (some ⟨g, o, none⟩) xs) (hn : ¬ X g) : RdOff w X (some ⟨g, o, none⟩) xs := fun hp => by
  obtain ⟨b, o', hA, hb, hc⟩ := h hp
  simp only [Option.some.injEq, Addr.mk.injEq, and_true] at hA
  obtain ⟨rfl, rfl⟩ := hA
  exact ⟨g, o, rfl, hb, hn, hc⟩
theorem RdIn.kpx {n₁ : Nat} {w w' : World} {X : Nat → Prop} {A : Option Addr} {xs : List Value} (h : RdIn n₁ w A xs) (hk : KpX X w w') (hX : ∀ k, X k → n₁ ≤ k) : RdIn n₁ w' A xs := fun hp => by
  obtain ⟨b, o, rfl, hb, hc⟩ := h hp
  obtain ⟨ob, h1, h2⟩ := cells_is (hc 0 _ (List.getElem?_eq_getElem hp))
  refine ⟨b, o, rfl, hb, fun k u hu => (World.cell?_of_block (w := w) (a := ⟨b, o + k, none⟩) ?_).trans (hc k u hu)⟩
  exact (hk.2 b ob h1 h2 (fun hx => by have := hX b hx; omega)).trans h1.symm
theorem keeps_below {W W' : World} (h : Below W.heap.size W W') : KeepsOthers W W' := ⟨h.size, fun k _ hk _ => (h.block k (Array.getElem?_eq_some_iff.1 hk).1).trans hk⟩
theorem below_grownN {w w' : World} (h : Below w.heap.size w w') : w.grownBy w' none := ⟨h.os, h.tape, h.output, h.size, fun k hk _ => h.block k hk⟩
theorem blk_own {β : Type} (B : Nat) (t : TypeId) (f : β → Array Value) : Go.Own (fun s W => Blk W B t (f s)) := fun s X Y row hs hg hrow =>
  hs.grown hg (fun e' => by obtain ⟨o, ho, hc⟩ := hrow B e'; rw [show X.heap[B]? = _ from hs] at ho; cases ho; cases hc)
theorem ownFrom_no {β : Type} (B : Nat) : OwnFrom B (fun (_ : β) (_ : World) => False) := fun _ _ _ _ hs _ _ => hs
end Go.Proofs.YtbjmfhcgkpjcfaaDoor
namespace Go.Proofs.YtbjmfhcgkpjcfaaDoor
open Go.RowKit

theorem Tryd.u8info : (Tryd.prog.info? 5).map (fun i => (i.zero, i.size, i.bytes)) = some (some (.int .u8 0), 1, 1) := by kernel_rfl

/-- 64, so many times by itself. -/
def wei : Nat → Int
  | 0 => 1
  | k + 1 => wei k * 64
theorem wei_pos (k : Nat) : 1 ≤ wei k := by
  induction k with
  | zero => exact Int.le_refl _
  | succ k ih => unfold wei; omega
theorem wei_le {k : Nat} (h : k ≤ 3) : wei k ≤ 262144 := by
  obtain rfl | rfl | rfl | rfl : k = 0 ∨ k = 1 ∨ k = 2 ∨ k = 3 := by omega
  all_goals simp [wei]
/-- The bytes behind the first one, k of them. -/
def tailL (r : Int) : Nat → List UInt8
  | 0 => []
  | k + 1 => byt (128 + r / wei k % 64) :: tailL r k
theorem tailL_length (r : Int) (k : Nat) : (tailL r k).length = k := by
  induction k with
  | zero => rfl
  | succ k ih => simp [tailL, ih]
/-- A code point's size and bytes, by how many follow. -/
theorem put_split {r : Int} (h : isPt r = true) : ∃ (j : Nat) (least lead : Int), j ≤ 3 ∧ cnt r = j + 1 ∧ szA (ixP r 4) = #[.int .i64 ((j : Int) + 1), .int .i64 least, .int .i64 lead] ∧ 0 ≤ lead ∧ 0 ≤ lead + r / wei j ∧ lead + r / wei j ≤ 255 ∧ 0 ≤ r / wei j ∧ r / wei j ≤ 255 ∧ lead ≤ 240 ∧
    putL r = byt (lead + r / wei j) :: tailL r j := by
  obtain ⟨h0, h1, _⟩ := (isPt_iff r).1 h
  have w0 : wei 0 = 1 := rfl
  have w1 : wei 1 = 64 := rfl
  have w2 : wei 2 = 4096 := rfl
  have w3 : wei 3 = 262144 := rfl
  by_cases a1 : r < 128
  · refine ⟨0, 0, 0, by omega, by simp [cnt, a1], ?_, by omega, ?_, ?_, ?_, ?_, by omega, ?_⟩
    · rw [show ixP r 4 = 0 by unfold ixP; (repeat' split) <;> omega]; rfl
    · rw [w0]; omega
    · rw [w0]; omega
    · rw [w0]; omega
    · rw [w0]; omega
    · rw [putL_1 h a1, w0, Int.ediv_one, Int.zero_add]; rfl
  · by_cases a2 : r < 2048
    · refine ⟨1, 128, 192, by omega, by simp [cnt, a1, a2], ?_, by omega, ?_, ?_, ?_, ?_, by omega, ?_⟩
      · rw [show ixP r 4 = 1 by unfold ixP; (repeat' split) <;> omega]; rfl
      · rw [w1]; omega
      · rw [w1]; omega
      · rw [w1]; omega
      · rw [w1]; omega
      · rw [putL_2 h (by omega) a2, w1]; simp only [tailL, w0, Int.ediv_one]
    · by_cases a3 : r < 65536
      · refine ⟨2, 2048, 224, by omega, by simp [cnt, a1, a2, a3], ?_, by omega, ?_, ?_, ?_, ?_, by omega, ?_⟩
        · rw [show ixP r 4 = 2 by unfold ixP; (repeat' split) <;> omega]; rfl
        · rw [w2]; omega
        · rw [w2]; omega
        · rw [w2]; omega
        · rw [w2]; omega
        · rw [putL_3 h (by omega) a3, w2]; simp only [tailL, w0, w1, Int.ediv_one]
      · refine ⟨3, 65536, 240, by omega, by simp [cnt, a1, a2, a3], ?_, by omega, ?_, ?_, ?_, ?_, by omega, ?_⟩
        · rw [show ixP r 4 = 3 by unfold ixP; (repeat' split) <;> omega]; rfl
        · rw [w3]; omega
        · rw [w3]; omega
        · rw [w3]; omega
        · rw [w3]; omega
        · rw [putL_4 h (by omega), w3]; simp only [tailL, w0, w1, w2, Int.ediv_one]

theorem tail_step (ys : List Value) (r Y : Int) (j : Nat) (h : Y = wei j) : ys ++ bs [byt (128 + r / Y % 64)] ++ bs (tailL r j) = ys ++ bs (tailL r (j + 1)) := by
  subst h
  rw [List.append_assoc]
  rfl

set_option maxRecDepth 100000 in
set_option maxHeartbeats 4000000 in
theorem put_any (r : Int) (h : isPt r = true) (base : Nat) (v : Value) (n : Nat) (xs : List Value) (w : World) (hs : Siz w) (hown : Own w base 5 1 v n xs) (hbase : base ≤ w.heap.size) (hn : n ≤ 4294967296) :
    Calls Tryd.prog 65 #[v, .int .i64 r] w fun e w' => ∃ v', e = .returned v' ∧ Own w' base 5 1 v' (n + cnt r) (xs ++ bs (putL r)) ∧ Below base w w' := by
  obtain ⟨i0, hi, hz0, hz1, hz2⟩ := info_parts Tryd.u8info
  obtain ⟨j, least, lead, hj, hc, hz, l0, l1, l2, l3, l4, l5, hp⟩ := put_split h
  obtain ⟨h0, h1, _⟩ := (isPt_iff r).1 h
  have HF := byt_val (lead + r / wei j) l1 (by omega)
  obtain ⟨f, hf⟩ : ∃ f, byt (lead + r / wei j) = f := ⟨_, rfl⟩
  rw [hf] at hp HF
  rw [hc, hp]
  have HG := Lib.hid HF
  clear hf hp hc HF
  go_enter Tryd.func65, Tryd.ntmps65
  go_wp2_with fail
  refine (sizeOf_any r _ hs).mono ?_
  rw [hz]
  rintro e w1 ⟨rfl, hb1⟩
  go_wp2_with fail
  have hown1 : Own w1 base 5 1 v n xs := hown.behind hb1
  have hB1 : Below base w w1 := hb1.mono hbase
  have hs1 := hb1.size
  have p1 := Blk.new w1 108 #[.int .i64 ((j : Int) + 1), .int .i64 least, .int .i64 lead]
  have g2 := p1.cell 2
  clear hb1 hz
  go_loop [6, 12] (fun a i => ∃ k : Nat, k ≤ j ∧ a = .int .i64 (wei k) ∧ i = .int .i64 k) (fun _ i => j - (intOf i).toNat)
  case atStart => exact ⟨0, Nat.zero_le _, rfl, rfl⟩
  case round =>
    obtain ⟨k, hk, rfl, rfl⟩ := hrel
    by_cases hlt : k < j
    · have b1 := wei_pos k
      have b2 := wei_le (k := k) (by omega)
      have e1 : wei (k + 1) = wei k * 64 := rfl
      have E1 := Lib.hid e1
      clear e1
      go_wp2
      go_round
      case rel => exact ⟨k + 1, by omega, by rw [E1.out], by go_num⟩
      case measure => simp [intOf]; omega
    · obtain rfl : k = j := by omega
      have b1 := wei_pos k
      have b2 := wei_le (k := k) (by omega)
      have e1 : r.tdiv (wei k) = r / wei k := Int.tdiv_eq_ediv_of_nonneg h0
      have e2 : IntKind.i64.wrap (r / wei k) = r / wei k := IntWalk.i64_in _ (by omega)
      have e3 : IntKind.i64.wrap (lead + r / wei k) = lead + r / wei k := IntWalk.i64_in _ (by omega)
      have e4 : IntKind.u8.wrap (lead + r / wei k) = lead + r / wei k := by rw [IntKind.wrap_u8]; omega
      have hB2 : Below base w (w1.alloc (.cells #[.int .i64 ((k : Int) + 1), .int .i64 least, .int .i64 lead] 108)) := hB1.alloc (Nat.le_trans hbase hs1) _
      have hownA : ∀ o, Own ((w1.alloc (.cells #[.int .i64 ((k : Int) + 1), .int .i64 least, .int .i64 lead] 108)).alloc o).drew base 5 1 v n xs := fun o => ((hown1.alloc _).alloc o).drew
      have hBA : ∀ o, Below base w ((w1.alloc (.cells #[.int .i64 ((k : Int) + 1), .int .i64 least, .int .i64 lead] 108)).alloc o).drew := fun o => (hB2.alloc (Nat.le_trans hbase hB2.size) o).drew
      have hrA : ∀ x, Rd ((w1.alloc (.cells #[.int .i64 ((k : Int) + 1), .int .i64 least, .int .i64 lead] 108)).alloc (.cells #[x] 5)).drew (some ⟨w1.heap.size + 1, 0, none⟩) [x] := fun x => by
        have := rd_lit (w1.alloc (.cells #[.int .i64 ((k : Int) + 1), .int .i64 least, .int .i64 lead] 108)) x 5
        rw [World.size_alloc] at this
        exact this
      have hw0 : ¬ wei k = 0 := by omega
      have h63 : n + 1 ≤ maxLen := by simp only [maxLen]; omega
      have hlim : (n + 1) * 1 ≤ 140737488355328 := by omega
      have one1 : ∀ x : Int, ∀ u ∈ [Value.int .u8 x], u.oneCell' = true := fun x => ints_one [x]
      go_wp2
      go_region_law (refine step_app _ rfl (.tmp 17) (.tmp 25) 28 rfl base 5 i0 _ 1 1 Tryd.underlying28 hi hz0 hz1 hz2 rfl Nat.one_pos v n xs (by simp [Act.eval]) (hownA _) (some ⟨w1.heap.size + 1, 0, none⟩) 1 1 _ (by simp [Act.eval]) rfl (hrA _) (one1 _) h63 hlim (Nat.le_trans hbase (hBA _).size) ?_; intro v' w' hown' hg')
      all_goals
        have hB3 : Below base w w' := (hBA _).grown hg' (Nat.le_trans hbase (hBA _).size) (fun g hg => (hown1.lt g hg).1)
        rw [HG.out] at hown'
        clear hg' hBA hownA hrA hB2 one1 h63 hlim e1 e2 e3 e4 hw0 p1 g2 hown1 hB1 hs1
        clear l1 l2 l3 l4 HG
        go_wp2
        simp only [Act.put, List.getElem_toArray, List.getElem_cons_succ, List.getElem_cons_zero, List.setIfInBounds_toArray, List.set_cons_zero]
        go_loopw [0, 6] (fun a wt wr => ∃ (j m : Nat) (ys : List Value), j ≤ k ∧ wt = .int .i64 (wei j) ∧ Own wr base 5 1 a m ys ∧ m + j = n + (k + 1) ∧ ys ++ bs (tailL r j) = xs ++ bs (f :: tailL r k) ∧ Below base w wr) (fun _ wt _ => (intOf wt).toNat)
        case atStart => exact ⟨k, n + 1, _, Nat.le_refl _, rfl, hown', by omega, by simp [bs], hB3⟩
        case round =>
          clear hown' hB3
          obtain ⟨j, m, ys, hjk, rfl, hown, hm, hy, hbw⟩ := hrel
          have HY := Lib.hid hy
          have HM := Lib.hid hm
          have hml : m ≤ 4294967300 := by omega
          clear hy hm
          cases j with
          | zero =>
            have e0 : wei 0 = 1 := rfl
            go_wp2
            go_ret
            refine ⟨_, rfl, ?_, hbw⟩
            have h1 := HY.out
            simp only [tailL, bs, List.map_nil, List.append_nil] at h1
            rw [show n + (k + 1) = m from HM.out.symm]
            simp only [bs] at *
            rw [← h1]; exact hown
          | succ j =>
            have b1 := wei_pos j
            have b2 := wei_le (k := j) (by omega)
            obtain ⟨X, hX⟩ : ∃ X, wei (j + 1) = X := ⟨_, rfl⟩
            have hX2 : X = wei j * 64 := hX.symm
            have hXd := Lib.hid (show X / 64 = wei j by omega)
            have x1 : 64 ≤ X := by omega
            have x2 : X ≤ 16777216 := by omega
            have x3 : ¬ X / 64 = 0 := by omega
            have x4 : 1 ≤ X / 64 := by omega
            have x5 : 0 ≤ r / (X / 64) := Int.ediv_nonneg h0 (by omega)
            have x6 : r / (X / 64) ≤ 1114111 := Int.le_trans (Int.ediv_le_self _ h0) h1
            have x7 : 0 ≤ r / (X / 64) % 64 := by omega
            have x8 : r / (X / 64) % 64 < 64 := by omega
            have hXX := Lib.hid hX
            have hbv := Lib.hid (byt_val (128 + r / (X / 64) % 64) (by omega) (by omega))
            rw [hX]
            clear hX hX2 b1 b2
            have h63 : m + 1 ≤ maxLen := by simp only [maxLen]; omega
            have hlim : (m + 1) * 1 ≤ 140737488355328 := by omega
            have one1 : ∀ x : Int, ∀ u ∈ [Value.int .u8 x], u.oneCell' = true := fun x => ints_one [x]
            have hbs := Nat.le_trans hbase hbw.size
            go_wp2_with (at_builtin; refine list_app _ rfl (.tmp 31) (.tmp 38) 28 rfl base 5 i0 _ 1 1 Tryd.underlying28 hi hz0 hz1 hz2 rfl Nat.one_pos _ _ _ rfl (hown.alloc _) (some ⟨wr.heap.size, 0, none⟩) 1 1 _ rfl rfl (rd_lit wr _ _) (one1 _) h63 hlim (by simp; omega) ?_; intro v4 w4 hown4 hg4)
            have hb4 : Below base w w4 := (hbw.alloc hbs _).grown hg4 (by simp; omega) (fun g hg => (hown.lt g hg).1)
            rw [hbv.out] at hown4
            clear hg4
            go_wp2
            go_roundw
            case rel =>
              refine ⟨j, m + 1, _, by omega, by rw [hXd.out], hown4, by have := HM.out; omega, ?_, hb4⟩
              rw [← HY.out]
              exact tail_step _ _ _ _ hXd.out
            case measure => simp [intOf]; omega
end Go.Proofs.YtbjmfhcgkpjcfaaDoor
