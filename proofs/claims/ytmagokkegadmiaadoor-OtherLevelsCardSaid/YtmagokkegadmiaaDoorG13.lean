/-
  Layer 3's mathematics: a sequence's body, a parameter at a time; its length. Cut out of WirF: what names no function of any dump. The cells of a block of five, and of six. What a round over a function keeps: all blocks of cells but some. (For all layers.) Cut out of LegV: what names no function of any dump. Layer 3, walked: the program's char (in a text of its own: a dump that doesn't call it can load the others). A region that draws its order, in which an empty row is made, and two slices are appended, one behind the other (append(append([]T{}, a...), b...)). From layer 10's walks on: a key's event that came in.
-/
import Derived.Test.YtmagokkegadmiaaDoorG03
import Derived.Test.YtmagokkegadmiaaDoorG04
import Derived.Test.YtmagokkegadmiaaDoorG06
import Derived.Test.YtmagokkegadmiaaDoorG07
import Derived.Test.YtmagokkegadmiaaDoorG09
import Derived.Test.YtmagokkegadmiaaDoorG11
import Derived.RangeFuncNested
import Derived.RangeFuncBound
import Derived.RangeFuncCalls
import Derived.RangeFuncLeaves
import Derived.RangeFuncBox
import Derived.WalkKit
import Derived.OwnWalkIn
import Derived.TacticsInMore
import Derived.LoopNIn
import Derived.LoopIn
import Derived.Deep.Matrix
import Derived.Deep.Slices
import Derived.OpenShut
import Derived.Deep.Grids
namespace Go.Proofs.YtmagokkegadmiaaDoor
open Go.RowKit

theorem str_cat (a b c : List UInt8) (h : a ++ b = c) : (⟨a.toArray⟩ : ByteArray) ++ (⟨b.toArray⟩ : ByteArray) = ⟨c.toArray⟩ := by
  subst h
  apply ByteArray.ext
  simp [ByteArray.data_append]
theorem partL_snoc (p : List Int) (n : Int) : partL (p ++ [n]) = partL p ++ (if p = [] then [] else [58]) ++ textL n := by
  match p with
  | [] => simp [partL]
  | [m] => simp [partL]
  | m :: k :: p =>
    have ih := partL_snoc (k :: p) n
    show textL m ++ (58 :: partL (k :: p ++ [n])) = _
    rw [ih]
    simp [partL]
theorem parL_snoc (l : List (List Int)) (p : List Int) : parL (l ++ [p]) = parL l ++ (if l = [] then [] else [59]) ++ partL p := by
  match l with
  | [] => simp [parL]
  | [m] => simp [parL]
  | m :: k :: l =>
    have ih := parL_snoc (k :: l) p
    show partL m ++ (59 :: parL (k :: l ++ [p])) = _
    rw [ih]
    simp [parL]
theorem partL_len : ∀ (p : List Int), partOk p → (partL p).length ≤ 22 * p.length := by
  intro p ho
  match p with
  | [] => simp [partL]
  | [n] =>
    have := textL_length n (by have := ho n (List.mem_cons_self ..); omega)
    simp only [partL, List.length_cons, List.length_nil]; omega
  | n :: m :: p =>
    have h1 := textL_length n (by have := ho n (List.mem_cons_self ..); omega)
    have h2 := partL_len (m :: p) (fun x hx => ho x (List.mem_cons_of_mem _ hx))
    show (textL n ++ (58 :: partL (m :: p))).length ≤ _
    rw [List.length_append, List.length_cons]
    simp only [List.length_cons] at *
    omega
theorem partL_take {p : List Int} {k : Nat} (h : k < p.length) : partL (p.take (k + 1)) = partL (p.take k) ++ (if k = 0 then [] else [58]) ++ textL p[k] := by
  rw [List.take_succ_eq_append_getElem h, partL_snoc]
  congr 2
  by_cases hk : k = 0
  · subst hk; simp
  · rw [if_neg hk, if_neg]
    intro e
    have := congrArg List.length e
    rw [List.length_take, List.length_nil] at this
    omega
theorem parL_take {l : List (List Int)} {k : Nat} (h : k < l.length) : parL (l.take (k + 1)) = parL (l.take k) ++ (if k = 0 then [] else [59]) ++ partL l[k] := by
  rw [List.take_succ_eq_append_getElem h, parL_snoc]
  congr 2
  by_cases hk : k = 0
  · subst hk; simp
  · rw [if_neg hk, if_neg]
    intro e
    have := congrArg List.length e
    rw [List.length_take, List.length_nil] at this
    omega
theorem parL_len : ∀ (l : List (List Int)), (∀ p ∈ l, p.length ≤ 8 ∧ partOk p) → (parL l).length ≤ 177 * l.length := by
  intro l ho
  match l with
  | [] => simp [parL]
  | [p] =>
    have h := ho p (List.mem_cons_self ..)
    have := partL_len p h.2
    simp only [parL, List.length_cons, List.length_nil]; omega
  | p :: q :: l =>
    have h := ho p (List.mem_cons_self ..)
    have h1 := partL_len p h.2
    have h2 := parL_len (q :: l) (fun x hx => ho x (List.mem_cons_of_mem _ hx))
    show (partL p ++ (59 :: parL (q :: l))).length ≤ _
    rw [List.length_append, List.length_cons]
    simp only [List.length_cons] at *
    omega
theorem parOk_lens {l : List (List Int)} (h : parOk l = true) : l.length ≤ 16 ∧ ∀ p ∈ l, p.length ≤ 8 ∧ partOk p := by
  simp only [parOk, Bool.and_eq_true, decide_eq_true_eq, List.all_eq_true] at h
  refine ⟨h.1.1, fun p hp => ?_⟩
  obtain ⟨⟨_, h1⟩, h2⟩ := h.2 p hp
  exact ⟨h1, fun n hn => h2 n hn⟩
end Go.Proofs.YtmagokkegadmiaaDoor
namespace Go.Proofs.YtmagokkegadmiaaDoor
open Go.RowKit

/-- Bytes and no error; no bytes and an error. -/
def WYes (T : List UInt8) (w : World) (e : Ending) (w' : World) : Prop := (∃ A c, e = .returned (.tuple #[.slice A T.length c, .int .i64 0]) ∧ T.length ≤ c ∧ Rd w' A (bs T)) ∧ Below w.heap.size w w'
def WNo (m : Int) (w : World) (e : Ending) (w' : World) : Prop := e = .returned (.tuple #[.slice none 0 0, .int .i64 m]) ∧ Below w.heap.size w w'
theorem body_len {s : Sq} (hp : parOk s.params = true) (hi : s.inter.length ≤ 2) : (bodyL s).length ≤ 3000 := by
  obtain ⟨h1, h2⟩ := parOk_lens hp
  have h3 := parL_len s.params h2
  have h4 : (privL s.priv).length ≤ 1 := by unfold privL; split <;> simp
  unfold bodyL
  rw [List.length_append, List.length_append]
  omega
end Go.Proofs.YtmagokkegadmiaaDoor
namespace Go.Proofs.YtmagokkegadmiaaDoor
open Go.RowKit

theorem Blk.cells5 {w : World} {g : Nat} {t : TypeId} {a b c d e : Value} (h : Blk w g t #[a, b, c, d, e]) :
    w.cell? ⟨g, 0, none⟩ = some a ∧ w.cell? ⟨g, 1, none⟩ = some b ∧ w.cell? ⟨g, 2, none⟩ = some c ∧ w.cell? ⟨g, 3, none⟩ = some d ∧ w.cell? ⟨g, 4, none⟩ = some e :=
  ⟨h.cell 0, h.cell 1, h.cell 2, h.cell 3, h.cell 4⟩
theorem Blk.cells6 {w : World} {g : Nat} {t : TypeId} {a b c d e f : Value} (h : Blk w g t #[a, b, c, d, e, f]) :
    w.cell? ⟨g, 0, none⟩ = some a ∧ w.cell? ⟨g, 1, none⟩ = some b ∧ w.cell? ⟨g, 2, none⟩ = some c ∧ w.cell? ⟨g, 3, none⟩ = some d ∧ w.cell? ⟨g, 4, none⟩ = some e ∧ w.cell? ⟨g, 5, none⟩ = some f :=
  ⟨h.cell 0, h.cell 1, h.cell 2, h.cell 3, h.cell 4, h.cell 5⟩
end Go.Proofs.YtmagokkegadmiaaDoor
namespace Go.Proofs.YtmagokkegadmiaaDoor
open Go.RowKit

/-- What a round that goes on keeps: all blocks of cells but those of X. -/
def KpX (X : Nat → Prop) (W W' : World) : Prop := W.heap.size ≤ W'.heap.size ∧ ∀ k o, W.heap[k]? = some o → o.isCells = true → ¬ X k → W'.heap[k]? = some o
section
variable {X : Nat → Prop} {W W' W'' : World} {A : Option Addr} {xs : List Value}
theorem KpX.refl (X : Nat → Prop) (W : World) : KpX X W W := ⟨Nat.le_refl _, fun _ _ h _ _ => h⟩
theorem KpX.trans (h : KpX X W W') (k : KpX X W' W'') : KpX X W W'' := ⟨Nat.le_trans h.1 k.1, fun i o hi ho hx => k.2 i o (h.2 i o hi ho hx) ho hx⟩
theorem KpX.put (X : Nat → Prop) (W : World) (l : Nat) (o o' : Obj) (h : W.heap[l]? = some o) (hc : o.isCells = false) : KpX X W (W.putObj l o') :=
  ⟨by simp, fun k u hk hu _ => by
    by_cases e : k = l
    · subst e
      rw [h] at hk
      cases hk
      rw [hc] at hu
      cases hu
    · exact (World.putObj_heap_other e).trans hk⟩
theorem KpX.of_below (h : Below W.heap.size W W') : KpX X W W' := ⟨h.size, fun k _ hk _ _ => (h.block k (Array.getElem?_eq_some_iff.1 hk).1).trans hk⟩
theorem KpX.set (h : KpX X W W') {a : Addr} (ha : X a.block) (v : Value) : KpX X W (W'.setCell a v) :=
  ⟨by simpa [World.setCell] using h.1, fun k o hk ho hx => (Below.heap_setCell W' a v k (fun e => hx (by rw [e]; exact ha))).trans (h.2 k o hk ho hx)⟩
theorem cells_is {w : World} {a : Addr} {v : Value} (h : w.cell? a = some v) : ∃ o : Obj, w.heap[a.block]? = some o ∧ o.isCells = true := cells_of_cell h
theorem RdOff.kpx (h : RdOff W X A xs) (hk : KpX X W W') : RdOff W' X A xs := fun hp => by
  obtain ⟨b, o, rfl, hb, hn, hc⟩ := h hp
  obtain ⟨ob, h1, h2⟩ := cells_is (hc 0 _ (List.getElem?_eq_getElem hp))
  refine ⟨b, o, rfl, Nat.lt_of_lt_of_le hb hk.1, hn, fun k u hu => (World.cell?_of_block (w := W) (a := ⟨b, o + k, none⟩) ?_).trans (hc k u hu)⟩
  exact (hk.2 b ob h1 h2 hn).trans h1.symm
theorem RdOff.below' (h : RdOff W X A xs) (hb : Below W.heap.size W W') : RdOff W' X A xs := h.fr (Fr.of_below hb X) (Wid.refl _ _)
theorem Blk.kpx {g : Nat} {t : TypeId} {cs : Array Value} (h : Blk W g t cs) (hk : KpX X W W') (hn : ¬ X g) : Blk W' g t cs := hk.2 g _ h rfl hn
end
theorem Rd.off {w : World} {X : Nat → Prop} {g o : Nat} {xs : List Value} (h : Rd w (some ⟨g, o, none⟩) xs) (hn : ¬ X g) : RdOff w X (some ⟨g, o, none⟩) xs := fun hp => by
  obtain ⟨b, o', hA, hb, hc⟩ := h hp
  simp only [Option.some.injEq, Addr.mk.injEq, and_true] at hA
  obtain ⟨rfl, rfl⟩ := hA
  exact ⟨g, o, rfl, hb, hn, hc⟩
theorem RdIn.kpx {n₁ : Nat} {w w' : World} {X : Nat → Prop} {A : Option Addr} {xs : List Value} (h : RdIn n₁ w A xs) (hk : KpX X w w') (hX : ∀ k, X k → n₁ ≤ k) : RdIn n₁ w' A xs := fun hp => by
  obtain ⟨b, o, rfl, hb, hc⟩ := h hp
  obtain ⟨ob, h1, h2⟩ := cells_is (hc 0 _ (List.getElem?_eq_getElem hp))
  refine ⟨b, o, rfl, hb, fun k u hu => (World.cell?_of_block (w := w) (a := ⟨b, o + k, none⟩) ?_).trans (hc k u hu)⟩
  exact (hk.2 b ob h1 h2 (fun hx => by have := hX b hx; omega)).trans h1.symm
theorem keeps_below {W W' : World} (h : Below W.heap.size W W') : KeepsOthers W W' := ⟨h.size, fun k _ hk _ => (h.block k (Array.getElem?_eq_some_iff.1 hk).1).trans hk⟩
theorem below_grownN {w w' : World} (h : Below w.heap.size w w') : w.grownBy w' none := ⟨h.os, h.tape, h.output, h.size, fun k hk _ => h.block k hk⟩
theorem blk_own {β : Type} (B : Nat) (t : TypeId) (f : β → Array Value) : Go.Own (fun s W => Blk W B t (f s)) := fun s X Y row hs hg hrow =>
  hs.grown hg (fun e' => by obtain ⟨o, ho, hc⟩ := hrow B e'; rw [show X.heap[B]? = _ from hs] at ho; cases ho; cases hc)
theorem ownFrom_no {β : Type} (B : Nat) : OwnFrom B (fun (_ : β) (_ : World) => False) := fun _ _ _ _ hs _ _ => hs
end Go.Proofs.YtmagokkegadmiaaDoor
namespace Go.Proofs.YtmagokkegadmiaaDoor
open Go.RowKit

def notU8 : Value → Bool
  | .int .u8 _ => false
  | _ => true
/-- Bytes don't lie in a block that holds none. -/
theorem Rd.off_key {w : World} {A : Option Addr} {L : List UInt8} {g : Nat} {t : TypeId} {cs : Array Value} (h : Rd w A (bs L)) (hk : Blk w g t cs) (hc : cs.toList.all notU8 = true) : RdOff w (fun k => k = g) A (bs L) := fun hp => by
  obtain ⟨b, o, rfl, hb, hx⟩ := h hp
  refine ⟨b, o, rfl, hb, fun e => ?_, hx⟩
  subst e
  have h0 := hx 0 _ (List.getElem?_eq_getElem hp)
  rw [Nat.add_zero, hk.cell o] at h0
  obtain ⟨c, _, hcv⟩ := List.mem_map.1 (List.getElem_mem (l := bs L) hp)
  rw [← hcv] at h0
  have := List.all_eq_true.1 hc _ (Array.mem_def.1 (Array.mem_of_getElem? h0))
  cases this
end Go.Proofs.YtmagokkegadmiaaDoor
namespace Go.Proofs.YtmagokkegadmiaaDoor
open Go.RowKit

set_option maxRecDepth 100000 in
set_option maxHeartbeats 2000000 in
theorem char_any (c : UInt8) (w : World) (h : c.toNat < 128) :
    Calls Tryd.prog 24 #[.int .u8 (c.toNat : Int)] w fun e w' => e = .returned (.string ⟨(privL c).toArray⟩) ∧ w = w' := by
  by_cases h0 : c = 0
  · subst h0
    go_enter Tryd.func24, Tryd.ntmps24
    go_wp2
    go_ret
    exact ⟨rfl, rfl⟩
  · have E := Lib.hid (show privL c = [c] from if_neg h0)
    have n0 : c.toNat ≠ 0 := fun e => h0 (UInt8.toNat_inj.1 e)
    have t0 : ((c.toNat : Int) == 0) = false := beq_false_of_ne (by omega)
    clear h0 n0
    go_enter Tryd.func24, Tryd.ntmps24
    go_wp2
    go_ret
    exact ⟨by rw [E.out, ← char_str c h]; rfl, rfl⟩
end Go.Proofs.YtmagokkegadmiaaDoor
namespace Go.Proofs.YtmagokkegadmiaaDoor
open Go.RowKit

section
variable {P : Program} {ops : Array Oper} {md : Region.Mode}
structure SJ (w1 : World) (i0 i1 i2 i3 : Nat) (d0 d1 d2 d3 : Tmp) (te : TypeId) (n1 n2 : Nat) (x1 x2 : List Value) (l : Array Bool) (g : Tmp → Value) (w : World) : Prop where
  below : Below w1.heap.size w1 w
  s0 : l.getD i0 false = true → l.getD i1 false = false → Own w w1.heap.size te 1 (g d0) 0 []
  s1 : l.getD i1 false = true → l.getD i2 false = false → Own w w1.heap.size te 1 (g d1) n1 x1
  s2 : l.getD i2 false = true → Own w w1.heap.size te 1 (g d2) (n1 + n2) (x1 ++ x2)
  s3 : l.getD i3 false = true → g d3 = g d2
  t1 : l.getD i1 false = true → l.getD i0 false = true
  t2 : l.getD i2 false = true → l.getD i1 false = true
  t3 : l.getD i3 false = true → l.getD i2 false = true
variable {w1 : World} {i0 i1 i2 i3 : Nat} {d0 d1 d2 d3 : Tmp} {te : TypeId} {n1 n2 : Nat} {x1 x2 : List Value} {l : Array Bool} {g : Tmp → Value} {w : World} {aF : (Tmp → Value) → Act} {i : Nat} {o : Oper}
theorem SJ.zero (w1 : World) (hb : Below w1.heap.size w1 w) (k : Nat) : SJ w1 i0 i1 i2 i3 d0 d1 d2 d3 te n1 n2 x1 x2 (Array.replicate k false) g w :=
  ⟨hb, (fun h => by rw [no_laid] at h; cases h), (fun h => by rw [no_laid] at h; cases h), (fun h => by rw [no_laid] at h; cases h), (fun h => by rw [no_laid] at h; cases h), (fun h => by rw [no_laid] at h; cases h), (fun h => by rw [no_laid] at h; cases h), (fun h => by rw [no_laid] at h; cases h)⟩
theorem SJ.quiet (h : SJ w1 i0 i1 i2 i3 d0 d1 d2 d3 te n1 n2 x1 x2 l g w) (h0 : i ≠ i0) (h1 : i ≠ i1) (h2 : i ≠ i2) (h3 : i ≠ i3) : SJ w1 i0 i1 i2 i3 d0 d1 d2 d3 te n1 n2 x1 x2 (l.setIfInBounds i true) g w := by
  refine ⟨h.below, ?_, ?_, ?_, ?_, ?_, ?_, ?_⟩ <;> simp only [getD_set_ne false h0, getD_set_ne false h1, getD_set_ne false h2, getD_set_ne false h3]
  · exact h.s0
  · exact h.s1
  · exact h.s2
  · exact h.s3
  · exact h.t1
  · exact h.t2
  · exact h.t3
theorem goesJ_val (v : Value) (h0 : i ≠ i0) (h1 : i ≠ i1) (h2 : i ≠ i2) (h3 : i ≠ i3) (hw : ∀ g, Region.wanted o (yielded ops (aF g).tmps) = true) {d : Tmp} (hd0 : o.dst = some d) (hd : ∀ g, (aF g).tmps[d]? = some v) (h : ∀ g w, Below w1.heap.size w1 w → (execOp (aF g).eval o).run P w = .ok (.value v) w) :
    GoesM P md ops aF (SJ w1 i0 i1 i2 i3 d0 d1 d2 d3 te n1 n2 x1 x2) i o := fun l g w _ _ _ hS => by
  rw [if_pos (hw g)]
  exact .inl ⟨v, w, .inl (h g w hS.below), g, .inl rfl, (fun d' h' => by rw [hd0] at h'; cases h'; exact hd g), hS.quiet h0 h1 h2 h3⟩
theorem goesJ_cell {t : TypeId} {x : Operand} {a : Addr} {v : Value} (h0 : i ≠ i0) (h1 : i ≠ i1) (h2 : i ≠ i2) (h3 : i ≠ i3) (hw : ∀ g, Region.wanted o (yielded ops (aF g).tmps) = true) {d : Tmp} (hd0 : o.dst = some d) (hd : ∀ g, (aF g).tmps[d]? = some v) (ho : o.op = .load t x) (hx : ∀ g, (aF g).eval x = .pointer (some a)) (hk : ∀ w, Below w1.heap.size w1 w → w.cell? a = some v) (hag : ∀ w, (isAgg t).run P w = .ok false w) :
    GoesM P md ops aF (SJ w1 i0 i1 i2 i3 d0 d1 d2 d3 te n1 n2 x1 x2) i o :=
  goesJ_val v h0 h1 h2 h3 hw hd0 hd fun g w hb => by
    unfold execOp
    simp only [ho, hx, Instr.loadAt, Instr.sureAddr, Sem.run_bind, Sem.run_pure, Result.andThen_ok, run_loadVar_one hag (hk w hb)]
theorem laid_no {l : Array Bool} {a b : Nat} (ht : l.getD b false = true → l.getD a false = true) (ha : l.getD a false = false) : l.getD b false = false := by
  cases h : l.getD b false with
  | false => rfl
  | true =>
    rw [ht h] at ha
    cases ha
/-- The empty row. -/
theorem goesJ_make (hi : i = i0) (n01 : i0 ≠ i1) (n02 : i0 ≠ i2) (n03 : i0 ≠ i3) (hw : ∀ g, Region.wanted o (yielded ops (aF g).tmps) = true) (ho : o.dst = some d0) (hd : ∀ g, (aF g).tmps[d0]? = some (g d0)) (hr : ∀ g w, (execOp (aF g).eval o).run P w = .ok (.value (.slice (some ⟨w.heap.size, 0, none⟩) 0 0)) (w.alloc (.cells #[] te))) :
    GoesM P md ops aF (SJ w1 i0 i1 i2 i3 d0 d1 d2 d3 te n1 n2 x1 x2) i o := fun l g w hsz hf _ hS => by
  subst hi
  rw [if_pos (hw g)]
  have f1 := laid_no hS.t1 hf
  have f2 := laid_no hS.t2 f1
  have f3 := laid_no hS.t3 f2
  refine .inl ⟨_, _, .inl (hr g w), upd g d0 (.slice (some ⟨w.heap.size, 0, none⟩) 0 0), .inr ⟨d0, _, ho, rfl⟩, fun d' h' => ?_, hS.below.alloc hS.below.size _, fun _ _ => ?_, ?_, ?_, ?_, ?_, ?_, ?_⟩
  · rw [ho] at h'
    cases h'
    rw [hd, upd_at]
  · rw [upd_at]
    exact Own.of (World.ownsRow_made w #[] 0 hS.below.size (by decide) rfl)
  · rw [getD_set_ne false n01, f1]; intro h; cases h
  · rw [getD_set_ne false n02, f2]; intro h; cases h
  · rw [getD_set_ne false n03, f3]; intro h; cases h
  · rw [getD_set_ne false n01, f1]; intro h; cases h
  · rw [getD_set_ne false n02, f2]; intro h; cases h
  · rw [getD_set_ne false n03, f3]; intro h; cases h
theorem run_app_op {t : TypeId} {s x : Operand} {a : Act} (ho : o.op = .call { callee := .builtin .append, args := #[s, x], argTypes := #[t, t] }) (base : Nat) (e : TypeId) (ti : TypeInfo) (z : Value) (bytes : Nat) (ht : P.underlying t = some (.slice e)) (hi : P.info? e = some ti) (hz : ti.zero = some z) (hsize : ti.size = 1) (hby : ti.bytes = bytes) (hzs : z.cells.size = 1)
    {v : Value} {n : Nat} {xs : List Value} (hs : a.eval s = v) (hown : Own w base e 1 v n xs) {A : Option Addr} {m c : Nat} {news : List Value} (hx : a.eval x = .slice A m c) (hl : news.length = m) (hr : Rd w A news) (h1 : ∀ u ∈ news, u.oneCell' = true) (h63 : n + m ≤ maxLen) (hlim : (n + m) * bytes ≤ 140737488355328) (hbase : base ≤ w.heap.size) :
    ∃ v' w', (execOp a.eval o).run P w = .ok (.value v') w' ∧ Own w' base e 1 v' (n + m) (xs ++ news) ∧ w.grownBy w' v.ownBlock := by
  obtain ⟨v', w', hrun, h2, h3⟩ := run_app (P := P) w base t o.type e ti z 1 bytes ht hi hz hsize hby hzs Nat.one_pos v n xs hown A m c news (by rw [hl, Nat.mul_one]) hr h1 h63 hlim hbase
  refine ⟨v', w', ?_, h2, h3⟩
  unfold execOp
  simp only [ho, resolve, invoke, builtin, Sem.run_bind, Sem.run_pure, Result.andThen_ok, List.map_toArray, List.map_cons, List.map_nil, hs, hx, hrun]
theorem below_grew {v : Value} {n : Nat} {xs : List Value} {w' : World} (hb : Below w1.heap.size w1 w) (ho : Own w w1.heap.size te 1 v n xs) (hg : w.grownBy w' v.ownBlock) : Below w1.heap.size w1 w' :=
  hb.grown hg hb.size (fun k e => (ho.lt k e).1)
/-- The first slice. -/
theorem goesJ_one {t : TypeId} {x : Operand} {ti : TypeInfo} {z : Value} {bytes : Nat} {A : Option Addr} {c : Nat} (hi : i = i1) (n01 : i1 ≠ i0) (n02 : i1 ≠ i2) (n03 : i1 ≠ i3) (hw : ∀ g, Region.wanted o (yielded ops (aF g).tmps) = true) (hop : o.op = .call { callee := .builtin .append, args := #[.tmp d0, x], argTypes := #[t, t] }) (ho : o.dst = some d1) (hd : ∀ g, (aF g).tmps[d1]? = some (g d1)) (he : ∀ g, (aF g).eval (.tmp d0) = g d0) (hx : ∀ g, (aF g).eval x = .slice A n1 c)
    (ht : P.underlying t = some (.slice te)) (hti : P.info? te = some ti) (hz : ti.zero = some z) (hsize : ti.size = 1) (hby : ti.bytes = bytes) (hzs : z.cells.size = 1) (hl : x1.length = n1) (hr : ∀ w, Below w1.heap.size w1 w → Rd w A x1) (h1 : ∀ u ∈ x1, u.oneCell' = true) (h63 : n1 ≤ maxLen) (hlim : n1 * bytes ≤ 140737488355328)
    (hdone : ∀ l : Array Bool, (∀ e ∈ o.after, Region.binds md e = true → l.getD e.on false = true) → l.getD i0 false = true) (hio : ops[i]? = some o) :
    GoesM P md ops aF (SJ w1 i0 i1 i2 i3 d0 d1 d2 d3 te n1 n2 x1 x2) i o := fun l g w hsz hf hrd hS => by
  subst hi
  rw [if_pos (hw g)]
  have f2 := laid_no hS.t2 hf
  have f3 := laid_no hS.t3 f2
  have hlt : i < l.size := by rw [hsz]; exact (Array.getElem?_eq_some_iff.1 hio).1
  have o0 := hS.s0 (hdone l hrd) hf
  obtain ⟨v', w', hrun, h2, h3⟩ := run_app_op (P := P) (a := aF g) hop w1.heap.size te ti z bytes ht hti hz hsize hby hzs (he g) o0 (hx g) hl (hr w hS.below) h1 (by rw [Nat.zero_add]; exact h63) (by rw [Nat.zero_add]; exact hlim) hS.below.size
  rw [Nat.zero_add, List.nil_append] at h2
  refine .inl ⟨v', w', .inl hrun, upd g d1 v', .inr ⟨d1, _, ho, rfl⟩, fun d' h' => ?_, below_grew hS.below o0 h3, ?_, fun _ _ => ?_, ?_, ?_, fun _ => ?_, ?_, ?_⟩
  · rw [ho] at h'
    cases h'
    rw [hd, upd_at]
  · rw [getD_self hlt]; intro _ h; cases h
  · rw [upd_at]; exact h2
  · rw [getD_set_ne false n02, f2]; intro h; cases h
  · rw [getD_set_ne false n03, f3]; intro h; cases h
  · exact getD_up (hdone l hrd)
  · rw [getD_set_ne false n02, f2]; intro h; cases h
  · rw [getD_set_ne false n03, f3]; intro h; cases h
/-- The second slice. -/
theorem goesJ_two {t : TypeId} {x : Operand} {ti : TypeInfo} {z : Value} {bytes : Nat} {A : Option Addr} {c : Nat} (hi : i = i2) (n00 : i2 ≠ i0) (n01 : i2 ≠ i1) (n03 : i2 ≠ i3) (hw : ∀ g, Region.wanted o (yielded ops (aF g).tmps) = true) (hop : o.op = .call { callee := .builtin .append, args := #[.tmp d1, x], argTypes := #[t, t] }) (ho : o.dst = some d2) (hd : ∀ g, (aF g).tmps[d2]? = some (g d2)) (he : ∀ g, (aF g).eval (.tmp d1) = g d1) (hx : ∀ g, (aF g).eval x = .slice A n2 c)
    (ht : P.underlying t = some (.slice te)) (hti : P.info? te = some ti) (hz : ti.zero = some z) (hsize : ti.size = 1) (hby : ti.bytes = bytes) (hzs : z.cells.size = 1) (hl : x2.length = n2) (hr : ∀ w, Below w1.heap.size w1 w → Rd w A x2) (h1 : ∀ u ∈ x2, u.oneCell' = true) (h63 : n1 + n2 ≤ maxLen) (hlim : (n1 + n2) * bytes ≤ 140737488355328)
    (hdone : ∀ l : Array Bool, (∀ e ∈ o.after, Region.binds md e = true → l.getD e.on false = true) → l.getD i1 false = true) (hio : ops[i]? = some o) :
    GoesM P md ops aF (SJ w1 i0 i1 i2 i3 d0 d1 d2 d3 te n1 n2 x1 x2) i o := fun l g w hsz hf hrd hS => by
  subst hi
  rw [if_pos (hw g)]
  have f3 := laid_no hS.t3 hf
  have hlt : i < l.size := by rw [hsz]; exact (Array.getElem?_eq_some_iff.1 hio).1
  have l1 := hdone l hrd
  have o1 := hS.s1 l1 hf
  obtain ⟨v', w', hrun, h2, h3⟩ := run_app_op (P := P) (a := aF g) hop w1.heap.size te ti z bytes ht hti hz hsize hby hzs (he g) o1 (hx g) hl (hr w hS.below) h1 h63 hlim hS.below.size
  refine .inl ⟨v', w', .inl hrun, upd g d2 v', .inr ⟨d2, _, ho, rfl⟩, fun d' h' => ?_, below_grew hS.below o1 h3, ?_, ?_, fun _ => ?_, ?_, ?_, fun _ => ?_, ?_⟩
  · rw [ho] at h'
    cases h'
    rw [hd, upd_at]
  · intro _ h
    rw [getD_up l1] at h
    cases h
  · rw [getD_self hlt]; intro _ h; cases h
  · rw [upd_at]; exact h2
  · rw [getD_set_ne false n03, f3]; intro h; cases h
  · intro h
    exact getD_up (hS.t1 l1)
  · exact getD_up l1
  · rw [getD_set_ne false n03, f3]; intro h; cases h
/-- The row, given a name. -/
theorem goesJ_name (hi : i = i3) (n00 : i3 ≠ i0) (n01 : i3 ≠ i1) (n02 : i3 ≠ i2) (m2 : d2 ≠ d3) (hw : ∀ g, Region.wanted o (yielded ops (aF g).tmps) = true) (hop : o.op = .assign (.tmp d2)) (ho : o.dst = some d3) (hd : ∀ g, (aF g).tmps[d3]? = some (g d3)) (he : ∀ g, (aF g).eval (.tmp d2) = g d2)
    (hdone : ∀ l : Array Bool, (∀ e ∈ o.after, Region.binds md e = true → l.getD e.on false = true) → l.getD i2 false = true) :
    GoesM P md ops aF (SJ w1 i0 i1 i2 i3 d0 d1 d2 d3 te n1 n2 x1 x2) i o := fun l g w hsz hf hrd hS => by
  subst hi
  rw [if_pos (hw g)]
  have l2 := hdone l hrd
  have l1 := hS.t2 l2
  refine .inl ⟨g d2, w, .inl ?_, upd g d3 (g d2), .inr ⟨d3, _, ho, rfl⟩, fun d' h' => ?_, hS.below, ?_, ?_, fun _ => ?_, fun _ => ?_, fun _ => ?_, fun _ => ?_, fun _ => ?_⟩
  · unfold execOp
    simp only [hop, he, Sem.run_pure]
  · rw [ho] at h'
    cases h'
    rw [hd, upd_at]
  · intro _ h
    rw [getD_up l1] at h
    cases h
  · intro _ h
    rw [getD_up l2] at h
    cases h
  · rw [upd_ne g _ m2]
    exact hS.s2 l2
  · rw [upd_at, upd_ne g _ m2]
  · exact getD_up (hS.t1 l1)
  · exact getD_up l1
  · exact getD_up l2
/-- The region, whatever order is picked. -/
theorem wp_region_join {Q : Exit → Act → World → Prop} {id : Nat} {a : Act} {w0 : World} (aL : Value → Value → Value → Value → Act) (vals : List Value) (hm : P.follows .mixedOrders = true) (hc : regCheck .any ops = true) (hs : Region.noSelect ops = true)
    (hL : ∀ g, fillA (aL undef undef undef undef) [d0, d1, d2, d3] g = aL (g d0) (g d1) (g d2) (g d3)) (hn : goF a ops.toList vals = aL undef undef undef undef) (hS : Below w1.heap.size w1 w0.drew) (h2 : i2 < ops.size) (h3 : i3 < ops.size)
    (hg : GoesL P .any ops (fun g => aL (g d0) (g d1) (g d2) (g d3)) (SJ w1 i0 i1 i2 i3 d0 d1 d2 d3 te n1 n2 x1 x2) 0 ops.toList)
    (hQ : ∀ u0 u1 v w, Below w1.heap.size w1 w → Own w w1.heap.size te 1 v (n1 + n2) (x1 ++ x2) → Q .normal (aL u0 u1 v v) w) :
    (Code.region id ops true).wp P Q a w0 :=
  wp_region_made (a0 := aL undef undef undef undef) (S := SJ w1 i0 i1 i2 i3 d0 d1 d2 d3 te n1 n2 x1 x2) [d0, d1, d2, d3] hm hc hs (fun _ => undef) (by rw [hL]; exact near_of vals hn) (SJ.zero w1 hS _) (by rw [show fillA (aL undef undef undef undef) [d0, d1, d2, d3] = fun g => aL (g d0) (g d1) (g d2) (g d3) from funext hL]; exact goesAllM_of_list hg) fun l g w hall h => by
    rw [hL, h.s3 (hall _ h3)]
    exact hQ _ _ _ w h.below (h.s2 (hall _ h2))
end
end Go.Proofs.YtmagokkegadmiaaDoor
namespace Go.Proofs.YtmagokkegadmiaaDoor
open Go.RowKit Go.WideShapes Go.ChangeShapes Go.ChangeAt Go.ChangeMaps Go.Deep

section
variable {H : Type} {enc : TypeId × Value → H}
theorem okWide_sk {P : Program} {t : TypeId} {fs : Array Field} {W : World} {r : Reach} {b0 : Nat} {v : Value} (ht : P.underlying t = some (.struct fs)) (h : Value.okWide P W r b0 t v) : ∃ cs, v = .agg cs ∧ cs.size = P.cellsOf t := by
  simp only [Value.okWide, ht] at h
  obtain ⟨cs, h1, h2, _⟩ := h
  exact ⟨cs, h1, h2⟩
theorem in_of_wf {z : Int} (h : (Lit.int .i64 z).wf = true) : in10 z := by
  have := bounds_i64 h
  exact ⟨this.1, this.2⟩
set_option maxRecDepth 100000 in
theorem open_ky {r : Reach} {b0 : Nat} {W : World} {v : Value} {d : DataW H} {ps : List MemPlace} (hval : Value.okWide Tryd.prog W r b0 25 v) (h : DataW.Trod enc Tryd.prog W 0 (fun _ => true) true 25 v d ps) :
    ∃ k : Ky, v = kyV k ∧ okK k ∧ k.text.size ≤ maxLen ∧ ∃ y0 y1 y2 y3 y4, d = .agg [y0, y1, y2, y3, y4, .lit (.string k.text.data.toList)] := by
  obtain ⟨cs, rfl, _⟩ := okWide_sk Tryd.underlying25 hval
  obtain ⟨fuel, hf⟩ := h
  obtain ⟨xs, n, _, hx, hlen, hxl, hf⟩ := DataW.trod_struct Tryd.underlying25 hf
  rw [show Tryd.prog.cellsOf 25 = 6 by kernel_rfl] at hlen
  obtain ⟨l⟩ := cs
  simp only [Value.cells] at hlen hf
  match l, hlen with
  | [u0, u1, u2, u3, u4, u5], _ =>
    match xs, hxl with
    | [y0, y1, y2, y3, y4, y5], _ =>
      have ci : Tryd.prog.cellsOf 3 = 1 := by kernel_rfl
      have cs : Tryd.prog.cellsOf 9 = 1 := by kernel_rfl
      have g0 : DataW.trod enc Tryd.prog W 0 (fun _ => true) true n 3 (List.take (Tryd.prog.cellsOf 3) (List.drop 0 [u0, u1, u2, u3, u4, u5])) = some y0 := hf 0 _ rfl
      have g1 : DataW.trod enc Tryd.prog W 0 (fun _ => true) true n 3 (List.take (Tryd.prog.cellsOf 3) (List.drop 1 [u0, u1, u2, u3, u4, u5])) = some y1 := hf 1 _ rfl
      have g2 : DataW.trod enc Tryd.prog W 0 (fun _ => true) true n 3 (List.take (Tryd.prog.cellsOf 3) (List.drop 2 [u0, u1, u2, u3, u4, u5])) = some y2 := hf 2 _ rfl
      have g3 : DataW.trod enc Tryd.prog W 0 (fun _ => true) true n 3 (List.take (Tryd.prog.cellsOf 3) (List.drop 3 [u0, u1, u2, u3, u4, u5])) = some y3 := hf 3 _ rfl
      have g4 : DataW.trod enc Tryd.prog W 0 (fun _ => true) true n 3 (List.take (Tryd.prog.cellsOf 3) (List.drop 4 [u0, u1, u2, u3, u4, u5])) = some y4 := hf 4 _ rfl
      have g5 : DataW.trod enc Tryd.prog W 0 (fun _ => true) true n 9 (List.take (Tryd.prog.cellsOf 9) (List.drop 5 [u0, u1, u2, u3, u4, u5])) = some y5 := hf 5 _ rfl
      rw [ci] at g0 g1 g2 g3 g4
      rw [cs] at g5
      obtain ⟨z0, k0, _, w0⟩ := DataW.trod_int Tryd.underlying3 g0
      obtain ⟨z1, k1, _, w1⟩ := DataW.trod_int Tryd.underlying3 g1
      obtain ⟨z2, k2, _, w2⟩ := DataW.trod_int Tryd.underlying3 g2
      obtain ⟨z3, k3, _, w3⟩ := DataW.trod_int Tryd.underlying3 g3
      obtain ⟨z4, k4, _, w4⟩ := DataW.trod_int Tryd.underlying3 g4
      obtain ⟨s, k5, e5, w5⟩ := DataW.trod_string Tryd.underlying9 g5
      simp at k0 k1 k2 k3 k4 k5
      subst k0 k1 k2 k3 k4 k5
      refine ⟨⟨z0, z1, z2, z3, z4, s⟩, rfl, ⟨in_of_wf w0, in_of_wf w1, in_of_wf w2, in_of_wf w3, in_of_wf w4⟩, w5, y0.1, y1.1, y2.1, y3.1, y4.1, ?_⟩
      simp only [Prod.mk.injEq] at hx
      rw [hx.1, e5]
      rfl
end
end Go.Proofs.YtmagokkegadmiaaDoor
