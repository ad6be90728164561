/-
  From a walk to a law's row, for all laws: arguments read behind the call as they read before, out of the frame alone; a slice of bytes is opened as a list. Layer 2: what takes and puts answer. (No function of any dump.) A map that a literal makes, its entries laid in whatever order the region draws: what it reads as at the end. A region that draws its order, with one new block that is stored into (and one slice that is handed to a call): what each operation keeps. What a round over a function keeps: all blocks of cells but some. (For all layers.) A region that draws its order, in which an empty row is made, and two slices are appended, one behind the other (append(append([]T{}, a...), b...)).
-/
import Derived.Test.YtdfojkbgdoiglaaGreatDoorG01
import Derived.Test.YtdfojkbgdoiglaaGreatDoorG02
import Derived.Test.YtdfojkbgdoiglaaGreatDoorG03
import Derived.Test.YtdfojkbgdoiglaaGreatDoorG04
import Derived.Deep.DeepHandedRow
import Derived.Lib.LaidTab
import Derived.SizedLaws
import Derived.BigQuiet
import Derived.Deep.QuietTactic
import Derived.Maps.OwnSet
import Derived.Maps.Ext
import Derived.Orders
import Derived.Carry
import Derived.RangeFuncNested
import Derived.RangeFuncBound
import Derived.RangeFuncCalls
import Derived.RangeFuncLeaves
import Derived.RangeFuncBox
import Derived.WalkKit
import Derived.OwnWalkIn
import Derived.TacticsInMore
import Derived.LoopNIn
import Derived.LoopIn
namespace Go.Proofs.YtdfojkbgdoiglaaGreatDoor
open Go.RowKit Go.WideShapes Go.ChangeShapes Go.ChangeAt Go.ChangeMaps
section
variable {H : Type} {enc : TypeId × Value → H} {P : Program}
theorem trodAll_below (hl : laidOutB P = true) {W W' : World} (hb : Below W.heap.size W W') : ∀ {ts : List TypeId} {vs : List Value} {ds : List (DataW H)} {ps : List MemPlace},
 (ts.all fun t => P.readableRec t && decide (t < P.types.size)) = true → (∀ x ∈ ps, x.block < W.heap.size) → DataW.TrodAll enc P W 0 (fun _ => true) true ts vs ds ps →
 DataW.TrodAll enc P W' 0 (fun b => decide (b < W.heap.size)) true ts vs ds ps
 | [], [], [], _, _, _, h => h
 | t :: ts, v :: vs, d :: ds, ps, hr, hlt, h => by
   obtain ⟨p, q, h1, h2, rfl⟩ := h
   simp only [List.all_cons, Bool.and_eq_true, decide_eq_true_eq] at hr
   exact ⟨p, q, Below.trod hl hr.1.1 hr.1.2 h1 hb (fun x hx => hlt x (List.mem_append_left _ hx)), trodAll_below hl hb hr.2 (fun x hx => hlt x (List.mem_append_right _ hx)) h2, rfl⟩
theorem law_end (hl : laidOutB P = true) {f : Func} {s : ChangeSpec} {W W' : World} {args : Array Value} {ds : List (DataW H)} {before : List MemPlace} {T : TypeId} (hT : P.underlying T = some .bool)
 (hv : s.vars = []) (hrt : f.resultTypes = #[T]) (hread : (f.params.toList.all fun t => P.readableRec t && decide (t < P.types.size)) = true)
 (hW : DataW.Whole enc P f.params.toList s.vars false W args.toList ds [] before) (hA : DataW.TrodAll enc P W 0 (fun _ => true) true f.params.toList args.toList ds before)
 (hs : s.fn H (ds ++ []) = { results := [.lit (.bool true)], args := ds }) (hb : Below W.heap.size W W') :
 s.post enc P f false true false false W args (.bool true) W' := by
 have hlt : ∀ p ∈ before, p.block < W.heap.size := fun p hp => hW.lt p hp
 refine ⟨ds, [], before, [], before, [], hW, ?_, ?_, ?_, World.keptBut_mono (fun p hp => ⟨hp, .inr (.inl hp)⟩) (hb.frame (· ∈ before)), fun hd => absurd hd (by simp)⟩
 ·rw [hs, hrt]; exact trodAll_mk1 (shut_bool hT _)
 ·rw [hs]; exact trodAll_below hl hb hread hlt hA
 ·rw [hs, hv]; exact rfl
end
end Go.Proofs.YtdfojkbgdoiglaaGreatDoor
namespace Go.Proofs.YtdfojkbgdoiglaaGreatDoor
open Go.RowKit
theorem byt_val (k : Int) (h : 0 ≤ k) (h1 : k < 256) : [Value.int .u8 k] = bs [byt k] := by
 show _ = [Value.int .u8 ((byt k).toNat : Int)]
 rw [byt_nat k h h1]
def Out (l : List UInt8) (w : World) (e : Ending) (w' : World) : Prop := ∃ A c, e = .returned (.slice A l.length c) ∧ Rd w' A (bs l) ∧ Below w.heap.size w w'
theorem out_own {base : Nat} {t : TypeId} {v : Value} {n : Nat} {l : List UInt8} {w w' : World} (ho : Own w' base t 1 v n (bs l)) (hb : Below w.heap.size w w') : Out l w (.returned v) w' := by
 obtain ⟨A, c, rfl, hr⟩ := ho.form
 have := ho.1
 rw [bs_length] at this
 exact ⟨A, c, by rw [show n = l.length by omega], hr, hb⟩
theorem out_lit (w : World) (t : TypeId) {l : List UInt8} {L : List Value} {n : Nat} (hE : bs l = L) (hL : l.length = n) : Out l w (.returned (.slice (some ⟨w.heap.size, 0, none⟩) n n)) (w.alloc (.cells L.toArray t)) := by
 subst hL hE
 exact ⟨_, _, rfl, Rd.block (heap_alloc_new w _) (by simp), (Below.refl _ _).alloc (Nat.le_refl _) _⟩
theorem bs1 (a : Int) (ha : 0 ≤ a) (ha' : a < 256) : bs [byt a] = [.int .u8 a] := (byt_val a ha ha').symm
theorem bs_cons (a : Int) (ha : 0 ≤ a) (ha' : a < 256) (l : List UInt8) : bs (byt a :: l) = .int .u8 a :: bs l := by
 show _ :: _ = _
 rw [show B8 (byt a) = .int .u8 a by unfold B8; rw [byt_nat a ha ha']]
 rfl
theorem rd_lit (w : World) (x : Value) (t : TypeId) : Rd (w.alloc (.cells #[x] t)) (some ⟨w.heap.size, 0, none⟩) [x] := Rd.block (heap_alloc_new w _) rfl
def Tk (l : List UInt8) : Ending := .returned (.tuple #[.int .i64 (takeL l).1, .int .i64 ((takeL l).2 : Nat)])
theorem tk_zero {l : List UInt8} (h : takeL l = (0, 0)) : Ending.returned (.tuple #[.int .i64 0, .int .i64 0]) = Tk l := by unfold Tk; rw [h]; rfl
theorem tk_is {l : List UInt8} {x : Int} {n : Nat} {m : Int} (h : takeL l = (x, n)) (hm : m = n) : Ending.returned (.tuple #[.int .i64 x, .int .i64 m]) = Tk l := by unfold Tk; rw [h, hm]
end Go.Proofs.YtdfojkbgdoiglaaGreatDoor
namespace Go.Proofs.YtdfojkbgdoiglaaGreatDoor
open Go.RowKit Go.Maps Go.ChangeMaps
def hel (v : Value) : Option (DataW Value × List MemPlace) := some (.held v, [])
section
variable {P : Program} {ops : Array Oper} {Q : Exit → Act → World → Prop} {md : Region.Mode}
inductive Takes (P : Program) (md : Region.Mode) (ops : Array Oper) : Nat → Array Bool → Act → Array Bool → Act → Prop
 | nil {l a} : Takes P md ops 0 l a l a
 | cons {n l a l' a'} (i : Nat) {o : Oper} (v : Value) (hi : ops[i]? = some o) (hf : Region.free md ops l i = true) (hr : (Region.ready md ops l).contains i = true)
    (hy : Yields P ops o v a) (h : Takes P md ops n (l.setIfInBounds i true) (a.put o.dst v) l' a') : Takes P md ops (n + 1) l a l' a'
theorem Takes.done {l l' : Array Bool} {a a' : Act} (hl : l = l') (ha : a = a') : Takes P md ops 0 l a l' a' := by
 subst hl ha
 exact .nil
theorem all_cons {α : Type} {X : α → Prop} {x : α} {l : List α} (h : X x) (hs : ∀ y ∈ l, X y) : ∀ y ∈ x :: l, X y := fun y hy => by
 rcases List.mem_cons.1 hy with rfl | hy
 ·exact h
 ·exact hs y hy
theorem all_nil {α : Type} {X : α → Prop} : ∀ y ∈ ([] : List α), X y := fun _ hy => by cases hy
structure Ent where
 i : Nat
 key : Lit
 val : Value
structure LaidBut (P : Program) (K : TypeId) (b : Nat) (I R : List Ent) (w0 w : World) (D : DataW Value) : Prop where
 own : w.ownsMap P K hel b (I.length - R.length) D
 grown : w0.grownBy w (some b)
 there : ∀ p ∈ I, p ∉ R → ∀ z, D.atKey p.key z = .held p.val
 nokey : ∀ k, (∀ p ∈ I, p ∈ R ∨ p.key ≠ k) → ∀ z, D.atKey k z = z
def Come (L1 l : Array Bool) (R : List Nat) : Prop := l.size = L1.size ∧ ∀ j, j < L1.size → l[j]? = if j ∈ R then some false else L1[j]?
theorem Come.getD {L1 l : Array Bool} {R : List Nat} (h : Come L1 l R) {j : Nat} (hj : j < L1.size) (d : Bool) : l.getD j d = if j ∈ R then false else L1.getD j d := by
 have := h.2 j hj
 rw [Array.getD_eq_getD_getElem?, Array.getD_eq_getD_getElem?, this]
 split <;> simp
theorem Come.nil {L1 l : Array Bool} (h : Come L1 l []) : l = L1 := by
 apply Array.ext_getElem?
 intro j
 by_cases hj : j < L1.size
 ·simpa using h.2 j hj
 ·rw [Array.getElem?_eq_none (by rw [h.1]; omega), Array.getElem?_eq_none (by omega)]
theorem Come.step {L1 l : Array Bool} {R : List Nat} (h : Come L1 l R) {i : Nat} (hi : L1[i]? = some true) (hn : R.Nodup) : Come L1 (l.setIfInBounds i true) (R.erase i) := by
 have hlt : i < L1.size := (Array.getElem?_eq_some_iff.1 hi).1
 refine ⟨by rw [Array.size_setIfInBounds]; exact h.1, fun j hj => ?_⟩
 by_cases hij : i = j
 ·subst hij
  rw [Array.getElem?_setIfInBounds_self_of_lt (by rw [h.1]; exact hlt), if_neg (fun hm => (List.Nodup.mem_erase_iff hn).1 hm |>.1 rfl), hi]
 ·rw [Array.getElem?_setIfInBounds_ne hij, h.2 j hj]
  by_cases hm : j ∈ R
  ·rw [if_pos hm, if_pos ((List.Nodup.mem_erase_iff hn).2 ⟨fun e => hij e.symm, hm⟩)]
  ·rw [if_neg hm, if_neg (fun hm' => hm (List.mem_of_mem_erase hm'))]
theorem LaidBut.eq {K : TypeId} (KK : Keyed P K) {b : Nat} {I : List Ent} {w0 w : World} {D : DataW Value} (h : LaidBut P K b I [] w0 w D) {L : List (Lit × DataW Value)} (hr : L.Pairwise (fun p q => p.1.before q.1 = true)) (hk : ∀ p ∈ L, WideAt.IsKeyLit p.1)
 (h1 : ∀ p ∈ I, ((p.key, DataW.held p.val) : Lit × DataW Value) ∈ L) (h2 : ∀ q ∈ L, ∃ p ∈ I, q = (p.key, DataW.held p.val)) : D = .map L := by
 have hkI : ∀ p ∈ I, WideAt.IsKeyLit p.key := fun p hp => hk _ (h1 p hp)
 have at1 : ∀ p ∈ I, ∀ z, (DataW.map L : DataW Value).atKey p.key z = .held p.val := fun p hp z => WideAt.atKey_mem z (hkI p hp) (apart_of_rising hr) (h1 p hp)
 have at2 : ∀ k, (∀ p ∈ I, p.key ≠ k) → ∀ z, (DataW.map L : DataW Value).atKey k z = z := fun k hk' z => WideAt.atKey_none z (fun q hq => by
  obtain ⟨p, hp, rfl⟩ := h2 q hq
  exact hk' p hp)
 have key : ∀ k, (∃ p ∈ I, p.key = k) ∨ ∀ p ∈ I, p.key ≠ k := fun k => by
  by_cases e : ∃ p ∈ I, p.key = k
  ·exact .inl e
  ·exact .inr fun p hp hh => e ⟨p, hp, hh⟩
 refine Maps.ext (h.own.canon KK) ⟨L, rfl, hr, hk⟩ (fun k => ?_) (fun k z hh => ?_)
 ·rcases key k with ⟨p, hp, rfl⟩ | hn
  ·rw [has_true_of_atKey (h.there p hp (by simp)), has_true_of_atKey (at1 p hp)]
  ·rw [has_false_of_atKey (h.nokey k fun p hp => .inr (hn p hp)), has_false_of_atKey (at2 k hn)]
 ·rcases key k with ⟨p, hp, rfl⟩ | hn
  ·rw [h.there p hp (by simp), at1 p hp]
  ·rw [h.nokey k (fun p hp => .inr (hn p hp)), at2 k hn]
end
end Go.Proofs.YtdfojkbgdoiglaaGreatDoor
namespace Go.Proofs.YtdfojkbgdoiglaaGreatDoor
open Go.RowKit
section
variable {P : Program} {ops : Array Oper} {md : Region.Mode}
theorem getD_up {l : Array Bool} {i j : Nat} (h : l.getD j false = true) : (l.setIfInBounds i true).getD j false = true := by
 by_cases hij : i = j
 ·subst hij
  have hlt : i < l.size := by
   rcases Nat.lt_or_ge i l.size with h1 | h1
   ·exact h1
   ·rw [Array.getD_eq_getD_getElem?, Array.getElem?_eq_none h1] at h
    cases h
  rw [Array.getD_eq_getD_getElem?, Array.getElem?_setIfInBounds_self_of_lt hlt]
  rfl
 ·rw [getD_set_ne false hij]
  exact h
theorem getD_dn {l : Array Bool} {i j : Nat} (h : (l.setIfInBounds i true).getD j false = false) : l.getD j false = false := by
 cases hh : l.getD j false with
 | false => rfl
 | true =>
   rw [getD_up hh] at h
   cases h
theorem getD_self {l : Array Bool} {i : Nat} (h : i < l.size) : (l.setIfInBounds i true).getD i false = true := by
 rw [Array.getD_eq_getD_getElem?, Array.getElem?_setIfInBounds_self_of_lt h]
 rfl
structure SM (w1 : World) (ia iz : Nat) (d : Tmp) (ty : TypeId) (z cs : Array Value) (ih ic : Nat) (dh : Tmp) (n : Nat) (xs : List Value) (l : Array Bool) (g : Tmp → Value) (w : World) : Prop where
 below : Below w1.heap.size w1 w
 made : l.getD ia false = true → ∃ b, g d = .pointer (some ⟨b, 0, none⟩) ∧ w1.heap.size ≤ b ∧ Blk w b ty (if l.getD iz false = true then cs else z)
 hand : l.getD ih false = true → l.getD ic false = false → ∃ A c, g dh = .slice A n c ∧ Rd w A xs
 turn : l.getD iz false = true → l.getD ia false = true
variable {w1 : World} {ia iz : Nat} {d : Tmp} {ty : TypeId} {z cs : Array Value} {ih ic : Nat} {dh : Tmp} {n : Nat} {xs : List Value} {l : Array Bool} {g : Tmp → Value} {w w' : World} {aF : (Tmp → Value) → Act} {i : Nat} {o : Oper}
theorem SM.quiet (h : SM w1 ia iz d ty z cs ih ic dh n xs l g w) (hb : Below w.heap.size w w') (hia : i ≠ ia) (hiz : i ≠ iz) (hih : i ≠ ih) : SM w1 ia iz d ty z cs ih ic dh n xs (l.setIfInBounds i true) g w' := by
 refine ⟨h.below.trans (hb.mono h.below.size), fun ha => ?_, fun ha hc => ?_, fun hz => ?_⟩
 ·rw [getD_set_ne false hia] at ha
  obtain ⟨b, h1, h2, h3⟩ := h.made ha
  refine ⟨b, h1, h2, ?_⟩
  rw [getD_set_ne false hiz]
  exact h3.below hb h3.lt
 ·rw [getD_set_ne false hih] at ha
  obtain ⟨A, c, h1, h2⟩ := h.hand ha (getD_dn hc)
  exact ⟨A, c, h1, h2.below hb⟩
 ·rw [getD_set_ne false hiz] at hz
  exact getD_up (h.turn hz)
theorem no_laid (k j : Nat) : (Array.replicate k false).getD j false = false := by
 rw [Array.getD_eq_getD_getElem?, Array.getElem?_replicate]
 split <;> rfl
theorem SM.zero (w1 : World) (hb : Below w1.heap.size w1 w) (k : Nat) : SM w1 ia iz d ty z cs ih ic dh n xs (Array.replicate k false) g w :=
 ⟨hb, (fun h => by rw [no_laid] at h; cases h), (fun h => by rw [no_laid] at h; cases h), (fun h => by rw [no_laid] at h; cases h)⟩
def GoesL (P : Program) (md : Region.Mode) (ops : Array Oper) (aF : (Tmp → Value) → Act) (S : Array Bool → (Tmp → Value) → World → Prop) : Nat → List Oper → Prop
 | _, [] => True
 | i, o :: os => GoesM P md ops aF S i o ∧ GoesL P md ops aF S (i + 1) os
theorem goes_cons {S : Array Bool → (Tmp → Value) → World → Prop} {os : List Oper} (h : GoesM P md ops aF S i o) (hs : GoesL P md ops aF S (i + 1) os) : GoesL P md ops aF S i (o :: os) := ⟨h, hs⟩
theorem goes_nil {S : Array Bool → (Tmp → Value) → World → Prop} : GoesL P md ops aF S i [] := trivial
theorem goesL_get {S : Array Bool → (Tmp → Value) → World → Prop} : ∀ (os : List Oper) (k : Nat), GoesL P md ops aF S k os → ∀ (j : Nat) (o : Oper), os[j]? = some o → GoesM P md ops aF S (k + j) o
 | [], _, _, _, _, h => by simp at h
 | x :: os, k, h, 0, o, ho => by
   simp at ho
   subst ho
   exact h.1
 | x :: os, k, h, j + 1, o, ho => by
   have := goesL_get os (k + 1) h.2 j o (by simpa using ho)
   rwa [show k + 1 + j = k + (j + 1) by omega] at this
theorem goesAllM_of_list {S : Array Bool → (Tmp → Value) → World → Prop} (h : GoesL P md ops aF S 0 ops.toList) : GoesAllM P md ops aF S := fun i o ho => by
 have := goesL_get ops.toList 0 h i o (by rw [← ho, Array.getElem?_toList])
 rwa [Nat.zero_add] at this
theorem run_loadVar_one {t : TypeId} {a : Addr} {v : Value} {w : World} (hag : ∀ w, (isAgg t).run P w = .ok false w) (hc : w.cell? a = some v) : (loadVar t a).run P w = .ok v w := by
 simp [loadVar, hag, hc, Result.andThen]
end
end Go.Proofs.YtdfojkbgdoiglaaGreatDoor
namespace Go.Proofs.YtdfojkbgdoiglaaGreatDoor
open Go.RowKit
def KpX (X : Nat → Prop) (W W' : World) : Prop := W.heap.size ≤ W'.heap.size ∧ ∀ k o, W.heap[k]? = some o → o.isCells = true → ¬ X k → W'.heap[k]? = some o
section
variable {X : Nat → Prop} {W W' W'' : World} {A : Option Addr} {xs : List Value}
theorem KpX.refl (X : Nat → Prop) (W : World) : KpX X W W := ⟨Nat.le_refl _, fun _ _ h _ _ => h⟩
theorem KpX.trans (h : KpX X W W') (k : KpX X W' W'') : KpX X W W'' := ⟨Nat.le_trans h.1 k.1, fun i o hi ho hx => k.2 i o (h.2 i o hi ho hx) ho hx⟩
theorem KpX.put (X : Nat → Prop) (W : World) (l : Nat) (o o' : Obj) (h : W.heap[l]? = some o) (hc : o.isCells = false) : KpX X W (W.putObj l o') :=
 ⟨by simp, fun k u hk hu _ => by
   by_cases e : k = l
   ·subst e
    rw [h] at hk
    cases hk
    rw [hc] at hu
    cases hu
   ·exact (World.putObj_heap_other e).trans hk⟩
theorem KpX.of_below (h : Below W.heap.size W W') : KpX X W W' := ⟨h.size, fun k _ hk _ _ => (h.block k (Array.getElem?_eq_some_iff.1 hk).1).trans hk⟩
theorem KpX.set (h : KpX X W W') {a : Addr} (ha : X a.block) (v : Value) : KpX X W (W'.setCell a v) :=
 ⟨by simpa [World.setCell] using h.1, fun k o hk ho hx => (Below.heap_setCell W' a v k (fun e => hx (by rw [e]; exact ha))).trans (h.2 k o hk ho hx)⟩
theorem RdOff.below' (h : RdOff W X A xs) (hb : Below W.heap.size W W') : RdOff W' X A xs := h.fr (Fr.of_below hb X) (Wid.refl _ _)
end
theorem Rd.off {w : World} {X : Nat → Prop} {g o : Nat} {xs : List Value} (h : Rd w (some ⟨g, o, none⟩) xs) (hn : ¬ X g) : RdOff w X (some ⟨g, o, none⟩) xs := fun hp => by
 obtain ⟨b, o', hA, hb, hc⟩ := h hp
 simp only [Option.some.injEq, Addr.mk.injEq, and_true] at hA
 obtain ⟨rfl, rfl⟩ := hA
 exact ⟨g, o, rfl, hb, hn, hc⟩
end Go.Proofs.YtdfojkbgdoiglaaGreatDoor
namespace Go.Proofs.YtdfojkbgdoiglaaGreatDoor
open Go.RowKit
section
variable {P : Program} {ops : Array Oper} {md : Region.Mode}
structure SJ (w1 : World) (i0 i1 i2 i3 : Nat) (d0 d1 d2 d3 : Tmp) (te : TypeId) (n1 n2 : Nat) (x1 x2 : List Value) (l : Array Bool) (g : Tmp → Value) (w : World) : Prop where
 below : Below w1.heap.size w1 w
 s0 : l.getD i0 false = true → l.getD i1 false = false → Own w w1.heap.size te 1 (g d0) 0 []
 s1 : l.getD i1 false = true → l.getD i2 false = false → Own w w1.heap.size te 1 (g d1) n1 x1
 s2 : l.getD i2 false = true → Own w w1.heap.size te 1 (g d2) (n1 + n2) (x1 ++ x2)
 s3 : l.getD i3 false = true → g d3 = g d2
 t1 : l.getD i1 false = true → l.getD i0 false = true
 t2 : l.getD i2 false = true → l.getD i1 false = true
 t3 : l.getD i3 false = true → l.getD i2 false = true
variable {w1 : World} {i0 i1 i2 i3 : Nat} {d0 d1 d2 d3 : Tmp} {te : TypeId} {n1 n2 : Nat} {x1 x2 : List Value} {l : Array Bool} {g : Tmp → Value} {w : World} {aF : (Tmp → Value) → Act} {i : Nat} {o : Oper}
theorem SJ.zero (w1 : World) (hb : Below w1.heap.size w1 w) (k : Nat) : SJ w1 i0 i1 i2 i3 d0 d1 d2 d3 te n1 n2 x1 x2 (Array.replicate k false) g w :=
 ⟨hb, (fun h => by rw [no_laid] at h; cases h), (fun h => by rw [no_laid] at h; cases h), (fun h => by rw [no_laid] at h; cases h), (fun h => by rw [no_laid] at h; cases h), (fun h => by rw [no_laid] at h; cases h), (fun h => by rw [no_laid] at h; cases h), (fun h => by rw [no_laid] at h; cases h)⟩
theorem SJ.quiet (h : SJ w1 i0 i1 i2 i3 d0 d1 d2 d3 te n1 n2 x1 x2 l g w) (h0 : i ≠ i0) (h1 : i ≠ i1) (h2 : i ≠ i2) (h3 : i ≠ i3) : SJ w1 i0 i1 i2 i3 d0 d1 d2 d3 te n1 n2 x1 x2 (l.setIfInBounds i true) g w := by
 refine ⟨h.below, ?_, ?_, ?_, ?_, ?_, ?_, ?_⟩ <;> simp only [getD_set_ne false h0, getD_set_ne false h1, getD_set_ne false h2, getD_set_ne false h3]
 ·exact h.s0
 ·exact h.s1
 ·exact h.s2
 ·exact h.s3
 ·exact h.t1
 ·exact h.t2
 ·exact h.t3
end
end Go.Proofs.YtdfojkbgdoiglaaGreatDoor
