/-
  Cut out of WirP: what names no function of any dump. Cut out of WirQ: what names no function of any dump. Layer 2: what takes and puts answer. (No function of any dump.) The cells of a block of five, and of six. What a round over a function keeps: all blocks of cells but some. (For all layers.) Layer 3's mathematics: the reader that goes through the kinds reads just the sequence with which the bytes begin. Layer 3, walked: two lists of numbers compared, by the document and by the library; lists of lists. Cut out of LegV: what names no function of any dump.
-/
import Derived.Test.YtmagokkegadmiaaGreatDoorG01
import Derived.Test.YtmagokkegadmiaaGreatDoorG02
import Derived.Test.YtmagokkegadmiaaGreatDoorG03
import Derived.Test.YtmagokkegadmiaaGreatDoorG04
import Derived.Test.YtmagokkegadmiaaGreatDoorG05
import Derived.Test.YtmagokkegadmiaaGreatDoorG06
import Derived.BigQuiet
import Derived.Deep.QuietTactic
import Derived.RangeFuncNested
import Derived.RangeFuncBound
import Derived.RangeFuncCalls
import Derived.RangeFuncLeaves
import Derived.RangeFuncBox
import Derived.WalkKit
import Derived.OwnWalkIn
import Derived.TacticsInMore
import Derived.LoopNIn
import Derived.LoopIn
namespace Go.Proofs.YtmagokkegadmiaaGreatDoor
open Go.RowKit

theorem all_no {p : UInt8 → Bool} {l : List UInt8} {k : Nat} (hk : k < l.length) (h : p l[k] = false) : l.all p = false := by
  rw [List.all_eq_false]
  exact ⟨_, List.getElem_mem hk, by simp [h]⟩
/-- A parameter may be. -/
def partB (p : List Int) : Bool := decide (1 ≤ p.length) && decide (p.length ≤ 8) && p.all fun n => decide (-1 ≤ n) && decide (n ≤ 1114111)
theorem parOk_eq (l : List (List Int)) : parOk l = (decide (l.length ≤ 16) && decide (l ≠ [[-1]]) && l.all partB) := rfl
theorem par_long {l : List (List Int)} (h : 16 < l.length) : parOk l = false := by rw [parOk_eq, decide_eq_false (by omega)]; rfl
theorem par_no {l : List (List Int)} {k : Nat} (hk : k < l.length) (h : partB l[k] = false) : parOk l = false := by
  rw [parOk_eq, show l.all partB = false from List.all_eq_false.2 ⟨_, List.getElem_mem hk, by simp [h]⟩, Bool.and_false]
theorem part_len {p : List Int} (h : ¬ (1 ≤ p.length ∧ p.length ≤ 8)) : partB p = false := by
  unfold partB
  by_cases h1 : 1 ≤ p.length
  · rw [decide_eq_false (p := p.length ≤ 8) (by omega), Bool.and_false, Bool.false_and]
  · rw [decide_eq_false h1, Bool.false_and, Bool.false_and]
def numOk (n : Int) : Bool := decide (-1 ≤ n) && decide (n ≤ 1114111)
theorem partB_yes {p : List Int} (h1 : 1 ≤ p.length) (h2 : p.length ≤ 8) (h : p.all numOk = true) : partB p = true := by
  unfold partB
  rw [decide_eq_true h1, decide_eq_true h2]
  exact h
theorem parOk_yes {l : List (List Int)} (h : l.length ≤ 16) (h1 : l ≠ [[-1]]) (h2 : l.all partB = true) : parOk l = true := by
  rw [parOk_eq, decide_eq_true h, decide_eq_true h1, h2]; rfl
theorem numOk_iff (n : Int) : numOk n = true ↔ -1 ≤ n ∧ n ≤ 1114111 := by simp [numOk]
end Go.Proofs.YtmagokkegadmiaaGreatDoor
namespace Go.Proofs.YtmagokkegadmiaaGreatDoor
open Go.RowKit

/-- A sequence as a value; that it reads so. -/
def sqV (s : Sq) (A : Option Addr) (c : Nat) : Value := .agg #[.int .i64 s.kind, .int .u8 (s.priv.toNat : Int), .slice A s.params.length c, .string ⟨s.inter.toArray⟩, .int .u8 (s.final.toNat : Int), .string ⟨s.data.toArray⟩]
theorem last_q {s : Sq} {q : Bool} (hq : lastOk s = q) : (s.kind = 1 ∨ s.kind = 2 ∨ s.kind = 3 → q = (decide (64 ≤ s.final.toNat) && decide (s.final.toNat ≤ 126))) ∧
    (s.kind = 5 → (s.final.toNat < 48 ∨ 126 < s.final.toNat → q = false) ∧ (48 ≤ s.final.toNat → s.final.toNat ≤ 126 → (s.inter ≠ [] → q = true) ∧
      (s.inter = [] → q = !([79, 80, 88, 91, 93, 92, 94, 95] : List Nat).contains s.final.toNat))) ∧
    (s.kind = 4 → q = decide (s.final.toNat = 0)) ∧ (¬ (s.kind = 1 ∨ s.kind = 2 ∨ s.kind = 3 ∨ s.kind = 4 ∨ s.kind = 5) → q = false) := by
  subst hq
  refine ⟨fun h => ?_, fun h => ⟨fun h1 => ?_, fun h1 h2 => ⟨fun h3 => ?_, fun h3 => ?_⟩⟩, fun h => ?_, fun h => ?_⟩
  · unfold lastOk; rw [if_pos h]; rfl
  · unfold lastOk; rw [if_neg (by omega), if_pos h, (btw_no 48 126 _).2 (by omega), Bool.false_and]
  · unfold lastOk; rw [if_neg (by omega), if_pos h, (btw_iff 48 126 _).2 ⟨h1, h2⟩, decide_eq_true h3]; rfl
  · unfold lastOk; rw [if_neg (by omega), if_pos h, (btw_iff 48 126 _).2 ⟨h1, h2⟩, decide_eq_false (by simpa using h3), Bool.false_or, Bool.true_and]
    congr 1
    rw [Bool.eq_iff_iff]
    simp [← UInt8.toNat_inj]
  · unfold lastOk; rw [if_neg (by omega), if_neg (by omega), decide_eq_true h, Bool.true_and]
    rw [Bool.eq_iff_iff]
    simp [← UInt8.toNat_inj]
  · unfold lastOk; rw [if_neg (by omega), if_neg (by omega), decide_eq_false (by omega)]; rfl
end Go.Proofs.YtmagokkegadmiaaGreatDoor
namespace Go.Proofs.YtmagokkegadmiaaGreatDoor
open Go.RowKit

/-- A byte that was reckoned. -/
theorem byt_val (k : Int) (h : 0 ≤ k) (h1 : k < 256) : [Value.int .u8 k] = bs [byt k] := by
  show _ = [Value.int .u8 ((byt k).toNat : Int)]
  rw [byt_nat k h h1]

/-- A slice of bytes handed back, of the call's own. -/
def Out (l : List UInt8) (w : World) (e : Ending) (w' : World) : Prop := ∃ A c, e = .returned (.slice A l.length c) ∧ Rd w' A (bs l) ∧ Below w.heap.size w w'
theorem out_own {base : Nat} {t : TypeId} {v : Value} {n : Nat} {l : List UInt8} {w w' : World} (ho : Own w' base t 1 v n (bs l)) (hb : Below w.heap.size w w') : Out l w (.returned v) w' := by
  obtain ⟨A, c, rfl, hr⟩ := ho.form
  have := ho.1
  rw [bs_length] at this
  exact ⟨A, c, by rw [show n = l.length by omega], hr, hb⟩

theorem out_lit (w : World) (t : TypeId) {l : List UInt8} {L : List Value} {n : Nat} (hE : bs l = L) (hL : l.length = n) : Out l w (.returned (.slice (some ⟨w.heap.size, 0, none⟩) n n)) (w.alloc (.cells L.toArray t)) := by
  subst hL hE
  exact ⟨_, _, rfl, Rd.block (heap_alloc_new w _) (by simp), (Below.refl _ _).alloc (Nat.le_refl _) _⟩

theorem bs1 (a : Int) (ha : 0 ≤ a) (ha' : a < 256) : bs [byt a] = [.int .u8 a] := (byt_val a ha ha').symm
theorem bs_cons (a : Int) (ha : 0 ≤ a) (ha' : a < 256) (l : List UInt8) : bs (byt a :: l) = .int .u8 a :: bs l := by
  show _ :: _ = _
  rw [show B8 (byt a) = .int .u8 a by unfold B8; rw [byt_nat a ha ha']]
  rfl

theorem rd_lit (w : World) (x : Value) (t : TypeId) : Rd (w.alloc (.cells #[x] t)) (some ⟨w.heap.size, 0, none⟩) [x] := Rd.block (heap_alloc_new w _) rfl
/-- What Take answers. -/
def Tk (l : List UInt8) : Ending := .returned (.tuple #[.int .i64 (takeL l).1, .int .i64 ((takeL l).2 : Nat)])
theorem tk_zero {l : List UInt8} (h : takeL l = (0, 0)) : Ending.returned (.tuple #[.int .i64 0, .int .i64 0]) = Tk l := by unfold Tk; rw [h]; rfl
theorem tk_is {l : List UInt8} {x : Int} {n : Nat} {m : Int} (h : takeL l = (x, n)) (hm : m = n) : Ending.returned (.tuple #[.int .i64 x, .int .i64 m]) = Tk l := by unfold Tk; rw [h, hm]

end Go.Proofs.YtmagokkegadmiaaGreatDoor
namespace Go.Proofs.YtmagokkegadmiaaGreatDoor
open Go.RowKit

theorem Blk.cells5 {w : World} {g : Nat} {t : TypeId} {a b c d e : Value} (h : Blk w g t #[a, b, c, d, e]) :
    w.cell? ⟨g, 0, none⟩ = some a ∧ w.cell? ⟨g, 1, none⟩ = some b ∧ w.cell? ⟨g, 2, none⟩ = some c ∧ w.cell? ⟨g, 3, none⟩ = some d ∧ w.cell? ⟨g, 4, none⟩ = some e :=
  ⟨h.cell 0, h.cell 1, h.cell 2, h.cell 3, h.cell 4⟩
theorem Blk.cells6 {w : World} {g : Nat} {t : TypeId} {a b c d e f : Value} (h : Blk w g t #[a, b, c, d, e, f]) :
    w.cell? ⟨g, 0, none⟩ = some a ∧ w.cell? ⟨g, 1, none⟩ = some b ∧ w.cell? ⟨g, 2, none⟩ = some c ∧ w.cell? ⟨g, 3, none⟩ = some d ∧ w.cell? ⟨g, 4, none⟩ = some e ∧ w.cell? ⟨g, 5, none⟩ = some f :=
  ⟨h.cell 0, h.cell 1, h.cell 2, h.cell 3, h.cell 4, h.cell 5⟩
end Go.Proofs.YtmagokkegadmiaaGreatDoor
namespace Go.Proofs.YtmagokkegadmiaaGreatDoor
open Go.RowKit

/-- What a round that goes on keeps: all blocks of cells but those of X. -/
def KpX (X : Nat → Prop) (W W' : World) : Prop := W.heap.size ≤ W'.heap.size ∧ ∀ k o, W.heap[k]? = some o → o.isCells = true → ¬ X k → W'.heap[k]? = some o
section
variable {X : Nat → Prop} {W W' W'' : World} {A : Option Addr} {xs : List Value}
theorem KpX.refl (X : Nat → Prop) (W : World) : KpX X W W := ⟨Nat.le_refl _, fun _ _ h _ _ => h⟩
theorem KpX.trans (h : KpX X W W') (k : KpX X W' W'') : KpX X W W'' := ⟨Nat.le_trans h.1 k.1, fun i o hi ho hx => k.2 i o (h.2 i o hi ho hx) ho hx⟩
theorem KpX.put (X : Nat → Prop) (W : World) (l : Nat) (o o' : Obj) (h : W.heap[l]? = some o) (hc : o.isCells = false) : KpX X W (W.putObj l o') :=
  ⟨by simp, fun k u hk hu _ => by
    by_cases e : k = l
    · subst e
      rw [h] at hk
      cases hk
      rw [hc] at hu
      cases hu
    · exact (World.putObj_heap_other e).trans hk⟩
theorem KpX.of_below (h : Below W.heap.size W W') : KpX X W W' := ⟨h.size, fun k _ hk _ _ => (h.block k (Array.getElem?_eq_some_iff.1 hk).1).trans hk⟩
theorem KpX.set (h : KpX X W W') {a : Addr} (ha : X a.block) (v : Value) : KpX X W (W'.setCell a v) :=
  ⟨by simpa [World.setCell] using h.1, fun k o hk ho hx => (Below.heap_setCell W' a v k (fun e => hx (by rw [e]; exact ha))).trans (h.2 k o hk ho hx)⟩
theorem cells_is {w : World} {a : Addr} {v : Value} (h : w.cell? a = some v) : ∃ o : Obj, w.heap[a.block]? = some o ∧ o.isCells = true := cells_of_cell h
theorem RdOff.kpx (h : RdOff W X A xs) (hk : KpX X W W') : RdOff W' X A xs := fun hp => by
  obtain ⟨b, o, rfl, hb, hn, hc⟩ := h hp
  obtain ⟨ob, h1, h2⟩ := cells_is (hc 0 _ (List.getElem?_eq_getElem hp))
  refine ⟨b, o, rfl, Nat.lt_of_lt_of_le hb hk.1, hn, fun k u hu => (World.cell?_of_block (w := W) (a := ⟨b, o + k, none⟩) ?_).trans (hc k u hu)⟩
  exact (hk.2 b ob h1 h2 hn).trans h1.symm
theorem RdOff.below' (h : RdOff W X A xs) (hb : Below W.heap.size W W') : RdOff W' X A xs := h.fr (Fr.of_below hb X) (Wid.refl _ _)
theorem Blk.kpx {g : Nat} {t : TypeId} {cs : Array Value} (h : Blk W g t cs) (hk : KpX X W W') (hn : ¬ X g) : Blk W' g t cs := hk.2 g _ h rfl hn
end
theorem Rd.off {w : World} {X : Nat → Prop} {g o : Nat} {xs : List Value} (h : Rd w (some ⟨g, o, none⟩) xs) (hn : ¬ X g) : RdOff w X (some ⟨g, o, none⟩) xs := fun hp => by
  obtain ⟨b, o', hA, hb, hc⟩ := h hp
  simp only [Option.some.injEq, Addr.mk.injEq, and_true] at hA
  obtain ⟨rfl, rfl⟩ := hA
  exact ⟨g, o, rfl, hb, hn, hc⟩
theorem RdIn.kpx {n₁ : Nat} {w w' : World} {X : Nat → Prop} {A : Option Addr} {xs : List Value} (h : RdIn n₁ w A xs) (hk : KpX X w w') (hX : ∀ k, X k → n₁ ≤ k) : RdIn n₁ w' A xs := fun hp => by
  obtain ⟨b, o, rfl, hb, hc⟩ := h hp
  obtain ⟨ob, h1, h2⟩ := cells_is (hc 0 _ (List.getElem?_eq_getElem hp))
  refine ⟨b, o, rfl, hb, fun k u hu => (World.cell?_of_block (w := w) (a := ⟨b, o + k, none⟩) ?_).trans (hc k u hu)⟩
  exact (hk.2 b ob h1 h2 (fun hx => by have := hX b hx; omega)).trans h1.symm
theorem keeps_below {W W' : World} (h : Below W.heap.size W W') : KeepsOthers W W' := ⟨h.size, fun k _ hk _ => (h.block k (Array.getElem?_eq_some_iff.1 hk).1).trans hk⟩
theorem below_grownN {w w' : World} (h : Below w.heap.size w w') : w.grownBy w' none := ⟨h.os, h.tape, h.output, h.size, fun k hk _ => h.block k hk⟩
theorem blk_own {β : Type} (B : Nat) (t : TypeId) (f : β → Array Value) : Go.Own (fun s W => Blk W B t (f s)) := fun s X Y row hs hg hrow =>
  hs.grown hg (fun e' => by obtain ⟨o, ho, hc⟩ := hrow B e'; rw [show X.heap[B]? = _ from hs] at ho; cases ho; cases hc)
theorem ownFrom_no {β : Type} (B : Nat) : OwnFrom B (fun (_ : β) (_ : World) => False) := fun _ _ _ _ hs _ _ => hs
end Go.Proofs.YtmagokkegadmiaaGreatDoor
namespace Go.Proofs.YtmagokkegadmiaaGreatDoor

/-- How sequences of a kind stand as bytes. -/
structure Fm where
  letter : List UInt8
  body : Bool
  inter : Bool
  first : UInt8
  en : List UInt8
def formF (k : Int) : Fm :=
  if k = 1 then ⟨[91], true, true, 64, []⟩ else if k = 2 then ⟨[79], false, false, 64, []⟩ else if k = 3 then ⟨[80], true, true, 64, [27, 92]⟩
  else if k = 4 then ⟨[93], false, false, 0, [27, 92]⟩ else if k = 5 then ⟨[], false, true, 48, []⟩ else ⟨[], false, false, 0, []⟩

/-- What is read behind the letter, ahead of the end; and what is left. -/
def rd1 (f : Fm) (r : List UInt8) : UInt8 × List UInt8 := if f.body = true then (oneF 60 63 r, r.drop (runF 60 63 1 r).length) else (0, r)
def rd2 (f : Fm) (r : List UInt8) : List (List Int) × List UInt8 := if f.body = true then paramsF r else ([], r)
def rd3 (f : Fm) (r : List UInt8) : List UInt8 × List UInt8 := if f.inter = true then (runF 32 47 2 r, r.drop (runF 32 47 2 r).length) else ([], r)
def rd4 (f : Fm) (r : List UInt8) : UInt8 × List UInt8 := if f.first = 0 then (0, r) else (oneF f.first.toNat 126 r, r.drop (runF f.first.toNat 126 1 r).length)
def rd5 (f : Fm) (r : List UInt8) : List UInt8 × List UInt8 := if f.en = [] then ([], r) else (runF 32 126 4096 r, r.drop (runF 32 126 4096 r).length)
def readF (k : Int) (r : List UInt8) : Sq × List UInt8 :=
  let f := formF k
  let x1 := rd1 f r
  let x2 := rd2 f x1.2
  let x3 := rd3 f x2.2
  let x4 := rd4 f x3.2
  let x5 := rd5 f x4.2
  (⟨k, x1.1, x2.1, x3.1, x4.1, x5.1⟩, x5.2)
theorem rd1_app (f : Fm) (r : List UInt8) : r = privL (rd1 f r).1 ++ (rd1 f r).2 := by
  unfold rd1
  split
  · dsimp only; rw [← one_run 60 63 r (by omega)]; exact runF_drop _ _ _ _
  · rfl
theorem rd2_app (f : Fm) (r : List UInt8) : r = parL (rd2 f r).1 ++ (rd2 f r).2 := by
  unfold rd2
  split
  · exact (paramsF_app r).1
  · rfl
theorem rd3_app (f : Fm) (r : List UInt8) : r = (rd3 f r).1 ++ (rd3 f r).2 := by
  unfold rd3
  split
  · exact runF_drop _ _ _ _
  · rfl
theorem rd4_app (f : Fm) (hf : f.first = 0 ∨ 1 ≤ f.first.toNat) (r : List UInt8) : r = privL (rd4 f r).1 ++ (rd4 f r).2 := by
  unfold rd4
  split
  · rfl
  · rename_i h; dsimp only; rw [← one_run _ 126 r (hf.resolve_left h)]; exact runF_drop _ _ _ _
theorem rd5_app (f : Fm) (r : List UInt8) : r = (rd5 f r).1 ++ (rd5 f r).2 := by
  unfold rd5
  split
  · rfl
  · exact runF_drop _ _ _ _

/-- The reader: the first kind whose beginning stands there. -/
def kindF (b : List UInt8) : Int := if skipB [27, 91] b = true then 1 else if skipB [27, 79] b = true then 2 else if skipB [27, 80] b = true then 3 else if skipB [27, 93] b = true then 4 else if skipB [27] b = true then 5 else 0
def headF (k : Int) : List UInt8 := 27 :: (formF k).letter
def endF (k : Int) (x : Sq × List UInt8) : Option (Sq × List UInt8) := if skipB (formF k).en x.2 = true ∧ mayS x.1 = 0 then some (x.1, x.2.drop (formF k).en.length) else none
def progF (b : List UInt8) : Option (Sq × List UInt8) := if kindF b = 0 then none else endF (kindF b) (readF (kindF b) (b.drop (headF (kindF b)).length))

theorem kind_cases (b : List UInt8) : kindF b = 0 ∨ ((kindF b = 1 ∨ kindF b = 2 ∨ kindF b = 3 ∨ kindF b = 4 ∨ kindF b = 5) ∧ skipB (headF (kindF b)) b = true) := by
  unfold kindF
  (repeat' split) <;> first | exact .inl rfl | (right; exact ⟨by omega, by assumption⟩)

theorem read_sound (k : Int) (hk : k = 1 ∨ k = 2 ∨ k = 3 ∨ k = 4 ∨ k = 5) (r : List UInt8) (s : Sq) (t : List UInt8) (h : endF k (readF k r) = some (s, t)) : mayS s = 0 ∧ headF k ++ r = putS s ++ t := by
  unfold endF at h
  split at h
  · rename_i hc
    obtain ⟨h1, h2⟩ := hc
    simp only [Option.some.injEq, Prod.mk.injEq] at h
    obtain ⟨rfl, rfl⟩ := h
    refine ⟨h2, ?_⟩
    obtain ⟨_, _, _, _, _, _, hl, hb⟩ := ok_parts h2
    have a1 := rd1_app (formF k) r
    have a2 := rd2_app (formF k) (rd1 (formF k) r).2
    have a3 := rd3_app (formF k) (rd2 (formF k) (rd1 (formF k) r).2).2
    have a4 := rd4_app (formF k) (by rcases hk with rfl | rfl | rfl | rfl | rfl <;> decide) (rd3 (formF k) (rd2 (formF k) (rd1 (formF k) r).2).2).2
    have a5 := rd5_app (formF k) (rd4 (formF k) (rd3 (formF k) (rd2 (formF k) (rd1 (formF k) r).2).2).2).2
    have a6 := skipB_some h1
    unfold readF at *
    dsimp only at *
    generalize hx1 : rd1 (formF k) r = x1 at *
    generalize hx2 : rd2 (formF k) x1.2 = x2 at *
    generalize hx3 : rd3 (formF k) x2.2 = x3 at *
    generalize hx4 : rd4 (formF k) x3.2 = x4 at *
    generalize hx5 : rd5 (formF k) x4.2 = x5 at *
    have a : r = privL x1.1 ++ (parL x2.1 ++ (x3.1 ++ (privL x4.1 ++ (x5.1 ++ ((formF k).en ++ x5.2.drop (formF k).en.length))))) := by
      rw [← a6, ← a5, ← a4, ← a3, ← a2, ← a1]
    have hne : ∀ n : Nat, 1 ≤ n → btw n 126 x4.1 = true → privL x4.1 = [x4.1] := fun n hn h => by
      unfold privL
      rw [if_neg]
      intro e
      rw [e, btw_iff] at h
      simp at h
      omega
    rw [a]
    rcases hk with rfl | rfl | rfl | rfl | rfl
    · have hf : btw 64 126 x4.1 = true := by simpa [lastOk] using hl
      rw [hne 64 (by omega) hf]
      have e5 : x5.1 = [] := by rw [← hx5]; rfl
      rw [e5]
      simp [headF, formF, putS, bodyL]
    · have hf : btw 64 126 x4.1 = true := by simpa [lastOk] using hl
      rw [hne 64 (by omega) hf]
      have e1 : x1.1 = 0 := by rw [← hx1]; rfl
      have e2 : x2.1 = [] := by rw [← hx2]; rfl
      have e3 : x3.1 = [] := by rw [← hx3]; rfl
      have e5 : x5.1 = [] := by rw [← hx5]; rfl
      rw [e1, e2, e3, e5]
      simp [headF, formF, putS, privL, parL]
    · have hf : btw 64 126 x4.1 = true := by simpa [lastOk] using hl
      rw [hne 64 (by omega) hf]
      simp [headF, formF, putS, bodyL]
    · have e1 : x1.1 = 0 := by rw [← hx1]; rfl
      have e2 : x2.1 = [] := by rw [← hx2]; rfl
      have e3 : x3.1 = [] := by rw [← hx3]; rfl
      have e4 : x4.1 = 0 := by rw [← hx4]; rfl
      rw [e1, e2, e3, e4]
      simp [headF, formF, putS, privL, parL]
    · have hf : btw 48 126 x4.1 = true := by simp [lastOk] at hl; exact hl.1
      rw [hne 48 (by omega) hf]
      have e1 : x1.1 = 0 := by rw [← hx1]; rfl
      have e2 : x2.1 = [] := by rw [← hx2]; rfl
      have e5 : x5.1 = [] := by rw [← hx5]; rfl
      rw [e1, e2, e5]
      simp [headF, formF, putS, privL, parL]
  · cases h

theorem runF_full (a b : Nat) (t r : List UInt8) (ht : ∀ c ∈ t, btw a b c = true) : runF a b t.length (t ++ r) = t := by
  unfold runF
  rw [List.take_left]
  have := tw_app (btw a b) t [] ht rfl
  rwa [List.append_nil] at this
theorem runF_none (a b m : Nat) (r : List UInt8) (h : r.head?.any (btw a b) = false) : runF a b m r = [] := by
  have := runF_put a b m [] r (fun c hc => by cases hc) (by simp) h
  exact this
theorem runF_end {a b m k : Nat} {r : List UInt8} (hk : k ≤ r.length) (hm : k ≤ m) (ha : (r.take k).all (btw a b) = true) (hs : k = m ∨ k = r.length ∨ ∃ h : k < r.length, btw a b r[k] = false) : runF a b m r = r.take k := by
  have hl : (r.take k).length = k := by rw [List.length_take]; omega
  have ha' : ∀ c ∈ r.take k, btw a b c = true := List.all_eq_true.1 ha
  conv => lhs; rw [← List.take_append_drop k r]
  rcases hs with rfl | rfl | ⟨h, hb⟩
  · have := runF_full a b (r.take k) (r.drop k) ha'
    rwa [hl] at this
  · exact runF_put a b m _ _ ha' (by omega) (by simp)
  · refine runF_put a b m _ _ ha' (by omega) ?_
    rw [List.drop_eq_getElem_cons h]
    exact hb
theorem rd1_put (f : Fm) (pv : UInt8) (r : List UInt8) (hb : f.body = true) (hv : privOk pv = true) (hr : r.head?.any (btw 60 63) = false) : rd1 f (privL pv ++ r) = (pv, r) := by
  unfold rd1
  rw [if_pos hb]
  by_cases h0 : pv = 0
  · subst h0
    have e := runF_none 60 63 1 r hr
    rw [show privL 0 ++ r = r from rfl]
    unfold oneF
    rw [e]
    rfl
  · have hb : btw 60 63 pv = true := by
      simp only [privOk, Bool.or_eq_true, decide_eq_true_eq] at hv
      exact hv.resolve_left h0
    have e := runF_full 60 63 [pv] r (fun c hc => by rw [List.mem_singleton] at hc; subst hc; exact hb)
    rw [show privL pv = [pv] from if_neg h0]
    unfold oneF
    rw [show ([pv] : List UInt8).length = 1 from rfl] at e
    rw [e]
    rfl
theorem rd4_put (f : Fm) (x : UInt8) (r : List UInt8) (hf : f.first ≠ 0) (hx : btw f.first.toNat 126 x = true) : rd4 f (x :: r) = (x, r) := by
  unfold rd4
  rw [if_neg hf]
  have e := runF_full f.first.toNat 126 [x] r (fun c hc => by rw [List.mem_singleton] at hc; subst hc; exact hx)
  rw [show ([x] : List UInt8).length = 1 from rfl] at e
  unfold oneF
  rw [show [x] ++ r = x :: r from rfl] at e
  rw [e]
  rfl
theorem rd3_put (f : Fm) (it r : List UInt8) (hb : f.inter = true) (hi : ∀ c ∈ it, btw 32 47 c = true) (hl : it.length ≤ 2) (hr : r.head?.any (btw 32 47) = false) : rd3 f (it ++ r) = (it, r) := by
  unfold rd3
  rw [if_pos hb, runF_put 32 47 2 it r hi hl hr, List.drop_left]
theorem rd5_put (f : Fm) (d r : List UInt8) (hb : f.en ≠ []) (hi : ∀ c ∈ d, btw 32 126 c = true) (hl : d.length ≤ 4096) (hr : r.head?.any (btw 32 126) = false) : rd5 f (d ++ r) = (d, r) := by
  unfold rd5
  rw [if_neg hb, runF_put 32 126 4096 d r hi hl hr, List.drop_left]
theorem head_off (it : List UInt8) (f : UInt8) (m : List UInt8) (n : Nat) (hi : ∀ c ∈ it, btw 32 47 c = true) (hf : btw n 126 f = true) (hn : 48 ≤ n) : (f :: m).head?.any (btw 32 47) = false ∧ (64 ≤ n → offP (it ++ (f :: m)) ∧ ∀ ps, (parL ps ++ (it ++ (f :: m))).head?.any (btw 60 63) = false) := by
  have h2 := (btw_iff _ _ _).1 hf
  refine ⟨?_, fun h64 => ⟨?_, fun ps => ?_⟩⟩
  · show btw 32 47 f = false
    rw [btw_no]; omega
  · unfold offP
    cases it with
    | nil => show btw 48 59 f = false; rw [btw_no]; omega
    | cons c it =>
      have := (btw_iff _ _ _).1 (hi c (List.mem_cons_self ..))
      show btw 48 59 c = false; rw [btw_no]; omega
  · cases hps : parL ps with
    | cons x xs =>
      have := (btw_iff _ _ _).1 (par_btw ps x (by rw [hps]; exact List.mem_cons_self ..))
      show btw 60 63 x = false; rw [btw_no]; omega
    | nil =>
      cases it with
      | nil => show btw 60 63 f = false; rw [btw_no]; omega
      | cons c it =>
        have := (btw_iff _ _ _).1 (hi c (List.mem_cons_self ..))
        show btw 60 63 c = false; rw [btw_no]; omega

theorem prog_put {s : Sq} (h : mayS s = 0) (m : List UInt8) : progF (putS s ++ m) = some (s, m) := by
  obtain ⟨hdl, hv, hp, hil, hi, hd, hl, hb⟩ := ok_parts h
  have hcases : s.kind = 1 ∨ s.kind = 2 ∨ s.kind = 3 ∨ s.kind = 4 ∨ s.kind = 5 := by
    unfold lastOk at hl
    split at hl
    · omega
    · split at hl
      · omega
      · simp only [Bool.and_eq_true, decide_eq_true_eq] at hl; omega
  have goal : ∀ (k : Int) (r : List UInt8), k ≠ 0 → kindF (putS s ++ m) = k → putS s ++ m = headF k ++ r → readF k r = (s, (formF k).en ++ m) → progF (putS s ++ m) = some (s, m) := by
    intro k r k0 hk e hr
    unfold progF
    rw [hk, if_neg k0, e, List.drop_left, hr]
    unfold endF
    dsimp only
    rw [if_pos ⟨skipB_app _ _, h⟩, List.drop_left]
  obtain ⟨k, pv, ps, it, f, d⟩ := s
  dsimp only at hv hp hi hd hcases hil hdl
  rcases hcases with rfl | rfl | rfl | rfl | rfl
  · have hf : btw 64 126 f = true := by simpa [lastOk] using hl
    have hd0 : d = [] := by simpa [bareOk] using hb
    subst hd0
    obtain ⟨o1, o2⟩ := head_off it f m 64 hi hf (by omega)
    obtain ⟨o2, o3⟩ := o2 (by omega)
    refine goal 1 (privL pv ++ (parL ps ++ (it ++ (f :: m)))) (by omega) ?_ ?_ ?_
    · rfl
    · simp [headF, formF, putS, bodyL]
    · unfold readF
      dsimp only
      rw [rd1_put _ pv _ rfl hv (o3 ps)]
      dsimp only
      rw [show rd2 (formF 1) (parL ps ++ (it ++ f :: m)) = paramsF (parL ps ++ (it ++ f :: m)) from rfl, paramsF_put ps _ hp o2]
      dsimp only
      rw [rd3_put _ it _ rfl hi hil o1]
      dsimp only
      rw [rd4_put (formF 1) f m (by decide) hf]
      rfl
  · have h1 : pv = 0 ∧ ps = [] ∧ it = [] ∧ d = [] := by
      simp [bareOk] at hb
      obtain ⟨⟨⟨a, b⟩, c⟩, e⟩ := hb
      exact ⟨a, b, c, e⟩
    obtain ⟨rfl, rfl, rfl, rfl⟩ := h1
    have hf : btw 64 126 f = true := by simpa [lastOk] using hl
    refine goal 2 (f :: m) (by omega) rfl rfl ?_
    unfold readF
    dsimp only
    rw [show rd1 (formF 2) (f :: m) = (0, f :: m) from rfl]
    dsimp only
    rw [show rd2 (formF 2) (f :: m) = ([], f :: m) from rfl]
    dsimp only
    rw [show rd3 (formF 2) (f :: m) = ([], f :: m) from rfl]
    dsimp only
    rw [rd4_put (formF 2) f m (by decide) hf]
    rfl
  · have hf : btw 64 126 f = true := by simpa [lastOk] using hl
    obtain ⟨o1, o2⟩ := head_off it f (d ++ (27 :: 92 :: m)) 64 hi hf (by omega)
    obtain ⟨o2, o3⟩ := o2 (by omega)
    refine goal 3 (privL pv ++ (parL ps ++ (it ++ (f :: (d ++ (27 :: 92 :: m)))))) (by omega) ?_ ?_ ?_
    · rfl
    · simp [headF, formF, putS, bodyL]
    · unfold readF
      dsimp only
      rw [rd1_put _ pv _ rfl hv (o3 ps)]
      dsimp only
      rw [show rd2 (formF 3) (parL ps ++ (it ++ f :: (d ++ 27 :: 92 :: m))) = paramsF (parL ps ++ (it ++ f :: (d ++ 27 :: 92 :: m))) from rfl, paramsF_put ps _ hp o2]
      dsimp only
      rw [rd3_put _ it _ rfl hi hil o1]
      dsimp only
      rw [rd4_put (formF 3) f _ (by decide) hf]
      dsimp only
      rw [rd5_put (formF 3) d (27 :: 92 :: m) (by decide) hd hdl rfl]
      rfl
  · have h1 : pv = 0 ∧ ps = [] ∧ it = [] := by
      simp [bareOk] at hb
      exact ⟨hb.1.1, hb.1.2, hb.2⟩
    have hf : f = 0 := by simpa [lastOk] using hl
    obtain ⟨rfl, rfl, rfl⟩ := h1
    subst hf
    refine goal 4 (d ++ (27 :: 92 :: m)) (by omega) ?_ ?_ ?_
    · rfl
    · simp [headF, formF, putS]
    · unfold readF
      dsimp only
      rw [show rd1 (formF 4) (d ++ (27 :: 92 :: m)) = (0, d ++ (27 :: 92 :: m)) from rfl]
      dsimp only
      rw [show rd2 (formF 4) (d ++ (27 :: 92 :: m)) = ([], d ++ (27 :: 92 :: m)) from rfl]
      dsimp only
      rw [show rd3 (formF 4) (d ++ (27 :: 92 :: m)) = ([], d ++ (27 :: 92 :: m)) from rfl]
      dsimp only
      rw [show rd4 (formF 4) (d ++ (27 :: 92 :: m)) = (0, d ++ (27 :: 92 :: m)) from rfl]
      dsimp only
      rw [rd5_put (formF 4) d (27 :: 92 :: m) (by decide) hd hdl rfl]
      rfl
  · have h1 : pv = 0 ∧ ps = [] ∧ d = [] := by
      simp [bareOk] at hb
      exact ⟨hb.1.1, hb.1.2, hb.2⟩
    obtain ⟨rfl, rfl, rfl⟩ := h1
    have hf : btw 48 126 f = true ∧ (it ≠ [] ∨ ¬ (f = 79 ∨ f = 80 ∨ f = 88 ∨ f = 91 ∨ f = 93 ∨ f = 92 ∨ f = 94 ∨ f = 95)) := by
      simp [lastOk] at hl
      refine ⟨hl.1, ?_⟩
      rcases hl.2 with h | h
      · exact .inl h
      · right
        intro hh
        rcases hh with rfl | rfl | rfl | rfl | rfl | rfl | rfl | rfl <;> simp at h
    obtain ⟨o1, _⟩ := head_off it f m 48 hi hf.1 (by omega)
    have hg : ∀ c1 r, it ++ (f :: m) = c1 :: r → c1 ≠ 79 ∧ c1 ≠ 93 ∧ c1 ≠ 91 ∧ c1 ≠ 80 := by
      intro c1 r e
      cases it with
      | cons x xs =>
        obtain rfl : x = c1 := by simpa using congrArg List.head? e
        have := (btw_iff _ _ _).1 (hi x (List.mem_cons_self ..))
        refine ⟨?_, ?_, ?_, ?_⟩ <;> (rintro rfl; simp at this)
      | nil =>
        obtain rfl : f = c1 := by simpa using congrArg List.head? e
        have := hf.2.resolve_left (by simp)
        refine ⟨?_, ?_, ?_, ?_⟩ <;> (intro h; exact this (by simp [h]))
    have e : putS ⟨5, 0, [], it, f, []⟩ ++ m = 27 :: (it ++ (f :: m)) := by simp [putS]
    refine goal 5 (it ++ (f :: m)) (by omega) ?_ ?_ ?_
    · rw [e]
      cases ht : it ++ (f :: m) with
      | nil => simp at ht
      | cons c1 r =>
        obtain ⟨g1, g2, g3, g4⟩ := hg c1 r ht
        have g : ∀ x : UInt8, c1 ≠ x → skipB [27, x] (27 :: c1 :: r) = false := fun x hx => by simp [skipB, List.isPrefixOf, Ne.symm hx]
        unfold kindF
        rw [g 91 g3, g 79 g1, g 80 g4, g 93 g2]
        rfl
    · rw [e]; rfl
    · unfold readF
      dsimp only
      rw [show rd1 (formF 5) (it ++ (f :: m)) = (0, it ++ (f :: m)) from rfl]
      dsimp only
      rw [show rd2 (formF 5) (it ++ (f :: m)) = ([], it ++ (f :: m)) from rfl]
      dsimp only
      rw [rd3_put _ it _ rfl hi hil o1]
      dsimp only
      rw [rd4_put (formF 5) f m (by decide) hf.1]
      rfl

theorem prog_yes {b : List UInt8} {s : Sq} {t : List UInt8} (h : progF b = some (s, t)) : mayS s = 0 ∧ b = putS s ++ t := by
  unfold progF at h
  split at h
  · cases h
  · rename_i h0
    obtain ⟨hk, hs⟩ := (kind_cases b).resolve_left h0
    obtain ⟨h1, h2⟩ := read_sound _ hk _ _ _ h
    exact ⟨h1, (skipB_some hs).trans h2⟩
theorem prog_some {b : List UInt8} {s : Sq} {n : Nat} (h : takeS b = some (s, n)) : progF b = some (s, b.drop n) ∧ n ≤ b.length := by
  obtain ⟨h1, h2, h3⟩ := takeS_some h
  refine ⟨?_, ?_⟩
  · conv => lhs; rw [h3]
    exact prog_put h1 _
  · have := congrArg List.length h3
    rw [List.length_append] at this
    omega
theorem prog_none {b : List UInt8} (h : takeS b = none) : progF b = none := by
  cases hp : progF b with
  | none => rfl
  | some x =>
    obtain ⟨s, t⟩ := x
    obtain ⟨h1, h2⟩ := prog_yes hp
    rw [h2, takeS_put h1] at h
    cases h
end Go.Proofs.YtmagokkegadmiaaGreatDoor
namespace Go.Proofs.YtmagokkegadmiaaGreatDoor
open Go.RowKit

set_option maxRecDepth 100000 in
set_option maxHeartbeats 4000000 in
theorem eqf_any (A B : Option Addr) (n m c d : Nat) (ps qs : List (List Int)) (q : Bool) (w : World) (hn : ps.length = n) (hm : qs.length = m) (hq : decide (ps = qs) = q) (hl : n ≤ 4294967296) (hl2 : m ≤ 4294967296) (hp : ∀ p ∈ ps, p.length ≤ 4294967296) (hq2 : ∀ p ∈ qs, p.length ≤ 4294967296) (hra : RdP w A ps) (hrb : RdP w B qs) :
    Calls Tryz.prog 56 #[.slice A n c, .slice B m d, .func (.func 57) #[] #[]] w fun e w' => e = .returned (.bool q) ∧ Below w.heap.size w w' := by
  have HN := Lib.hid hn
  have HM := Lib.hid hm
  have HQ := Lib.hid hq
  have HP := Lib.hid hp
  have HP2 := Lib.hid hq2
  clear hp hq2
  by_cases hlen : n = m
  · subst hlen
    clear hn hm hq
    go_enter Tryz.func56, Tryz.ntmps56
    go_wp2_with fail
    go_loopw [17] (fun i wr => ∃ k : Nat, k ≤ n ∧ i = .int .i64 k ∧ ps.take k = qs.take k ∧ Below w.heap.size w wr) (fun i _ => n - (intOf i).toNat)
    case atStart => exact ⟨0, Nat.zero_le _, rfl, rfl, Below.refl _ _⟩
    case round =>
      obtain ⟨k, hk, rfl, hab, hbw⟩ := hrel
      have HAB := Lib.hid hab
      clear hab
      by_cases hlt : k < n
      · have hka : k < ps.length := by rw [HN.out]; exact hlt
        have hkb : k < qs.length := by rw [HM.out]; exact hlt
        obtain ⟨p, o, hA, hpb, hc⟩ := (hra.below hbw) (by omega)
        obtain ⟨p2, o2, hA2, hpb2, hc2⟩ := (hrb.below hbw) (by omega)
        cases hA
        cases hA2
        obtain ⟨A1, c1, hck, hr1⟩ := hc k hka
        obtain ⟨A2, c2, hdk, hr2⟩ := hc2 k hkb
        have h1l := HP.out _ (List.getElem_mem hka)
        have h2l := HP2.out _ (List.getElem_mem hkb)
        obtain ⟨x, hx⟩ : ∃ x, ps[k]'hka = x := ⟨_, rfl⟩
        obtain ⟨y, hy⟩ : ∃ y, qs[k]'hkb = y := ⟨_, rfl⟩
        rw [hx] at hck hr1 h1l
        rw [hy] at hdk hr2 h2l
        have HX := Lib.hid hx
        have HY := Lib.hid hy
        clear hx hy hc hc2
        obtain ⟨nx, hnx⟩ : ∃ nx, x.length = nx := ⟨_, rfl⟩
        obtain ⟨ny, hny⟩ : ∃ ny, y.length = ny := ⟨_, rfl⟩
        rw [hnx] at hck h1l
        rw [hny] at hdk h2l
        have HNX := Lib.hid hnx
        have HNY := Lib.hid hny
        clear hnx hny
        cases he : decide (x = y) with
        | true =>
          have HE := Lib.hid he
          have H := Lib.hid (show ps.take (k + 1) = qs.take (k + 1) by rw [List.take_succ_eq_append_getElem hka, List.take_succ_eq_append_getElem hkb, HAB.out, HX.out, HY.out, of_decide_eq_true he])
          clear he
          go_wp2_with fail
          refine (eq_at A1 A2 nx ny c1 c2 x y true _ HNX.out HNY.out HE.out h1l h2l hr1 hr2).mono ?_
          rintro e w2 ⟨rfl, hb2⟩
          go_wp2_with fail
          go_roundw
          case rel => exact ⟨k + 1, by omega, by go_num, H.out, hbw.trans (hb2.mono hbw.size)⟩
          case measure => simp [intOf]; omega
        | false =>
          have HE := Lib.hid he
          have E := Lib.hid (show false = q by
            rw [← HQ.out]
            refine (decide_eq_false (fun e => of_decide_eq_false he ?_)).symm
            subst e
            exact HX.out.symm.trans HY.out)
          clear he
          go_wp2_with fail
          refine (eq_at A1 A2 nx ny c1 c2 x y false _ HNX.out HNY.out HE.out h1l h2l hr1 hr2).mono ?_
          rintro e w2 ⟨rfl, hb2⟩
          go_wp2_with fail
          go_ret
          exact ⟨ret_b E.out, hbw.trans (hb2.mono hbw.size)⟩
      · have E := Lib.hid (show true = q by
          rw [← HQ.out]
          refine (decide_eq_true ?_).symm
          have h1 := HAB.out
          rw [List.take_of_length_le (by rw [HN.out]; omega), List.take_of_length_le (by rw [HM.out]; omega)] at h1
          exact h1)
        go_wp2_with fail
        go_ret
        exact ⟨ret_b E.out, hbw⟩
  · have E := Lib.hid (show false = q by
      rw [← hq]
      refine (decide_eq_false (fun e => hlen ?_)).symm
      rw [← hn, ← hm, e])
    have t1 : ((n : Int) == (m : Int)) = false := beq_false_of_ne (by omega)
    have t2 : ((n : Int) != (m : Int)) = true := by simp [bne, t1]
    clear hlen hn hm hq
    go_enter Tryz.func56, Tryz.ntmps56
    go_wp2_with fail
    go_ret
    exact ⟨ret_b E.out, Below.refl _ _⟩
end Go.Proofs.YtmagokkegadmiaaGreatDoor
namespace Go.Proofs.YtmagokkegadmiaaGreatDoor
open Go.RowKit

def notU8 : Value → Bool
  | .int .u8 _ => false
  | _ => true
/-- Bytes don't lie in a block that holds none. -/
theorem Rd.off_key {w : World} {A : Option Addr} {L : List UInt8} {g : Nat} {t : TypeId} {cs : Array Value} (h : Rd w A (bs L)) (hk : Blk w g t cs) (hc : cs.toList.all notU8 = true) : RdOff w (fun k => k = g) A (bs L) := fun hp => by
  obtain ⟨b, o, rfl, hb, hx⟩ := h hp
  refine ⟨b, o, rfl, hb, fun e => ?_, hx⟩
  subst e
  have h0 := hx 0 _ (List.getElem?_eq_getElem hp)
  rw [Nat.add_zero, hk.cell o] at h0
  obtain ⟨c, _, hcv⟩ := List.mem_map.1 (List.getElem_mem (l := bs L) hp)
  rw [← hcv] at h0
  have := List.all_eq_true.1 hc _ (Array.mem_def.1 (Array.mem_of_getElem? h0))
  cases this
end Go.Proofs.YtmagokkegadmiaaGreatDoor
