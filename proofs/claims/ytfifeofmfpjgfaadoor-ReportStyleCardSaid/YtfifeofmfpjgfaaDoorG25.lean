/-
  Layer 6: where the landed modes stand (a map that a literal makes), walked.
-/
import Derived.Test.YtfifeofmfpjgfaaDoorG03
import Derived.Test.YtfifeofmfpjgfaaDoorG05
namespace Go.Proofs.YtfifeofmfpjgfaaDoor
open Go.RowKit Go.Maps
def flV (g o : Nat) : Value := .agg #[.pointer (some ⟨g, o, none⟩), .pointer none]
def chV (g o : Nat) : Value := .agg #[.pointer none, .pointer (some ⟨g, o, none⟩)]
def fieldL (p : Bool) (g : Nat) : List (Lit × DataW Value) :=
 if p = true then [(.int .i64 1, .held (flV g 0)), (.int .i64 9, .held (chV g 7)), (.int .i64 66, .held (flV g 1)), (.int .i64 67, .held (flV g 2)), (.int .i64 1000, .held (chV g 7)), (.int .i64 1002, .held (chV g 7)), (.int .i64 1003, .held (chV g 7)), (.int .i64 1004, .held (flV g 3)), (.int .i64 1005, .held (chV g 8)), (.int .i64 1006, .held (chV g 8)), (.int .i64 1015, .held (chV g 8)), (.int .i64 2004, .held (flV g 4))]
 else [(.int .i64 2, .held (flV g 5)), (.int .i64 20, .held (flV g 6))]
def FieldsE (p : Bool) (g : Nat) (w : World) (e : Ending) (w' : World) : Prop := ∃ b n, e = .returned (.map (some b)) ∧ w.heap.size ≤ b ∧ w'.ownsMap Tryd.prog 3 hel b n (.map (fieldL p g)) ∧ Below w.heap.size w w'
theorem below_but {B b : Nat} {a w w' : World} (h : Below B a w) (hg : w.grownBy w' (some b)) (hB : B ≤ w.heap.size) (hb : B ≤ b) : Below B a w' :=
 ⟨hg.os.trans h.os, hg.tape.trans h.tape, hg.output.trans h.output, Nat.le_trans h.size hg.size, fun k hk => (hg.block k (Nat.lt_of_lt_of_le hk hB) (fun e => by injection e with e; omega)).trans (h.block k hk)⟩
def entsno (g : Nat) : List Ent := [⟨5, .int .i64 2, flV g 5⟩, ⟨10, .int .i64 20, flV g 6⟩]
set_option maxRecDepth 100000 in
set_option maxHeartbeats 8000000 in
theorem fields_no (g : Nat) (w : World) : Calls Tryd.prog 59 #[.pointer (some ⟨g, 0, none⟩), .bool false] w (FieldsE false g w) := by
 go_enter Tryd.func59, Tryd.ntmps59
 go_wp2_with fail
 refine wp_region_any (by kernel_rfl) ?_
 change wpAny _ _ _ _ (2 + 2 + 1 + 8) _ _ _
 refine wpAny_takes (l' := #[false, true, true, true, true, false, true, true, true, true, false, false, false]) (a' := ⟨#[Value.pointer (some ⟨g, 0, none⟩), Value.bool false, undef, undef, Value.map none, Value.bool false, Value.bool true, undef, Value.pointer (some ⟨g, 0, none⟩), Value.pointer (some ⟨g, 0, none⟩), Value.pointer (some ⟨g, 5, none⟩), Value.agg #[.pointer (some ⟨g, 5, none⟩), .pointer none], Value.pointer (some ⟨g, 0, none⟩), Value.pointer (some ⟨g, 0, none⟩), Value.pointer (some ⟨g, 6, none⟩), Value.agg #[.pointer (some ⟨g, 6, none⟩), .pointer none], undef, undef, undef, undef, undef, undef, undef, undef, undef, undef, undef, undef, undef, undef, undef, undef, undef, undef, undef, undef, undef, undef, undef, undef, undef, undef, undef, undef, undef, undef, undef, undef, undef, undef, undef, undef, undef, undef, undef, undef, undef, undef, undef, undef, undef, undef, undef, undef, undef, undef, undef], []⟩) (by kernel_rfl) (fun _ _ d _ _ h => by cases d <;> exact h) ?_ ?_
 ·
  refine .cons 1 (o := ⟨some 8, _, _, _, _, _⟩) (Value.pointer (some ⟨g, 0, none⟩)) rfl (by kernel_rfl) (by kernel_rfl) (.inl ⟨by kernel_rfl, fun _ => by kernel_rfl⟩) ?_
  refine .cons 2 (o := ⟨some 9, _, _, _, _, _⟩) (Value.pointer (some ⟨g, 0, none⟩)) rfl (by kernel_rfl) (by kernel_rfl) (.inl ⟨by kernel_rfl, fun _ => by kernel_rfl⟩) ?_
  refine .cons 3 (o := ⟨some 10, _, _, _, _, _⟩) (Value.pointer (some ⟨g, 5, none⟩)) rfl (by kernel_rfl) (by kernel_rfl) (.inl ⟨by kernel_rfl, fun _ => by kernel_rfl⟩) ?_
  refine .cons 4 (o := ⟨some 11, _, _, _, _, _⟩) (Value.agg #[.pointer (some ⟨g, 5, none⟩), .pointer none]) rfl (by kernel_rfl) (by kernel_rfl) (.inl ⟨by kernel_rfl, fun _ => by kernel_rfl⟩) ?_
  refine .cons 6 (o := ⟨some 12, _, _, _, _, _⟩) (Value.pointer (some ⟨g, 0, none⟩)) rfl (by kernel_rfl) (by kernel_rfl) (.inl ⟨by kernel_rfl, fun _ => by kernel_rfl⟩) ?_
  refine .cons 7 (o := ⟨some 13, _, _, _, _, _⟩) (Value.pointer (some ⟨g, 0, none⟩)) rfl (by kernel_rfl) (by kernel_rfl) (.inl ⟨by kernel_rfl, fun _ => by kernel_rfl⟩) ?_
  refine .cons 8 (o := ⟨some 14, _, _, _, _, _⟩) (Value.pointer (some ⟨g, 6, none⟩)) rfl (by kernel_rfl) (by kernel_rfl) (.inl ⟨by kernel_rfl, fun _ => by kernel_rfl⟩) ?_
  refine .cons 9 (o := ⟨some 15, _, _, _, _, _⟩) (Value.agg #[.pointer (some ⟨g, 6, none⟩), .pointer none]) rfl (by kernel_rfl) (by kernel_rfl) (.inl ⟨by kernel_rfl, fun _ => by kernel_rfl⟩) ?_
  exact .done (by kernel_rfl) (by kernel_rfl)
 refine wpAny_only (i := 0) (by kernel_rfl) ?_
 refine wpOp_make (o := ⟨some 7, _, _, _, _, _⟩) (T := 81) rfl rfl rfl ?_
 obtain ⟨w1, hw1⟩ : ∃ w1 : World, ({ heap := w.heap, tape := w.tape, drawn := w.drawn + 1, os := w.os, output := w.output } : World) = w1 := ⟨_, rfl⟩
 have hb1 : Below w.heap.size w w1 := by rw [← hw1]; exact ⟨rfl, rfl, rfl, Nat.le_refl _, fun _ _ => rfl⟩
 have hs1 : w1.heap.size = w.heap.size := by rw [← hw1]
 rw [hw1]
 clear hw1
 obtain ⟨b, hb⟩ : ∃ b, w1.heap.size = b := ⟨_, rfl⟩
 have hown := World.ownsMap_made w1 Tryd.prog 3 hel
 have hb2 : Below w.heap.size w (w1.alloc (.map #[] 0)) := hb1.alloc hb1.size _
 rw [hb] at hown ⊢
 obtain ⟨w2, hw2⟩ : ∃ w2, w1.alloc (.map #[] 0) = w2 := ⟨_, rfl⟩
 rw [hw2] at hown hb2 ⊢
 clear hw2
 change wpAny _ _ _ _ (2 + 2) #[true, true, true, true, true, false, true, true, true, true, false, false, false] ⟨#[Value.pointer (some ⟨g, 0, none⟩), Value.bool false, undef, undef, Value.map none, Value.bool false, Value.bool true, Value.map (some b), Value.pointer (some ⟨g, 0, none⟩), Value.pointer (some ⟨g, 0, none⟩), Value.pointer (some ⟨g, 5, none⟩), Value.agg #[.pointer (some ⟨g, 5, none⟩), .pointer none], Value.pointer (some ⟨g, 0, none⟩), Value.pointer (some ⟨g, 0, none⟩), Value.pointer (some ⟨g, 6, none⟩), Value.agg #[.pointer (some ⟨g, 6, none⟩), .pointer none], undef, undef, undef, undef, undef, undef, undef, undef, undef, undef, undef, undef, undef, undef, undef, undef, undef, undef, undef, undef, undef, undef, undef, undef, undef, undef, undef, undef, undef, undef, undef, undef, undef, undef, undef, undef, undef, undef, undef, undef, undef, undef, undef, undef, undef, undef, undef, undef, undef, undef, undef], []⟩ w2
 refine wpAny_inserts (T := 81) (K := 3) (E := 79) (int_keyed Tryd.underlying3) Tryd.underlying81 (b := b) (I := entsno g) (L1 := #[true, true, true, true, true, true, true, true, true, true, true, false, false]) (w0 := w2) ?_ (by kernel_rfl) (by kernel_rfl) ?_ (show ([5, 10] : List Nat).Nodup by decide) (show ([.int .i64 2, .int .i64 20] : List Lit).Nodup by simp) ?_ (by show 2 < maxLen; decide) (fun w3 D hD => ?_) 2 (entsno g) _ w2 (.map []) rfl (List.Sublist.refl _) (Come.start (by kernel_rfl) (by kernel_rfl)) ?_
 ·refine (all_cons ⟨_, _, _, _, _, rfl, rfl, rfl, rfl, by kernel_rfl, rfl, by kernel_rfl, by kernel_rfl⟩ (all_cons ⟨_, _, _, _, _, rfl, rfl, rfl, rfl, by kernel_rfl, rfl, by kernel_rfl, by kernel_rfl⟩ all_nil))
 ·exact of_decide_eq_true (by kernel_rfl)
 ·exact (all_cons trivial (all_cons trivial all_nil))
 ·have hD2 := hD.eq (int_keyed Tryd.underlying3) (L := fieldL false g) (by simp [fieldL, Lit.before]) (by simp [fieldL, WideAt.IsKeyLit]) (by simp [entsno, fieldL]) (by simp [entsno, fieldL])
  have hown3 := hD.own
  have hg3 := hD.grown
  rw [hD2] at hown3
  clear hD hD2 D hown
  refine wpAny_takes (fuel := 0) (l' := #[true, true, true, true, true, true, true, true, true, true, true, true, true]) (a' := ⟨#[Value.pointer (some ⟨g, 0, none⟩), Value.bool false, undef, undef, Value.map (some b), Value.bool false, Value.bool true, Value.map (some b), Value.pointer (some ⟨g, 0, none⟩), Value.pointer (some ⟨g, 0, none⟩), Value.pointer (some ⟨g, 5, none⟩), Value.agg #[.pointer (some ⟨g, 5, none⟩), .pointer none], Value.pointer (some ⟨g, 0, none⟩), Value.pointer (some ⟨g, 0, none⟩), Value.pointer (some ⟨g, 6, none⟩), Value.agg #[.pointer (some ⟨g, 6, none⟩), .pointer none], Value.map (some b), undef, undef, undef, undef, undef, undef, undef, undef, undef, undef, undef, undef, undef, undef, undef, undef, undef, undef, undef, undef, undef, undef, undef, undef, undef, undef, undef, undef, undef, undef, undef, undef, undef, undef, undef, undef, undef, undef, undef, undef, undef, undef, undef, undef, undef, undef, undef, undef, undef, undef], []⟩) (by kernel_rfl) (fun _ _ d _ _ h => by cases d <;> exact h) (.cons 11 (o := ⟨some 16, _, _, _, _, _⟩) (.map (some b)) rfl (by kernel_rfl) (by kernel_rfl) (.inl ⟨by kernel_rfl, fun _ => by kernel_rfl⟩) (.cons 12 (o := ⟨some 4, _, _, _, _, _⟩) (.map (some b)) rfl (by kernel_rfl) (by kernel_rfl) (.inl ⟨by kernel_rfl, fun _ => by kernel_rfl⟩) (.done (by kernel_rfl) (by kernel_rfl)))) ?_
  refine wpAny_done (by kernel_rfl) ?_ 0
  go_wp2_with fail
  go_ret
  exact ⟨b, _, rfl, by omega, hown3, below_but hb2 hg3 hb2.size (by omega)⟩
 ·exact ⟨by simpa using hown, World.grownBy.refl _ _, fun p hp hn => absurd hp hn, fun k _ z => rfl⟩
def entsyes (g : Nat) : List Ent := [⟨5, .int .i64 1, flV g 0⟩, ⟨10, .int .i64 66, flV g 1⟩, ⟨15, .int .i64 67, flV g 2⟩, ⟨20, .int .i64 1004, flV g 3⟩, ⟨25, .int .i64 2004, flV g 4⟩, ⟨30, .int .i64 9, chV g 7⟩, ⟨35, .int .i64 1000, chV g 7⟩, ⟨40, .int .i64 1002, chV g 7⟩, ⟨45, .int .i64 1003, chV g 7⟩, ⟨50, .int .i64 1005, chV g 8⟩, ⟨55, .int .i64 1006, chV g 8⟩, ⟨60, .int .i64 1015, chV g 8⟩]
set_option maxRecDepth 100000 in
set_option maxHeartbeats 8000000 in
theorem fields_yes (g : Nat) (w : World) : Calls Tryd.prog 59 #[.pointer (some ⟨g, 0, none⟩), .bool true] w (FieldsE true g w) := by
 go_enter Tryd.func59, Tryd.ntmps59
 go_wp2_with fail
 refine wp_region_any (by kernel_rfl) ?_
 change wpAny _ _ _ _ (12 + 2 + 1 + 48) _ _ _
 refine wpAny_takes (l' := #[false, true, true, true, true, false, true, true, true, true, false, true, true, true, true, false, true, true, true, true, false, true, true, true, true, false, true, true, true, true, false, true, true, true, true, false, true, true, true, true, false, true, true, true, true, false, true, true, true, true, false, true, true, true, true, false, true, true, true, true, false, false, false]) (a' := ⟨#[Value.pointer (some ⟨g, 0, none⟩), Value.bool true, undef, undef, Value.map none, Value.bool true, Value.bool false, undef, undef, undef, undef, undef, undef, undef, undef, undef, undef, undef, Value.pointer (some ⟨g, 0, none⟩), Value.pointer (some ⟨g, 0, none⟩), Value.pointer (some ⟨g, 0, none⟩), Value.agg #[.pointer (some ⟨g, 0, none⟩), .pointer none], Value.pointer (some ⟨g, 0, none⟩), Value.pointer (some ⟨g, 0, none⟩), Value.pointer (some ⟨g, 1, none⟩), Value.agg #[.pointer (some ⟨g, 1, none⟩), .pointer none], Value.pointer (some ⟨g, 0, none⟩), Value.pointer (some ⟨g, 0, none⟩), Value.pointer (some ⟨g, 2, none⟩), Value.agg #[.pointer (some ⟨g, 2, none⟩), .pointer none], Value.pointer (some ⟨g, 0, none⟩), Value.pointer (some ⟨g, 0, none⟩), Value.pointer (some ⟨g, 3, none⟩), Value.agg #[.pointer (some ⟨g, 3, none⟩), .pointer none], Value.pointer (some ⟨g, 0, none⟩), Value.pointer (some ⟨g, 0, none⟩), Value.pointer (some ⟨g, 4, none⟩), Value.agg #[.pointer (some ⟨g, 4, none⟩), .pointer none], Value.pointer (some ⟨g, 0, none⟩), Value.pointer (some ⟨g, 0, none⟩), Value.pointer (some ⟨g, 7, none⟩), Value.agg #[.pointer none, .pointer (some ⟨g, 7, none⟩)], Value.pointer (some ⟨g, 0, none⟩), Value.pointer (some ⟨g, 0, none⟩), Value.pointer (some ⟨g, 7, none⟩), Value.agg #[.pointer none, .pointer (some ⟨g, 7, none⟩)], Value.pointer (some ⟨g, 0, none⟩), Value.pointer (some ⟨g, 0, none⟩), Value.pointer (some ⟨g, 7, none⟩), Value.agg #[.pointer none, .pointer (some ⟨g, 7, none⟩)], Value.pointer (some ⟨g, 0, none⟩), Value.pointer (some ⟨g, 0, none⟩), Value.pointer (some ⟨g, 7, none⟩), Value.agg #[.pointer none, .pointer (some ⟨g, 7, none⟩)], Value.pointer (some ⟨g, 0, none⟩), Value.pointer (some ⟨g, 0, none⟩), Value.pointer (some ⟨g, 8, none⟩), Value.agg #[.pointer none, .pointer (some ⟨g, 8, none⟩)], Value.pointer (some ⟨g, 0, none⟩), Value.pointer (some ⟨g, 0, none⟩), Value.pointer (some ⟨g, 8, none⟩), Value.agg #[.pointer none, .pointer (some ⟨g, 8, none⟩)], Value.pointer (some ⟨g, 0, none⟩), Value.pointer (some ⟨g, 0, none⟩), Value.pointer (some ⟨g, 8, none⟩), Value.agg #[.pointer none, .pointer (some ⟨g, 8, none⟩)], undef], []⟩) (by kernel_rfl) (fun _ _ d _ _ h => by cases d <;> exact h) ?_ ?_
 ·
  refine .cons 1 (o := ⟨some 18, _, _, _, _, _⟩) (Value.pointer (some ⟨g, 0, none⟩)) rfl (by kernel_rfl) (by kernel_rfl) (.inl ⟨by kernel_rfl, fun _ => by kernel_rfl⟩) ?_
  refine .cons 2 (o := ⟨some 19, _, _, _, _, _⟩) (Value.pointer (some ⟨g, 0, none⟩)) rfl (by kernel_rfl) (by kernel_rfl) (.inl ⟨by kernel_rfl, fun _ => by kernel_rfl⟩) ?_
  refine .cons 3 (o := ⟨some 20, _, _, _, _, _⟩) (Value.pointer (some ⟨g, 0, none⟩)) rfl (by kernel_rfl) (by kernel_rfl) (.inl ⟨by kernel_rfl, fun _ => by kernel_rfl⟩) ?_
  refine .cons 4 (o := ⟨some 21, _, _, _, _, _⟩) (Value.agg #[.pointer (some ⟨g, 0, none⟩), .pointer none]) rfl (by kernel_rfl) (by kernel_rfl) (.inl ⟨by kernel_rfl, fun _ => by kernel_rfl⟩) ?_
  refine .cons 6 (o := ⟨some 22, _, _, _, _, _⟩) (Value.pointer (some ⟨g, 0, none⟩)) rfl (by kernel_rfl) (by kernel_rfl) (.inl ⟨by kernel_rfl, fun _ => by kernel_rfl⟩) ?_
  refine .cons 7 (o := ⟨some 23, _, _, _, _, _⟩) (Value.pointer (some ⟨g, 0, none⟩)) rfl (by kernel_rfl) (by kernel_rfl) (.inl ⟨by kernel_rfl, fun _ => by kernel_rfl⟩) ?_
  refine .cons 8 (o := ⟨some 24, _, _, _, _, _⟩) (Value.pointer (some ⟨g, 1, none⟩)) rfl (by kernel_rfl) (by kernel_rfl) (.inl ⟨by kernel_rfl, fun _ => by kernel_rfl⟩) ?_
  refine .cons 9 (o := ⟨some 25, _, _, _, _, _⟩) (Value.agg #[.pointer (some ⟨g, 1, none⟩), .pointer none]) rfl (by kernel_rfl) (by kernel_rfl) (.inl ⟨by kernel_rfl, fun _ => by kernel_rfl⟩) ?_
  refine .cons 11 (o := ⟨some 26, _, _, _, _, _⟩) (Value.pointer (some ⟨g, 0, none⟩)) rfl (by kernel_rfl) (by kernel_rfl) (.inl ⟨by kernel_rfl, fun _ => by kernel_rfl⟩) ?_
  refine .cons 12 (o := ⟨some 27, _, _, _, _, _⟩) (Value.pointer (some ⟨g, 0, none⟩)) rfl (by kernel_rfl) (by kernel_rfl) (.inl ⟨by kernel_rfl, fun _ => by kernel_rfl⟩) ?_
  refine .cons 13 (o := ⟨some 28, _, _, _, _, _⟩) (Value.pointer (some ⟨g, 2, none⟩)) rfl (by kernel_rfl) (by kernel_rfl) (.inl ⟨by kernel_rfl, fun _ => by kernel_rfl⟩) ?_
  refine .cons 14 (o := ⟨some 29, _, _, _, _, _⟩) (Value.agg #[.pointer (some ⟨g, 2, none⟩), .pointer none]) rfl (by kernel_rfl) (by kernel_rfl) (.inl ⟨by kernel_rfl, fun _ => by kernel_rfl⟩) ?_
  refine .cons 16 (o := ⟨some 30, _, _, _, _, _⟩) (Value.pointer (some ⟨g, 0, none⟩)) rfl (by kernel_rfl) (by kernel_rfl) (.inl ⟨by kernel_rfl, fun _ => by kernel_rfl⟩) ?_
  refine .cons 17 (o := ⟨some 31, _, _, _, _, _⟩) (Value.pointer (some ⟨g, 0, none⟩)) rfl (by kernel_rfl) (by kernel_rfl) (.inl ⟨by kernel_rfl, fun _ => by kernel_rfl⟩) ?_
  refine .cons 18 (o := ⟨some 32, _, _, _, _, _⟩) (Value.pointer (some ⟨g, 3, none⟩)) rfl (by kernel_rfl) (by kernel_rfl) (.inl ⟨by kernel_rfl, fun _ => by kernel_rfl⟩) ?_
  refine .cons 19 (o := ⟨some 33, _, _, _, _, _⟩) (Value.agg #[.pointer (some ⟨g, 3, none⟩), .pointer none]) rfl (by kernel_rfl) (by kernel_rfl) (.inl ⟨by kernel_rfl, fun _ => by kernel_rfl⟩) ?_
  refine .cons 21 (o := ⟨some 34, _, _, _, _, _⟩) (Value.pointer (some ⟨g, 0, none⟩)) rfl (by kernel_rfl) (by kernel_rfl) (.inl ⟨by kernel_rfl, fun _ => by kernel_rfl⟩) ?_
  refine .cons 22 (o := ⟨some 35, _, _, _, _, _⟩) (Value.pointer (some ⟨g, 0, none⟩)) rfl (by kernel_rfl) (by kernel_rfl) (.inl ⟨by kernel_rfl, fun _ => by kernel_rfl⟩) ?_
  refine .cons 23 (o := ⟨some 36, _, _, _, _, _⟩) (Value.pointer (some ⟨g, 4, none⟩)) rfl (by kernel_rfl) (by kernel_rfl) (.inl ⟨by kernel_rfl, fun _ => by kernel_rfl⟩) ?_
  refine .cons 24 (o := ⟨some 37, _, _, _, _, _⟩) (Value.agg #[.pointer (some ⟨g, 4, none⟩), .pointer none]) rfl (by kernel_rfl) (by kernel_rfl) (.inl ⟨by kernel_rfl, fun _ => by kernel_rfl⟩) ?_
  refine .cons 26 (o := ⟨some 38, _, _, _, _, _⟩) (Value.pointer (some ⟨g, 0, none⟩)) rfl (by kernel_rfl) (by kernel_rfl) (.inl ⟨by kernel_rfl, fun _ => by kernel_rfl⟩) ?_
  refine .cons 27 (o := ⟨some 39, _, _, _, _, _⟩) (Value.pointer (some ⟨g, 0, none⟩)) rfl (by kernel_rfl) (by kernel_rfl) (.inl ⟨by kernel_rfl, fun _ => by kernel_rfl⟩) ?_
  refine .cons 28 (o := ⟨some 40, _, _, _, _, _⟩) (Value.pointer (some ⟨g, 7, none⟩)) rfl (by kernel_rfl) (by kernel_rfl) (.inl ⟨by kernel_rfl, fun _ => by kernel_rfl⟩) ?_
  refine .cons 29 (o := ⟨some 41, _, _, _, _, _⟩) (Value.agg #[.pointer none, .pointer (some ⟨g, 7, none⟩)]) rfl (by kernel_rfl) (by kernel_rfl) (.inl ⟨by kernel_rfl, fun _ => by kernel_rfl⟩) ?_
  refine .cons 31 (o := ⟨some 42, _, _, _, _, _⟩) (Value.pointer (some ⟨g, 0, none⟩)) rfl (by kernel_rfl) (by kernel_rfl) (.inl ⟨by kernel_rfl, fun _ => by kernel_rfl⟩) ?_
  refine .cons 32 (o := ⟨some 43, _, _, _, _, _⟩) (Value.pointer (some ⟨g, 0, none⟩)) rfl (by kernel_rfl) (by kernel_rfl) (.inl ⟨by kernel_rfl, fun _ => by kernel_rfl⟩) ?_
  refine .cons 33 (o := ⟨some 44, _, _, _, _, _⟩) (Value.pointer (some ⟨g, 7, none⟩)) rfl (by kernel_rfl) (by kernel_rfl) (.inl ⟨by kernel_rfl, fun _ => by kernel_rfl⟩) ?_
  refine .cons 34 (o := ⟨some 45, _, _, _, _, _⟩) (Value.agg #[.pointer none, .pointer (some ⟨g, 7, none⟩)]) rfl (by kernel_rfl) (by kernel_rfl) (.inl ⟨by kernel_rfl, fun _ => by kernel_rfl⟩) ?_
  refine .cons 36 (o := ⟨some 46, _, _, _, _, _⟩) (Value.pointer (some ⟨g, 0, none⟩)) rfl (by kernel_rfl) (by kernel_rfl) (.inl ⟨by kernel_rfl, fun _ => by kernel_rfl⟩) ?_
  refine .cons 37 (o := ⟨some 47, _, _, _, _, _⟩) (Value.pointer (some ⟨g, 0, none⟩)) rfl (by kernel_rfl) (by kernel_rfl) (.inl ⟨by kernel_rfl, fun _ => by kernel_rfl⟩) ?_
  refine .cons 38 (o := ⟨some 48, _, _, _, _, _⟩) (Value.pointer (some ⟨g, 7, none⟩)) rfl (by kernel_rfl) (by kernel_rfl) (.inl ⟨by kernel_rfl, fun _ => by kernel_rfl⟩) ?_
  refine .cons 39 (o := ⟨some 49, _, _, _, _, _⟩) (Value.agg #[.pointer none, .pointer (some ⟨g, 7, none⟩)]) rfl (by kernel_rfl) (by kernel_rfl) (.inl ⟨by kernel_rfl, fun _ => by kernel_rfl⟩) ?_
  refine .cons 41 (o := ⟨some 50, _, _, _, _, _⟩) (Value.pointer (some ⟨g, 0, none⟩)) rfl (by kernel_rfl) (by kernel_rfl) (.inl ⟨by kernel_rfl, fun _ => by kernel_rfl⟩) ?_
  refine .cons 42 (o := ⟨some 51, _, _, _, _, _⟩) (Value.pointer (some ⟨g, 0, none⟩)) rfl (by kernel_rfl) (by kernel_rfl) (.inl ⟨by kernel_rfl, fun _ => by kernel_rfl⟩) ?_
  refine .cons 43 (o := ⟨some 52, _, _, _, _, _⟩) (Value.pointer (some ⟨g, 7, none⟩)) rfl (by kernel_rfl) (by kernel_rfl) (.inl ⟨by kernel_rfl, fun _ => by kernel_rfl⟩) ?_
  refine .cons 44 (o := ⟨some 53, _, _, _, _, _⟩) (Value.agg #[.pointer none, .pointer (some ⟨g, 7, none⟩)]) rfl (by kernel_rfl) (by kernel_rfl) (.inl ⟨by kernel_rfl, fun _ => by kernel_rfl⟩) ?_
  refine .cons 46 (o := ⟨some 54, _, _, _, _, _⟩) (Value.pointer (some ⟨g, 0, none⟩)) rfl (by kernel_rfl) (by kernel_rfl) (.inl ⟨by kernel_rfl, fun _ => by kernel_rfl⟩) ?_
  refine .cons 47 (o := ⟨some 55, _, _, _, _, _⟩) (Value.pointer (some ⟨g, 0, none⟩)) rfl (by kernel_rfl) (by kernel_rfl) (.inl ⟨by kernel_rfl, fun _ => by kernel_rfl⟩) ?_
  refine .cons 48 (o := ⟨some 56, _, _, _, _, _⟩) (Value.pointer (some ⟨g, 8, none⟩)) rfl (by kernel_rfl) (by kernel_rfl) (.inl ⟨by kernel_rfl, fun _ => by kernel_rfl⟩) ?_
  refine .cons 49 (o := ⟨some 57, _, _, _, _, _⟩) (Value.agg #[.pointer none, .pointer (some ⟨g, 8, none⟩)]) rfl (by kernel_rfl) (by kernel_rfl) (.inl ⟨by kernel_rfl, fun _ => by kernel_rfl⟩) ?_
  refine .cons 51 (o := ⟨some 58, _, _, _, _, _⟩) (Value.pointer (some ⟨g, 0, none⟩)) rfl (by kernel_rfl) (by kernel_rfl) (.inl ⟨by kernel_rfl, fun _ => by kernel_rfl⟩) ?_
  refine .cons 52 (o := ⟨some 59, _, _, _, _, _⟩) (Value.pointer (some ⟨g, 0, none⟩)) rfl (by kernel_rfl) (by kernel_rfl) (.inl ⟨by kernel_rfl, fun _ => by kernel_rfl⟩) ?_
  refine .cons 53 (o := ⟨some 60, _, _, _, _, _⟩) (Value.pointer (some ⟨g, 8, none⟩)) rfl (by kernel_rfl) (by kernel_rfl) (.inl ⟨by kernel_rfl, fun _ => by kernel_rfl⟩) ?_
  refine .cons 54 (o := ⟨some 61, _, _, _, _, _⟩) (Value.agg #[.pointer none, .pointer (some ⟨g, 8, none⟩)]) rfl (by kernel_rfl) (by kernel_rfl) (.inl ⟨by kernel_rfl, fun _ => by kernel_rfl⟩) ?_
  refine .cons 56 (o := ⟨some 62, _, _, _, _, _⟩) (Value.pointer (some ⟨g, 0, none⟩)) rfl (by kernel_rfl) (by kernel_rfl) (.inl ⟨by kernel_rfl, fun _ => by kernel_rfl⟩) ?_
  refine .cons 57 (o := ⟨some 63, _, _, _, _, _⟩) (Value.pointer (some ⟨g, 0, none⟩)) rfl (by kernel_rfl) (by kernel_rfl) (.inl ⟨by kernel_rfl, fun _ => by kernel_rfl⟩) ?_
  refine .cons 58 (o := ⟨some 64, _, _, _, _, _⟩) (Value.pointer (some ⟨g, 8, none⟩)) rfl (by kernel_rfl) (by kernel_rfl) (.inl ⟨by kernel_rfl, fun _ => by kernel_rfl⟩) ?_
  refine .cons 59 (o := ⟨some 65, _, _, _, _, _⟩) (Value.agg #[.pointer none, .pointer (some ⟨g, 8, none⟩)]) rfl (by kernel_rfl) (by kernel_rfl) (.inl ⟨by kernel_rfl, fun _ => by kernel_rfl⟩) ?_
  exact .done (by kernel_rfl) (by kernel_rfl)
 refine wpAny_only (i := 0) (by kernel_rfl) ?_
 refine wpOp_make (o := ⟨some 17, _, _, _, _, _⟩) (T := 81) rfl rfl rfl ?_
 obtain ⟨w1, hw1⟩ : ∃ w1 : World, ({ heap := w.heap, tape := w.tape, drawn := w.drawn + 1, os := w.os, output := w.output } : World) = w1 := ⟨_, rfl⟩
 have hb1 : Below w.heap.size w w1 := by rw [← hw1]; exact ⟨rfl, rfl, rfl, Nat.le_refl _, fun _ _ => rfl⟩
 have hs1 : w1.heap.size = w.heap.size := by rw [← hw1]
 rw [hw1]
 clear hw1
 obtain ⟨b, hb⟩ : ∃ b, w1.heap.size = b := ⟨_, rfl⟩
 have hown := World.ownsMap_made w1 Tryd.prog 3 hel
 have hb2 : Below w.heap.size w (w1.alloc (.map #[] 0)) := hb1.alloc hb1.size _
 rw [hb] at hown ⊢
 obtain ⟨w2, hw2⟩ : ∃ w2, w1.alloc (.map #[] 0) = w2 := ⟨_, rfl⟩
 rw [hw2] at hown hb2 ⊢
 clear hw2
 change wpAny _ _ _ _ (2 + 12) #[true, true, true, true, true, false, true, true, true, true, false, true, true, true, true, false, true, true, true, true, false, true, true, true, true, false, true, true, true, true, false, true, true, true, true, false, true, true, true, true, false, true, true, true, true, false, true, true, true, true, false, true, true, true, true, false, true, true, true, true, false, false, false] ⟨#[Value.pointer (some ⟨g, 0, none⟩), Value.bool true, undef, undef, Value.map none, Value.bool true, Value.bool false, undef, undef, undef, undef, undef, undef, undef, undef, undef, undef, Value.map (some b), Value.pointer (some ⟨g, 0, none⟩), Value.pointer (some ⟨g, 0, none⟩), Value.pointer (some ⟨g, 0, none⟩), Value.agg #[.pointer (some ⟨g, 0, none⟩), .pointer none], Value.pointer (some ⟨g, 0, none⟩), Value.pointer (some ⟨g, 0, none⟩), Value.pointer (some ⟨g, 1, none⟩), Value.agg #[.pointer (some ⟨g, 1, none⟩), .pointer none], Value.pointer (some ⟨g, 0, none⟩), Value.pointer (some ⟨g, 0, none⟩), Value.pointer (some ⟨g, 2, none⟩), Value.agg #[.pointer (some ⟨g, 2, none⟩), .pointer none], Value.pointer (some ⟨g, 0, none⟩), Value.pointer (some ⟨g, 0, none⟩), Value.pointer (some ⟨g, 3, none⟩), Value.agg #[.pointer (some ⟨g, 3, none⟩), .pointer none], Value.pointer (some ⟨g, 0, none⟩), Value.pointer (some ⟨g, 0, none⟩), Value.pointer (some ⟨g, 4, none⟩), Value.agg #[.pointer (some ⟨g, 4, none⟩), .pointer none], Value.pointer (some ⟨g, 0, none⟩), Value.pointer (some ⟨g, 0, none⟩), Value.pointer (some ⟨g, 7, none⟩), Value.agg #[.pointer none, .pointer (some ⟨g, 7, none⟩)], Value.pointer (some ⟨g, 0, none⟩), Value.pointer (some ⟨g, 0, none⟩), Value.pointer (some ⟨g, 7, none⟩), Value.agg #[.pointer none, .pointer (some ⟨g, 7, none⟩)], Value.pointer (some ⟨g, 0, none⟩), Value.pointer (some ⟨g, 0, none⟩), Value.pointer (some ⟨g, 7, none⟩), Value.agg #[.pointer none, .pointer (some ⟨g, 7, none⟩)], Value.pointer (some ⟨g, 0, none⟩), Value.pointer (some ⟨g, 0, none⟩), Value.pointer (some ⟨g, 7, none⟩), Value.agg #[.pointer none, .pointer (some ⟨g, 7, none⟩)], Value.pointer (some ⟨g, 0, none⟩), Value.pointer (some ⟨g, 0, none⟩), Value.pointer (some ⟨g, 8, none⟩), Value.agg #[.pointer none, .pointer (some ⟨g, 8, none⟩)], Value.pointer (some ⟨g, 0, none⟩), Value.pointer (some ⟨g, 0, none⟩), Value.pointer (some ⟨g, 8, none⟩), Value.agg #[.pointer none, .pointer (some ⟨g, 8, none⟩)], Value.pointer (some ⟨g, 0, none⟩), Value.pointer (some ⟨g, 0, none⟩), Value.pointer (some ⟨g, 8, none⟩), Value.agg #[.pointer none, .pointer (some ⟨g, 8, none⟩)], undef], []⟩ w2
 refine wpAny_inserts (T := 81) (K := 3) (E := 79) (int_keyed Tryd.underlying3) Tryd.underlying81 (b := b) (I := entsyes g) (L1 := #[true, true, true, true, true, true, true, true, true, true, true, true, true, true, true, true, true, true, true, true, true, true, true, true, true, true, true, true, true, true, true, true, true, true, true, true, true, true, true, true, true, true, true, true, true, true, true, true, true, true, true, true, true, true, true, true, true, true, true, true, true, false, false]) (w0 := w2) ?_ (by kernel_rfl) (by kernel_rfl) ?_ (show ([5, 10, 15, 20, 25, 30, 35, 40, 45, 50, 55, 60] : List Nat).Nodup by decide) (show ([.int .i64 1, .int .i64 66, .int .i64 67, .int .i64 1004, .int .i64 2004, .int .i64 9, .int .i64 1000, .int .i64 1002, .int .i64 1003, .int .i64 1005, .int .i64 1006, .int .i64 1015] : List Lit).Nodup by simp) ?_ (by show 12 < maxLen; decide) (fun w3 D hD => ?_) 12 (entsyes g) _ w2 (.map []) rfl (List.Sublist.refl _) (Come.start (by kernel_rfl) (by kernel_rfl)) ?_
 ·refine (all_cons ⟨_, _, _, _, _, rfl, rfl, rfl, rfl, by kernel_rfl, rfl, by kernel_rfl, by kernel_rfl⟩ (all_cons ⟨_, _, _, _, _, rfl, rfl, rfl, rfl, by kernel_rfl, rfl, by kernel_rfl, by kernel_rfl⟩ (all_cons ⟨_, _, _, _, _, rfl, rfl, rfl, rfl, by kernel_rfl, rfl, by kernel_rfl, by kernel_rfl⟩ (all_cons ⟨_, _, _, _, _, rfl, rfl, rfl, rfl, by kernel_rfl, rfl, by kernel_rfl, by kernel_rfl⟩ (all_cons ⟨_, _, _, _, _, rfl, rfl, rfl, rfl, by kernel_rfl, rfl, by kernel_rfl, by kernel_rfl⟩ (all_cons ⟨_, _, _, _, _, rfl, rfl, rfl, rfl, by kernel_rfl, rfl, by kernel_rfl, by kernel_rfl⟩ (all_cons ⟨_, _, _, _, _, rfl, rfl, rfl, rfl, by kernel_rfl, rfl, by kernel_rfl, by kernel_rfl⟩ (all_cons ⟨_, _, _, _, _, rfl, rfl, rfl, rfl, by kernel_rfl, rfl, by kernel_rfl, by kernel_rfl⟩ (all_cons ⟨_, _, _, _, _, rfl, rfl, rfl, rfl, by kernel_rfl, rfl, by kernel_rfl, by kernel_rfl⟩ (all_cons ⟨_, _, _, _, _, rfl, rfl, rfl, rfl, by kernel_rfl, rfl, by kernel_rfl, by kernel_rfl⟩ (all_cons ⟨_, _, _, _, _, rfl, rfl, rfl, rfl, by kernel_rfl, rfl, by kernel_rfl, by kernel_rfl⟩ (all_cons ⟨_, _, _, _, _, rfl, rfl, rfl, rfl, by kernel_rfl, rfl, by kernel_rfl, by kernel_rfl⟩ all_nil))))))))))))
 ·exact of_decide_eq_true (by kernel_rfl)
 ·exact (all_cons trivial (all_cons trivial (all_cons trivial (all_cons trivial (all_cons trivial (all_cons trivial (all_cons trivial (all_cons trivial (all_cons trivial (all_cons trivial (all_cons trivial (all_cons trivial all_nil))))))))))))
 ·have hD2 := hD.eq (int_keyed Tryd.underlying3) (L := fieldL true g) (by simp [fieldL, Lit.before]) (by simp [fieldL, WideAt.IsKeyLit]) (by simp [entsyes, fieldL]) (by simp [entsyes, fieldL])
  have hown3 := hD.own
  have hg3 := hD.grown
  rw [hD2] at hown3
  clear hD hD2 D hown
  refine wpAny_takes (fuel := 0) (l' := #[true, true, true, true, true, true, true, true, true, true, true, true, true, true, true, true, true, true, true, true, true, true, true, true, true, true, true, true, true, true, true, true, true, true, true, true, true, true, true, true, true, true, true, true, true, true, true, true, true, true, true, true, true, true, true, true, true, true, true, true, true, true, true]) (a' := ⟨#[Value.pointer (some ⟨g, 0, none⟩), Value.bool true, undef, undef, Value.map (some b), Value.bool true, Value.bool false, undef, undef, undef, undef, undef, undef, undef, undef, undef, undef, Value.map (some b), Value.pointer (some ⟨g, 0, none⟩), Value.pointer (some ⟨g, 0, none⟩), Value.pointer (some ⟨g, 0, none⟩), Value.agg #[.pointer (some ⟨g, 0, none⟩), .pointer none], Value.pointer (some ⟨g, 0, none⟩), Value.pointer (some ⟨g, 0, none⟩), Value.pointer (some ⟨g, 1, none⟩), Value.agg #[.pointer (some ⟨g, 1, none⟩), .pointer none], Value.pointer (some ⟨g, 0, none⟩), Value.pointer (some ⟨g, 0, none⟩), Value.pointer (some ⟨g, 2, none⟩), Value.agg #[.pointer (some ⟨g, 2, none⟩), .pointer none], Value.pointer (some ⟨g, 0, none⟩), Value.pointer (some ⟨g, 0, none⟩), Value.pointer (some ⟨g, 3, none⟩), Value.agg #[.pointer (some ⟨g, 3, none⟩), .pointer none], Value.pointer (some ⟨g, 0, none⟩), Value.pointer (some ⟨g, 0, none⟩), Value.pointer (some ⟨g, 4, none⟩), Value.agg #[.pointer (some ⟨g, 4, none⟩), .pointer none], Value.pointer (some ⟨g, 0, none⟩), Value.pointer (some ⟨g, 0, none⟩), Value.pointer (some ⟨g, 7, none⟩), Value.agg #[.pointer none, .pointer (some ⟨g, 7, none⟩)], Value.pointer (some ⟨g, 0, none⟩), Value.pointer (some ⟨g, 0, none⟩), Value.pointer (some ⟨g, 7, none⟩), Value.agg #[.pointer none, .pointer (some ⟨g, 7, none⟩)], Value.pointer (some ⟨g, 0, none⟩), Value.pointer (some ⟨g, 0, none⟩), Value.pointer (some ⟨g, 7, none⟩), Value.agg #[.pointer none, .pointer (some ⟨g, 7, none⟩)], Value.pointer (some ⟨g, 0, none⟩), Value.pointer (some ⟨g, 0, none⟩), Value.pointer (some ⟨g, 7, none⟩), Value.agg #[.pointer none, .pointer (some ⟨g, 7, none⟩)], Value.pointer (some ⟨g, 0, none⟩), Value.pointer (some ⟨g, 0, none⟩), Value.pointer (some ⟨g, 8, none⟩), Value.agg #[.pointer none, .pointer (some ⟨g, 8, none⟩)], Value.pointer (some ⟨g, 0, none⟩), Value.pointer (some ⟨g, 0, none⟩), Value.pointer (some ⟨g, 8, none⟩), Value.agg #[.pointer none, .pointer (some ⟨g, 8, none⟩)], Value.pointer (some ⟨g, 0, none⟩), Value.pointer (some ⟨g, 0, none⟩), Value.pointer (some ⟨g, 8, none⟩), Value.agg #[.pointer none, .pointer (some ⟨g, 8, none⟩)], Value.map (some b)], []⟩) (by kernel_rfl) (fun _ _ d _ _ h => by cases d <;> exact h) (.cons 61 (o := ⟨some 66, _, _, _, _, _⟩) (.map (some b)) rfl (by kernel_rfl) (by kernel_rfl) (.inl ⟨by kernel_rfl, fun _ => by kernel_rfl⟩) (.cons 62 (o := ⟨some 4, _, _, _, _, _⟩) (.map (some b)) rfl (by kernel_rfl) (by kernel_rfl) (.inl ⟨by kernel_rfl, fun _ => by kernel_rfl⟩) (.done (by kernel_rfl) (by kernel_rfl)))) ?_
  refine wpAny_done (by kernel_rfl) ?_ 0
  go_wp2_with fail
  go_ret
  exact ⟨b, _, rfl, by omega, hown3, below_but hb2 hg3 hb2.size (by omega)⟩
 ·exact ⟨by simpa using hown, World.grownBy.refl _ _, fun p hp hn => absurd hp hn, fun k _ z => rfl⟩
end Go.Proofs.YtfifeofmfpjgfaaDoor
