/-
  Stage 18, the landed style, walked: marks (a map that a literal makes), and looking into it.
-/
import Derived.Test.YtfifeofmfpjgfaaDoorG05
import Derived.Test.YtfifeofmfpjgfaaDoorG12
namespace Go.Proofs.YtfifeofmfpjgfaaDoor
open Go.RowKit Go.Maps
def pB (g o : Nat) : Value := .pointer (some ⟨g, o, none⟩)
def markL (g : Nat) : List (Lit × DataW Value) := [(.int .i64 1, .held (pB g 0)), (.int .i64 2, .held (pB g 1)), (.int .i64 3, .held (pB g 2)), (.int .i64 5, .held (pB g 3)), (.int .i64 7, .held (pB g 4)), (.int .i64 8, .held (pB g 5)), (.int .i64 9, .held (pB g 6))]
def MarksE (g : Nat) (w : World) (e : Ending) (w' : World) : Prop := ∃ b n, e = .returned (.map (some b)) ∧ w.heap.size ≤ b ∧ w'.ownsMap Tryd.prog 3 hel b n (.map (markL g)) ∧ Below w.heap.size w w'
theorem below_but18 {B b : Nat} {a w w' : World} (h : Below B a w) (hg : w.grownBy w' (some b)) (hB : B ≤ w.heap.size) (hb : B ≤ b) : Below B a w' :=
 ⟨hg.os.trans h.os, hg.tape.trans h.tape, hg.output.trans h.output, Nat.le_trans h.size hg.size, fun k hk => (hg.block k (Nat.lt_of_lt_of_le hk hB) (fun e => by injection e with e; omega)).trans (h.block k hk)⟩
def markE (g : Nat) : List Ent := [⟨4, .int .i64 1, pB g 0⟩, ⟨8, .int .i64 2, pB g 1⟩, ⟨12, .int .i64 3, pB g 2⟩, ⟨16, .int .i64 5, pB g 3⟩, ⟨20, .int .i64 7, pB g 4⟩, ⟨24, .int .i64 8, pB g 5⟩, ⟨28, .int .i64 9, pB g 6⟩]
set_option maxRecDepth 100000 in
set_option maxHeartbeats 8000000 in
theorem smarks_any (g : Nat) (w : World) : Calls Tryd.prog 70 #[.pointer (some ⟨g, 0, none⟩)] w (MarksE g w) := by
 go_enter Tryd.func70, Tryd.ntmps70
 go_wp2_with fail
 refine wp_region_any (by kernel_rfl) ?_
 change wpAny _ _ _ _ (7 + 2 + 1 + 21) _ _ _
 refine wpAny_takes (l' := #[false, true, true, true, false, true, true, true, false, true, true, true, false, true, true, true, false, true, true, true, false, true, true, true, false, true, true, true, false, false, false]) (a' := ⟨#[Value.pointer (some ⟨g, 0, none⟩), undef, Value.map none, undef, Value.pointer (some ⟨g, 0, none⟩), Value.pointer (some ⟨g, 0, none⟩), Value.pointer (some ⟨g, 0, none⟩), Value.pointer (some ⟨g, 0, none⟩), Value.pointer (some ⟨g, 0, none⟩), Value.pointer (some ⟨g, 1, none⟩), Value.pointer (some ⟨g, 0, none⟩), Value.pointer (some ⟨g, 0, none⟩), Value.pointer (some ⟨g, 2, none⟩), Value.pointer (some ⟨g, 0, none⟩), Value.pointer (some ⟨g, 0, none⟩), Value.pointer (some ⟨g, 3, none⟩), Value.pointer (some ⟨g, 0, none⟩), Value.pointer (some ⟨g, 0, none⟩), Value.pointer (some ⟨g, 4, none⟩), Value.pointer (some ⟨g, 0, none⟩), Value.pointer (some ⟨g, 0, none⟩), Value.pointer (some ⟨g, 5, none⟩), Value.pointer (some ⟨g, 0, none⟩), Value.pointer (some ⟨g, 0, none⟩), Value.pointer (some ⟨g, 6, none⟩), undef], []⟩) (by kernel_rfl) (fun _ _ d _ _ h => by cases d <;> exact h) ?_ ?_
 ·
  refine .cons 1 (o := ⟨some 4, _, _, _, _, _⟩) (Value.pointer (some ⟨g, 0, none⟩)) rfl (by kernel_rfl) (by kernel_rfl) (.inl ⟨by kernel_rfl, fun _ => by kernel_rfl⟩) ?_
  refine .cons 2 (o := ⟨some 5, _, _, _, _, _⟩) (Value.pointer (some ⟨g, 0, none⟩)) rfl (by kernel_rfl) (by kernel_rfl) (.inl ⟨by kernel_rfl, fun _ => by kernel_rfl⟩) ?_
  refine .cons 3 (o := ⟨some 6, _, _, _, _, _⟩) (Value.pointer (some ⟨g, 0, none⟩)) rfl (by kernel_rfl) (by kernel_rfl) (.inl ⟨by kernel_rfl, fun _ => by kernel_rfl⟩) ?_
  refine .cons 5 (o := ⟨some 7, _, _, _, _, _⟩) (Value.pointer (some ⟨g, 0, none⟩)) rfl (by kernel_rfl) (by kernel_rfl) (.inl ⟨by kernel_rfl, fun _ => by kernel_rfl⟩) ?_
  refine .cons 6 (o := ⟨some 8, _, _, _, _, _⟩) (Value.pointer (some ⟨g, 0, none⟩)) rfl (by kernel_rfl) (by kernel_rfl) (.inl ⟨by kernel_rfl, fun _ => by kernel_rfl⟩) ?_
  refine .cons 7 (o := ⟨some 9, _, _, _, _, _⟩) (Value.pointer (some ⟨g, 1, none⟩)) rfl (by kernel_rfl) (by kernel_rfl) (.inl ⟨by kernel_rfl, fun _ => by kernel_rfl⟩) ?_
  refine .cons 9 (o := ⟨some 10, _, _, _, _, _⟩) (Value.pointer (some ⟨g, 0, none⟩)) rfl (by kernel_rfl) (by kernel_rfl) (.inl ⟨by kernel_rfl, fun _ => by kernel_rfl⟩) ?_
  refine .cons 10 (o := ⟨some 11, _, _, _, _, _⟩) (Value.pointer (some ⟨g, 0, none⟩)) rfl (by kernel_rfl) (by kernel_rfl) (.inl ⟨by kernel_rfl, fun _ => by kernel_rfl⟩) ?_
  refine .cons 11 (o := ⟨some 12, _, _, _, _, _⟩) (Value.pointer (some ⟨g, 2, none⟩)) rfl (by kernel_rfl) (by kernel_rfl) (.inl ⟨by kernel_rfl, fun _ => by kernel_rfl⟩) ?_
  refine .cons 13 (o := ⟨some 13, _, _, _, _, _⟩) (Value.pointer (some ⟨g, 0, none⟩)) rfl (by kernel_rfl) (by kernel_rfl) (.inl ⟨by kernel_rfl, fun _ => by kernel_rfl⟩) ?_
  refine .cons 14 (o := ⟨some 14, _, _, _, _, _⟩) (Value.pointer (some ⟨g, 0, none⟩)) rfl (by kernel_rfl) (by kernel_rfl) (.inl ⟨by kernel_rfl, fun _ => by kernel_rfl⟩) ?_
  refine .cons 15 (o := ⟨some 15, _, _, _, _, _⟩) (Value.pointer (some ⟨g, 3, none⟩)) rfl (by kernel_rfl) (by kernel_rfl) (.inl ⟨by kernel_rfl, fun _ => by kernel_rfl⟩) ?_
  refine .cons 17 (o := ⟨some 16, _, _, _, _, _⟩) (Value.pointer (some ⟨g, 0, none⟩)) rfl (by kernel_rfl) (by kernel_rfl) (.inl ⟨by kernel_rfl, fun _ => by kernel_rfl⟩) ?_
  refine .cons 18 (o := ⟨some 17, _, _, _, _, _⟩) (Value.pointer (some ⟨g, 0, none⟩)) rfl (by kernel_rfl) (by kernel_rfl) (.inl ⟨by kernel_rfl, fun _ => by kernel_rfl⟩) ?_
  refine .cons 19 (o := ⟨some 18, _, _, _, _, _⟩) (Value.pointer (some ⟨g, 4, none⟩)) rfl (by kernel_rfl) (by kernel_rfl) (.inl ⟨by kernel_rfl, fun _ => by kernel_rfl⟩) ?_
  refine .cons 21 (o := ⟨some 19, _, _, _, _, _⟩) (Value.pointer (some ⟨g, 0, none⟩)) rfl (by kernel_rfl) (by kernel_rfl) (.inl ⟨by kernel_rfl, fun _ => by kernel_rfl⟩) ?_
  refine .cons 22 (o := ⟨some 20, _, _, _, _, _⟩) (Value.pointer (some ⟨g, 0, none⟩)) rfl (by kernel_rfl) (by kernel_rfl) (.inl ⟨by kernel_rfl, fun _ => by kernel_rfl⟩) ?_
  refine .cons 23 (o := ⟨some 21, _, _, _, _, _⟩) (Value.pointer (some ⟨g, 5, none⟩)) rfl (by kernel_rfl) (by kernel_rfl) (.inl ⟨by kernel_rfl, fun _ => by kernel_rfl⟩) ?_
  refine .cons 25 (o := ⟨some 22, _, _, _, _, _⟩) (Value.pointer (some ⟨g, 0, none⟩)) rfl (by kernel_rfl) (by kernel_rfl) (.inl ⟨by kernel_rfl, fun _ => by kernel_rfl⟩) ?_
  refine .cons 26 (o := ⟨some 23, _, _, _, _, _⟩) (Value.pointer (some ⟨g, 0, none⟩)) rfl (by kernel_rfl) (by kernel_rfl) (.inl ⟨by kernel_rfl, fun _ => by kernel_rfl⟩) ?_
  refine .cons 27 (o := ⟨some 24, _, _, _, _, _⟩) (Value.pointer (some ⟨g, 6, none⟩)) rfl (by kernel_rfl) (by kernel_rfl) (.inl ⟨by kernel_rfl, fun _ => by kernel_rfl⟩) ?_
  exact .done (by kernel_rfl) (by kernel_rfl)
 refine wpAny_only (i := 0) (by kernel_rfl) ?_
 refine wpOp_make (o := ⟨some 3, _, _, _, _, _⟩) (T := 92) rfl rfl rfl ?_
 obtain ⟨w1, hw1⟩ : ∃ w1 : World, ({ heap := w.heap, tape := w.tape, drawn := w.drawn + 1, os := w.os, output := w.output } : World) = w1 := ⟨_, rfl⟩
 have hb1 : Below w.heap.size w w1 := by rw [← hw1]; exact ⟨rfl, rfl, rfl, Nat.le_refl _, fun _ _ => rfl⟩
 have hs1 : w1.heap.size = w.heap.size := by rw [← hw1]
 rw [hw1]
 clear hw1
 obtain ⟨b, hb⟩ : ∃ b, w1.heap.size = b := ⟨_, rfl⟩
 have hown := World.ownsMap_made w1 Tryd.prog 3 hel
 have hb2 : Below w.heap.size w (w1.alloc (.map #[] 0)) := hb1.alloc hb1.size _
 rw [hb] at hown ⊢
 obtain ⟨w2, hw2⟩ : ∃ w2, w1.alloc (.map #[] 0) = w2 := ⟨_, rfl⟩
 rw [hw2] at hown hb2 ⊢
 clear hw2
 change wpAny _ _ _ _ (2 + 7) #[true, true, true, true, false, true, true, true, false, true, true, true, false, true, true, true, false, true, true, true, false, true, true, true, false, true, true, true, false, false, false] ⟨#[Value.pointer (some ⟨g, 0, none⟩), undef, Value.map none, Value.map (some b), Value.pointer (some ⟨g, 0, none⟩), Value.pointer (some ⟨g, 0, none⟩), Value.pointer (some ⟨g, 0, none⟩), Value.pointer (some ⟨g, 0, none⟩), Value.pointer (some ⟨g, 0, none⟩), Value.pointer (some ⟨g, 1, none⟩), Value.pointer (some ⟨g, 0, none⟩), Value.pointer (some ⟨g, 0, none⟩), Value.pointer (some ⟨g, 2, none⟩), Value.pointer (some ⟨g, 0, none⟩), Value.pointer (some ⟨g, 0, none⟩), Value.pointer (some ⟨g, 3, none⟩), Value.pointer (some ⟨g, 0, none⟩), Value.pointer (some ⟨g, 0, none⟩), Value.pointer (some ⟨g, 4, none⟩), Value.pointer (some ⟨g, 0, none⟩), Value.pointer (some ⟨g, 0, none⟩), Value.pointer (some ⟨g, 5, none⟩), Value.pointer (some ⟨g, 0, none⟩), Value.pointer (some ⟨g, 0, none⟩), Value.pointer (some ⟨g, 6, none⟩), undef], []⟩ w2
 refine wpAny_inserts (T := 92) (K := 3) (E := 76) (int_keyed Tryd.underlying3) Tryd.underlying92 (b := b) (I := markE g) (L1 := #[true, true, true, true, true, true, true, true, true, true, true, true, true, true, true, true, true, true, true, true, true, true, true, true, true, true, true, true, true, false, false]) (w0 := w2) ?_ (by kernel_rfl) (by kernel_rfl) ?_ (show ([4, 8, 12, 16, 20, 24, 28] : List Nat).Nodup by decide) (show ([.int .i64 1, .int .i64 2, .int .i64 3, .int .i64 5, .int .i64 7, .int .i64 8, .int .i64 9] : List Lit).Nodup by simp) ?_ (by show 7 < maxLen; decide) (fun w3 D hD => ?_) 7 (markE g) _ w2 (.map []) rfl (List.Sublist.refl _) (Come.start (by kernel_rfl) (by kernel_rfl)) ?_
 ·refine (all_cons ⟨_, _, _, _, _, rfl, rfl, rfl, rfl, by kernel_rfl, rfl, by kernel_rfl, by kernel_rfl⟩ (all_cons ⟨_, _, _, _, _, rfl, rfl, rfl, rfl, by kernel_rfl, rfl, by kernel_rfl, by kernel_rfl⟩ (all_cons ⟨_, _, _, _, _, rfl, rfl, rfl, rfl, by kernel_rfl, rfl, by kernel_rfl, by kernel_rfl⟩ (all_cons ⟨_, _, _, _, _, rfl, rfl, rfl, rfl, by kernel_rfl, rfl, by kernel_rfl, by kernel_rfl⟩ (all_cons ⟨_, _, _, _, _, rfl, rfl, rfl, rfl, by kernel_rfl, rfl, by kernel_rfl, by kernel_rfl⟩ (all_cons ⟨_, _, _, _, _, rfl, rfl, rfl, rfl, by kernel_rfl, rfl, by kernel_rfl, by kernel_rfl⟩ (all_cons ⟨_, _, _, _, _, rfl, rfl, rfl, rfl, by kernel_rfl, rfl, by kernel_rfl, by kernel_rfl⟩ all_nil)))))))
 ·exact of_decide_eq_true (by kernel_rfl)
 ·exact (all_cons trivial (all_cons trivial (all_cons trivial (all_cons trivial (all_cons trivial (all_cons trivial (all_cons trivial all_nil)))))))
 ·have hD2 := hD.eq (int_keyed Tryd.underlying3) (L := markL g) (by simp [markL, Lit.before]) (by simp [markL, WideAt.IsKeyLit]) (by simp [markE, markL]) (by simp [markE, markL])
  have hown3 := hD.own
  have hg3 := hD.grown
  rw [hD2] at hown3
  clear hD hD2 D hown
  refine wpAny_takes (fuel := 0) (l' := #[true, true, true, true, true, true, true, true, true, true, true, true, true, true, true, true, true, true, true, true, true, true, true, true, true, true, true, true, true, true, true]) (a' := ⟨#[Value.pointer (some ⟨g, 0, none⟩), undef, Value.map (some b), Value.map (some b), Value.pointer (some ⟨g, 0, none⟩), Value.pointer (some ⟨g, 0, none⟩), Value.pointer (some ⟨g, 0, none⟩), Value.pointer (some ⟨g, 0, none⟩), Value.pointer (some ⟨g, 0, none⟩), Value.pointer (some ⟨g, 1, none⟩), Value.pointer (some ⟨g, 0, none⟩), Value.pointer (some ⟨g, 0, none⟩), Value.pointer (some ⟨g, 2, none⟩), Value.pointer (some ⟨g, 0, none⟩), Value.pointer (some ⟨g, 0, none⟩), Value.pointer (some ⟨g, 3, none⟩), Value.pointer (some ⟨g, 0, none⟩), Value.pointer (some ⟨g, 0, none⟩), Value.pointer (some ⟨g, 4, none⟩), Value.pointer (some ⟨g, 0, none⟩), Value.pointer (some ⟨g, 0, none⟩), Value.pointer (some ⟨g, 5, none⟩), Value.pointer (some ⟨g, 0, none⟩), Value.pointer (some ⟨g, 0, none⟩), Value.pointer (some ⟨g, 6, none⟩), Value.map (some b)], []⟩) (by kernel_rfl) (fun _ _ d _ _ h => by cases d <;> exact h) (.cons 29 (o := ⟨some 25, _, _, _, _, _⟩) (.map (some b)) rfl (by kernel_rfl) (by kernel_rfl) (.inl ⟨by kernel_rfl, fun _ => by kernel_rfl⟩) (.cons 30 (o := ⟨some 2, _, _, _, _, _⟩) (.map (some b)) rfl (by kernel_rfl) (by kernel_rfl) (.inl ⟨by kernel_rfl, fun _ => by kernel_rfl⟩) (.done (by kernel_rfl) (by kernel_rfl)))) ?_
  refine wpAny_done (by kernel_rfl) ?_ 0
  go_wp2_with fail
  go_ret
  exact ⟨b, _, rfl, by omega, hown3, below_but18 hb2 hg3 hb2.size (by omega)⟩
 ·exact ⟨by simpa using hown, World.grownBy.refl _ _, fun p hp hn => absurd hp hn, fun k _ z => rfl⟩
theorem kint18 : Keyed Tryd.prog 3 := int_keyed Tryd.underlying3
theorem zeroP (w : World) : (zeroValue 76).run Tryd.prog w = .ok (.pointer none) w := by kernel_rfl
theorem wf18 {n : Int} (h : in18 n) : (Lit.int .i64 n).wf = true := WalkArith.wf_i64 (by have := h.1; have := h.2; omega)
theorem look18 {w : World} {b k : Nat} {D : DataW Value} {n : Int} {v : Value} {q : Bool} (h : w.ownsMap Tryd.prog 3 hel b k D) (hn : in18 n) (ha : D.atKey (.int .i64 n) (.held (.pointer none)) = .held v) (hq : Maps.has D (.int .i64 n) = q) :
 (Instr.lookup 92 (.map (some b)) (.int .i64 n) true).run Tryd.prog w = .ok (.tuple #[v, .bool q]) w := by
 obtain ⟨v1, p1, h1, e1⟩ := h.look_ok kint18 Tryd.underlying92 (zeroP w) (show hel (.pointer none) = some (.held (.pointer none), []) from rfl) (keyOf_int_mk Tryd.underlying3 (wf18 hn))
 rw [ha] at e1
 have e1' : v1 = v := by simpa [hel] using congrArg (Option.map Prod.fst) e1
 rw [e1', hq] at h1
 exact h1
def isMark (n : Int) : Bool := decide (n = 1) || decide (n = 2) || decide (n = 3) || decide (n = 5) || decide (n = 7) || decide (n = 8) || decide (n = 9)
theorem mark_no {n : Int} (g : Nat) (h : isMark n = false) : (DataW.map (markL g)).atKey (.int .i64 n) (.held (.pointer none)) = .held (.pointer none) ∧ Maps.has (DataW.map (markL g)) (.int .i64 n) = false := by
 have key : ∀ q ∈ markL g, q.1 ≠ Lit.int .i64 n := by
  have hx : ¬ (((((((n = 1 ∨ n = 2) ∨ n = 3) ∨ n = 5) ∨ n = 7) ∨ n = 8) ∨ n = 9)) := by
   intro hh
   have : isMark n = true := by simpa [isMark] using hh
   rw [this] at h
   cases h
  intro q hq
  simp only [markL, List.mem_cons, List.not_mem_nil, or_false] at hq
  rcases hq with rfl | rfl | rfl | rfl | rfl | rfl | rfl <;> (intro e; simp at e; omega)
 exact ⟨WideAt.atKey_none _ key, has_false_of_atKey fun z => WideAt.atKey_none z key⟩
theorem mark_1 (g : Nat) : (DataW.map (markL g)).atKey (.int .i64 1) (.held (.pointer none)) = .held (pB g 0) ∧ Maps.has (DataW.map (markL g)) (.int .i64 1) = true := ⟨by rfl, by rfl⟩
theorem mark_2 (g : Nat) : (DataW.map (markL g)).atKey (.int .i64 2) (.held (.pointer none)) = .held (pB g 1) ∧ Maps.has (DataW.map (markL g)) (.int .i64 2) = true := ⟨by rfl, by rfl⟩
theorem mark_3 (g : Nat) : (DataW.map (markL g)).atKey (.int .i64 3) (.held (.pointer none)) = .held (pB g 2) ∧ Maps.has (DataW.map (markL g)) (.int .i64 3) = true := ⟨by rfl, by rfl⟩
theorem mark_5 (g : Nat) : (DataW.map (markL g)).atKey (.int .i64 5) (.held (.pointer none)) = .held (pB g 3) ∧ Maps.has (DataW.map (markL g)) (.int .i64 5) = true := ⟨by rfl, by rfl⟩
theorem mark_7 (g : Nat) : (DataW.map (markL g)).atKey (.int .i64 7) (.held (.pointer none)) = .held (pB g 4) ∧ Maps.has (DataW.map (markL g)) (.int .i64 7) = true := ⟨by rfl, by rfl⟩
theorem mark_8 (g : Nat) : (DataW.map (markL g)).atKey (.int .i64 8) (.held (.pointer none)) = .held (pB g 5) ∧ Maps.has (DataW.map (markL g)) (.int .i64 8) = true := ⟨by rfl, by rfl⟩
theorem mark_9 (g : Nat) : (DataW.map (markL g)).atKey (.int .i64 9) (.held (.pointer none)) = .held (pB g 6) ∧ Maps.has (DataW.map (markL g)) (.int .i64 9) = true := ⟨by rfl, by rfl⟩
end Go.Proofs.YtfifeofmfpjgfaaDoor
