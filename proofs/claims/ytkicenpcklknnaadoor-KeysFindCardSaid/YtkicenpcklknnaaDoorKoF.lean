/-
  Layer 9, the landed keys, walked: Find; all that the layer's laws need.
-/
import Derived.Test.YtkicenpcklknnaaDoorKoI
import Derived.Test.YtkicenpcklknnaaDoorKeyC
namespace Go.Proofs.YtkicenpcklknnaaDoor
open Go.RowKit Go.Shelf
attribute [local go_sem] Oper.semAt_some

def enA (e : En) : Array Value := #[.int .i64 e.kind, .int .u8 e.fin, .int .i64 e.num, .int .i64 e.char, .bool e.keys]
theorem find_pre {f n : Int} {x : Int × En} {pre ys : List (Int × En)} (h : pre ++ [x] <+: ys) (hp : ∀ y ∈ pre, isFm f n y = false) (hx : isFm f n x = true) : ys.find? (isFm f n) = some x := by
  obtain ⟨t, rfl⟩ := h
  rw [List.append_assoc, List.find?_append, List.find?_eq_none.2 (fun y hy => by rw [hp y hy]; decide)]
  simp [hx]
theorem found_some {f n : Int} {x : Int × En} (h : codesL.find? (isFm f n) = some x) : findE f n = (x.1, true) := by
  rw [← foundP_eq]
  unfold foundP
  rw [h]
theorem found_none {f n : Int} (h : ∀ y ∈ codesL, isFm f n y = false) : findE f n = (0, false) := by
  rw [← foundP_eq]
  unfold foundP
  rw [List.find?_eq_none.2 (fun y hy => by rw [h y hy]; decide)]
/-- What stands where a loop over the codes has found one. -/
def Fx (f n : Int) (s0 : Nat) (j : Code) (pre : List (Int × En)) (W : World) : Prop :=
  j = .ret ∧ ∃ x, (∃ p, pre = p ++ [x] ∧ ∀ y ∈ p, isFm f n y = false) ∧ isFm f n x = true ∧ Blk W s0 3 #[.int .i64 x.1] ∧ Blk W (s0 + 1) 4 #[.bool true]
theorem fx_own (f n : Int) (s0 B : Nat) (j : Code) : OwnFrom B (Fx f n s0 j) := by
  rintro pre X Y row ⟨rfl, x, hp, hx, h1, h2⟩ hg hr
  exact ⟨rfl, x, hp, hx, (Go.Own.from (blk_own s0 3 fun (_ : Unit) => #[.int .i64 x.1]) B) () X Y row h1 hg hr, (Go.Own.from (blk_own (s0 + 1) 4 fun (_ : Unit) => #[.bool true]) B) () X Y row h2 hg hr⟩
def In4 (f n : Int) (s0 : Nat) (fm : Array Value) (pre : List (Int × En)) (W : World) : Prop :=
  (∀ y ∈ pre, isFm f n y = false) ∧ Blk W s0 3 #[.int .i64 0] ∧ Blk W (s0 + 1) 4 #[.bool false] ∧ Blk W (s0 + 1 + 1) 24 fm
theorem in4_own (f n : Int) (s0 B : Nat) (fm : Array Value) : OwnFrom B (In4 f n s0 fm) := by
  rintro pre X Y row ⟨hp, h1, h2, h3⟩ hg hr
  exact ⟨hp, (Go.Own.from (blk_own s0 3 fun (_ : Unit) => #[.int .i64 0]) B) () X Y row h1 hg hr, (Go.Own.from (blk_own (s0 + 1) 4 fun (_ : Unit) => #[.bool false]) B) () X Y row h2 hg hr, (Go.Own.from (blk_own (s0 + 1 + 1) 24 fun (_ : Unit) => fm) B) () X Y row h3 hg hr⟩
set_option maxRecDepth 100000 in
set_option maxHeartbeats 4000000 in
theorem pfind_num (f n : Int) (w : World) (hR : Rws w) (hf : (f == 126) = true) : Calls Tryd.prog 13 #[.int .u8 f, .int .i64 n] w fun e w' => e = .returned (.tuple #[.int .i64 (findE f n).1, .bool (findE f n).2]) ∧ Below w.heap.size w w' := by
  have HI : Hid (∀ x : Int × En, isFm f n x = decide (x.2 = ⟨4, 0, n, 0, false⟩)) := Lib.hid fun x => by
    unfold isFm formK
    rw [if_pos (eq_of_beq hf)]
  have k4 := ((Blk.new w 3 #[.int .i64 0]).alloc (.cells #[.bool false] 4)).alloc (.cells #[.int .i64 4, .int .u8 0, .int .i64 n, .int .i64 0, .bool false] 24)
  have k5 := (Blk.new (w.alloc (.cells #[.int .i64 0] 3)) 4 #[.bool false]).alloc (.cells #[.int .i64 4, .int .u8 0, .int .i64 n, .int .i64 0, .bool false] 24)
  have k6 := Blk.new ((w.alloc (.cells #[.int .i64 0] 3)).alloc (.cells #[.bool false] 4)) 24 #[.int .i64 4, .int .u8 0, .int .i64 n, .int .i64 0, .bool false]
  simp only [World.size_alloc] at k5 k6
  have hB0 : Below w.heap.size w (((w.alloc (.cells #[.int .i64 0] 3)).alloc (.cells #[.bool false] 4)).alloc (.cells #[.int .i64 4, .int .u8 0, .int .i64 n, .int .i64 0, .bool false] 24)) := (((Below.refl _ w).alloc (Nat.le_refl _) _).alloc (by simp) _).alloc (by simp; omega) _
  have hsz : (((w.alloc (.cells #[.int .i64 0] 3)).alloc (.cells #[.bool false] 4)).alloc (.cells #[.int .i64 4, .int .u8 0, .int .i64 n, .int .i64 0, .bool false] 24)).heap.size = w.heap.size + 3 := by simp
  refine (callsIn_wide (n := 3)).1 ?_
  refine callsIn_of_wp_marks Tryd.func13 rfl trivial ?_ rfl
  simp only [Tryd.ntmps13, List.size_toArray, List.length_cons, List.length_nil, Nat.reduceAdd, Nat.reduceSub, Array.replicate_succ, Array.replicate_zero, List.push_toArray, List.append_toArray, List.nil_append, List.cons_append]
  gi_wp2_with fail
  clear hf
  generalize (((w.alloc (.cells #[.int .i64 0] 3)).alloc (.cells #[.bool false] 4)).alloc (.cells #[.int .i64 4, .int .u8 0, .int .i64 n, .int .i64 0, .bool false] 24)) = V at k4 k5 k6 hB0 hsz ⊢
  refine wpIn_rangeFunc_ownH rfl (by omega) (gf := 21) (lb := #[]) rfl trivial (enters_of Tryd.func21 (by kernel_rfl) rfl)
    (codes_stops 2 (by omega) w.heap.size (fun k => k = w.heap.size ∨ k = w.heap.size + 1) (by omega) V (fun k hk => by omega) (by omega) (RwsIn.below hR hB0)) KpX.trans (fun W i o o' _ h hc _ => KpX.put _ W i o o' h hc) (Below.refl _ _) (fun _ => rfl)
    (fun (pre : List (Int × En)) W => In4 f n w.heap.size #[.int .i64 4, .int .u8 0, .int .i64 n, .int .i64 0, .bool false] pre W ∧ Below w.heap.size w W)
    (fun j (pre : List (Int × En)) W => Fx f n w.heap.size j pre W ∧ Below w.heap.size w W)
    (OwnFrom.and (in4_own _ _ _ _ _) (ownFrom_below (Nat.le_refl _) (by omega)))
    (fun _ => OwnFrom.and (fx_own _ _ _ _ _) (ownFrom_below (Nat.le_refl _) (by omega)))
    ⟨⟨by simp, k4, k5, k6⟩, hB0⟩
    (fun (x : Int × En) a' W' => ∃ g, w.heap.size + 3 ≤ g ∧ a' = { tmps := #[.int .u8 f, .int .i64 n, undef, undef, .pointer (some ⟨w.heap.size, 0, none⟩), .pointer (some ⟨w.heap.size + 1, 0, none⟩), .pointer (some ⟨w.heap.size + 1 + 1, 0, none⟩), .int .i64 x.1, .pointer (some ⟨g, 0, none⟩), .int .u8 f, .agg #[.int .i64 3, .int .u8 f, .int .i64 0, .int .i64 0, .bool false], .int .u8 f, .bool true, .int .i64 n, .agg #[.int .i64 4, .int .u8 0, .int .i64 n, .int .i64 0, .bool false], .int .i64 x.1, enV x.2, undef, undef, undef, undef], defers := [] } ∧ Blk W' g 24 (enA x.2))
    (fun x a' => by
      rintro s X Y row ⟨g, h1, h2, h3⟩ hg hr
      exact ⟨g, h1, h2, (Go.Own.from (blk_own g 24 fun (_ : Unit) => enA x.2) _) () X Y row h3 hg hr⟩) ?assign ?body ?done ?stop
  case assign =>
    clear k4 k5 k6
    rintro l pre ⟨c, ⟨K1, F1, N1, C1, B1⟩⟩ W K ⟨⟨hp, k4, k5, k6⟩, hB⟩ hK
    unfold enV
    gi_wp2
    have hb := (Below.refl W.heap.size W).alloc (Nat.le_refl _) (.cells #[.int .i64 K1, .int .u8 F1, .int .i64 N1, .int .i64 C1, .bool B1] 24)
    exact hK _ _ ((keeps_below hb).from _) (KpX.of_below hb) ⟨⟨hp, k4.alloc _, k5.alloc _, k6.alloc _⟩, hB.alloc hB.size _⟩ ⟨W.heap.size, by have := k6.lt; omega, rfl, Blk.new _ _ _⟩
  case body =>
    clear k4 k5 k6
    rintro l pre ⟨c, ⟨K1, F1, N1, C1, B1⟩⟩ a' W _ _ ⟨⟨hp, k4, k5, k6⟩, hB⟩ ⟨g, hg, rfl, kg⟩ _
    have hx := HI.out (c, ⟨K1, F1, N1, C1, B1⟩)
    simp only [En.mk.injEq] at hx
    unfold enA at kg
    simp only at kg
    have c0 := kg.cell 0
    have c1 := kg.cell 1
    have c2 := kg.cell 2
    have c3 := kg.cell 3
    have c4 := kg.cell 4
    have d0 := k6.cell 0
    have d1 := k6.cell 1
    have d2 := k6.cell 2
    have d3 := k6.cell 3
    have d4 := k6.cell 4
    have HP := Lib.hid hp
    have HX := Lib.hid hx
    clear hp hx
    unfold enV
    cases t0 : (K1 == 4) with
    | false =>
      have HN := Lib.hid (HX.out.trans (decide_eq_false (by rintro ⟨h1, h2, h3, h4, h5⟩; simp_all)))
      gi_wp2
      exact ⟨(KeepsOthers.refl _).from _, KpX.refl _ _, ⟨fun y hy => (List.mem_append.1 hy).elim (HP.out y) (fun e => by simp at e; subst e; exact HN.out), k4, k5, k6⟩, hB⟩
    | true =>
      cases t1 : (F1 == 0) with
      | false =>
        have HN := Lib.hid (HX.out.trans (decide_eq_false (by rintro ⟨h1, h2, h3, h4, h5⟩; simp_all)))
        gi_wp2
        exact ⟨(KeepsOthers.refl _).from _, KpX.refl _ _, ⟨fun y hy => (List.mem_append.1 hy).elim (HP.out y) (fun e => by simp at e; subst e; exact HN.out), k4, k5, k6⟩, hB⟩
      | true =>
        cases t2 : (N1 == n) with
        | false =>
          have HN := Lib.hid (HX.out.trans (decide_eq_false (by rintro ⟨h1, h2, h3, h4, h5⟩; simp_all)))
          gi_wp2
          exact ⟨(KeepsOthers.refl _).from _, KpX.refl _ _, ⟨fun y hy => (List.mem_append.1 hy).elim (HP.out y) (fun e => by simp at e; subst e; exact HN.out), k4, k5, k6⟩, hB⟩
        | true =>
          cases t3 : (C1 == 0) with
          | false =>
            have HN := Lib.hid (HX.out.trans (decide_eq_false (by rintro ⟨h1, h2, h3, h4, h5⟩; simp_all)))
            gi_wp2
            exact ⟨(KeepsOthers.refl _).from _, KpX.refl _ _, ⟨fun y hy => (List.mem_append.1 hy).elim (HP.out y) (fun e => by simp at e; subst e; exact HN.out), k4, k5, k6⟩, hB⟩
          | true =>
            cases B1 with
            | true =>
              have HN := Lib.hid (HX.out.trans (decide_eq_false (by rintro ⟨h1, h2, h3, h4, h5⟩; simp_all)))
              gi_wp2
              exact ⟨(KeepsOthers.refl _).from _, KpX.refl _ _, ⟨fun y hy => (List.mem_append.1 hy).elim (HP.out y) (fun e => by simp at e; subst e; exact HN.out), k4, k5, k6⟩, hB⟩
            | false =>
              obtain rfl := eq_of_beq t0
              have h2 := eq_of_beq t1
              obtain rfl := eq_of_beq t2
              obtain rfl := eq_of_beq t3
              clear t0 t1 t2 t3
              subst h2
              have HY := Lib.hid (HX.out.trans (decide_eq_true (by simp)))
              have z4 := k4.frozen 0
              have z5 := k5.frozen 0
              have y4 := k4.cell 0
              have y5 := k5.cell 0
              gi_wp2
              have e4 := (k4.set 0 (.int .i64 c)).far (a := ⟨w.heap.size + 1, 0, none⟩) (by show w.heap.size ≠ w.heap.size + 1; omega) (.bool true)
              have e5 := (k5.far (a := ⟨w.heap.size, 0, none⟩) (by show w.heap.size + 1 ≠ w.heap.size; omega) (.int .i64 c)).set 0 (.bool true)
              exact ⟨((KeepsOthers.setCell _ _ _).trans (KeepsOthers.setCell _ _ _)).from _, ⟨rfl, _, ⟨pre, rfl, HP.out⟩, HY.out, e4, e5⟩, (hB.setCell (p := ⟨w.heap.size, 0, none⟩) (Nat.le_refl _) _).setCell (p := ⟨w.heap.size + 1, 0, none⟩) (Nat.le_succ _) _⟩
  case done =>
    clear k4 k5 k6
    rintro D ys W hD rfl ⟨⟨hp, k4, k5, k6⟩, hB⟩ hK
    have E := Lib.hid (found_none hp)
    have z4 := k4.frozen 0
    have z5 := k5.frozen 0
    have y4 := k4.cell 0
    have y5 := k5.cell 0
    gi_wp2
    have hK' := ((KeepsOthers.setCell W ⟨w.heap.size, 0, none⟩ (.int .i64 0)).trans (KeepsOthers.setCell _ ⟨w.heap.size + 1, 0, none⟩ (.bool false))).same D _ hK rfl
    refine ⟨by simp, .inl ⟨_, _, rfl, run_takeDeferred hK', ?_⟩⟩
    have e4 := (k4.set 0 (.int .i64 0)).far (a := ⟨w.heap.size + 1, 0, none⟩) (by show w.heap.size ≠ w.heap.size + 1; omega) (.bool false)
    have e5 := (k5.far (a := ⟨w.heap.size, 0, none⟩) (by show w.heap.size + 1 ≠ w.heap.size; omega) (.int .i64 0)).set 0 (.bool false)
    have x4 := cell_kept (e4.cell 0) (grownBy_putObj' _ D (.deferred none)) (fun r e => by cases e; exact ⟨_, hK', rfl⟩)
    have x5 := cell_kept (e5.cell 0) (grownBy_putObj' _ D (.deferred none)) (fun r e => by cases e; exact ⟨_, hK', rfl⟩)
    refine ⟨.tuple #[.int .i64 0, .bool false], ?_, by rw [E.out], ((hB.setCell (p := ⟨w.heap.size, 0, none⟩) (Nat.le_refl _) _).setCell (p := ⟨w.heap.size + 1, 0, none⟩) (Nat.le_succ _) _).trans (belowK_b (w := w) (Nat.le_refl _) _ D _ _ (by omega) hK' rfl rfl)⟩
    simp [results, Tryd.f13, go_sem, x4, x5]
  case stop =>
    clear k4 k5 k6
    rintro D j pre W hD hpre ⟨⟨rfl, x, ⟨p, rfl, hp⟩, hx, k4, k5⟩, hB⟩ hK
    have E := Lib.hid (found_some (find_pre hpre hp hx))
    gi_wp2
    refine ⟨by simp, .inl ⟨_, _, rfl, run_takeDeferred hK, ?_⟩⟩
    have x4 := cell_kept (k4.cell 0) (grownBy_putObj' _ D (.deferred none)) (fun r e => by cases e; exact ⟨_, hK, rfl⟩)
    have x5 := cell_kept (k5.cell 0) (grownBy_putObj' _ D (.deferred none)) (fun r e => by cases e; exact ⟨_, hK, rfl⟩)
    refine ⟨.tuple #[.int .i64 x.1, .bool true], ?_, by rw [E.out], hB.trans (belowK_b (w := w) (Nat.le_refl _) W D _ _ (by omega) hK rfl rfl)⟩
    simp [results, Tryd.f13, go_sem, x4, x5]
set_option maxRecDepth 100000 in
set_option maxHeartbeats 4000000 in
theorem pfind_let (f n : Int) (w : World) (hR : Rws w) (hf : (f == 126) = false) : Calls Tryd.prog 13 #[.int .u8 f, .int .i64 n] w fun e w' => e = .returned (.tuple #[.int .i64 (findE f n).1, .bool (findE f n).2]) ∧ Below w.heap.size w w' := by
  have HI : Hid (∀ x : Int × En, isFm f n x = decide (x.2 = ⟨3, f, 0, 0, false⟩)) := Lib.hid fun x => by
    unfold isFm formK
    rw [if_neg (ne_of_beq_false hf)]
  have k4 := ((Blk.new w 3 #[.int .i64 0]).alloc (.cells #[.bool false] 4)).alloc (.cells #[.int .i64 3, .int .u8 f, .int .i64 0, .int .i64 0, .bool false] 24)
  have k5 := (Blk.new (w.alloc (.cells #[.int .i64 0] 3)) 4 #[.bool false]).alloc (.cells #[.int .i64 3, .int .u8 f, .int .i64 0, .int .i64 0, .bool false] 24)
  have k6 := Blk.new ((w.alloc (.cells #[.int .i64 0] 3)).alloc (.cells #[.bool false] 4)) 24 #[.int .i64 3, .int .u8 f, .int .i64 0, .int .i64 0, .bool false]
  simp only [World.size_alloc] at k5 k6
  have hB0 : Below w.heap.size w (((w.alloc (.cells #[.int .i64 0] 3)).alloc (.cells #[.bool false] 4)).alloc (.cells #[.int .i64 3, .int .u8 f, .int .i64 0, .int .i64 0, .bool false] 24)) := (((Below.refl _ w).alloc (Nat.le_refl _) _).alloc (by simp) _).alloc (by simp; omega) _
  have hsz : (((w.alloc (.cells #[.int .i64 0] 3)).alloc (.cells #[.bool false] 4)).alloc (.cells #[.int .i64 3, .int .u8 f, .int .i64 0, .int .i64 0, .bool false] 24)).heap.size = w.heap.size + 3 := by simp
  refine (callsIn_wide (n := 3)).1 ?_
  refine callsIn_of_wp_marks Tryd.func13 rfl trivial ?_ rfl
  simp only [Tryd.ntmps13, List.size_toArray, List.length_cons, List.length_nil, Nat.reduceAdd, Nat.reduceSub, Array.replicate_succ, Array.replicate_zero, List.push_toArray, List.append_toArray, List.nil_append, List.cons_append]
  gi_wp2_with fail
  clear hf
  generalize (((w.alloc (.cells #[.int .i64 0] 3)).alloc (.cells #[.bool false] 4)).alloc (.cells #[.int .i64 3, .int .u8 f, .int .i64 0, .int .i64 0, .bool false] 24)) = V at k4 k5 k6 hB0 hsz ⊢
  refine wpIn_rangeFunc_ownH rfl (by omega) (gf := 21) (lb := #[]) rfl trivial (enters_of Tryd.func21 (by kernel_rfl) rfl)
    (codes_stops 2 (by omega) w.heap.size (fun k => k = w.heap.size ∨ k = w.heap.size + 1) (by omega) V (fun k hk => by omega) (by omega) (RwsIn.below hR hB0)) KpX.trans (fun W i o o' _ h hc _ => KpX.put _ W i o o' h hc) (Below.refl _ _) (fun _ => rfl)
    (fun (pre : List (Int × En)) W => In4 f n w.heap.size #[.int .i64 3, .int .u8 f, .int .i64 0, .int .i64 0, .bool false] pre W ∧ Below w.heap.size w W)
    (fun j (pre : List (Int × En)) W => Fx f n w.heap.size j pre W ∧ Below w.heap.size w W)
    (OwnFrom.and (in4_own _ _ _ _ _) (ownFrom_below (Nat.le_refl _) (by omega)))
    (fun _ => OwnFrom.and (fx_own _ _ _ _ _) (ownFrom_below (Nat.le_refl _) (by omega)))
    ⟨⟨by simp, k4, k5, k6⟩, hB0⟩
    (fun (x : Int × En) a' W' => ∃ g, w.heap.size + 3 ≤ g ∧ a' = { tmps := #[.int .u8 f, .int .i64 n, undef, undef, .pointer (some ⟨w.heap.size, 0, none⟩), .pointer (some ⟨w.heap.size + 1, 0, none⟩), .pointer (some ⟨w.heap.size + 1 + 1, 0, none⟩), .int .i64 x.1, .pointer (some ⟨g, 0, none⟩), .int .u8 f, .agg #[.int .i64 3, .int .u8 f, .int .i64 0, .int .i64 0, .bool false], .int .u8 f, .bool false, undef, undef, .int .i64 x.1, enV x.2, undef, undef, undef, undef], defers := [] } ∧ Blk W' g 24 (enA x.2))
    (fun x a' => by
      rintro s X Y row ⟨g, h1, h2, h3⟩ hg hr
      exact ⟨g, h1, h2, (Go.Own.from (blk_own g 24 fun (_ : Unit) => enA x.2) _) () X Y row h3 hg hr⟩) ?assign ?body ?done ?stop
  case assign =>
    clear k4 k5 k6
    rintro l pre ⟨c, ⟨K1, F1, N1, C1, B1⟩⟩ W K ⟨⟨hp, k4, k5, k6⟩, hB⟩ hK
    unfold enV
    gi_wp2
    have hb := (Below.refl W.heap.size W).alloc (Nat.le_refl _) (.cells #[.int .i64 K1, .int .u8 F1, .int .i64 N1, .int .i64 C1, .bool B1] 24)
    exact hK _ _ ((keeps_below hb).from _) (KpX.of_below hb) ⟨⟨hp, k4.alloc _, k5.alloc _, k6.alloc _⟩, hB.alloc hB.size _⟩ ⟨W.heap.size, by have := k6.lt; omega, rfl, Blk.new _ _ _⟩
  case body =>
    clear k4 k5 k6
    rintro l pre ⟨c, ⟨K1, F1, N1, C1, B1⟩⟩ a' W _ _ ⟨⟨hp, k4, k5, k6⟩, hB⟩ ⟨g, hg, rfl, kg⟩ _
    have hx := HI.out (c, ⟨K1, F1, N1, C1, B1⟩)
    simp only [En.mk.injEq] at hx
    unfold enA at kg
    simp only at kg
    have c0 := kg.cell 0
    have c1 := kg.cell 1
    have c2 := kg.cell 2
    have c3 := kg.cell 3
    have c4 := kg.cell 4
    have d0 := k6.cell 0
    have d1 := k6.cell 1
    have d2 := k6.cell 2
    have d3 := k6.cell 3
    have d4 := k6.cell 4
    have HP := Lib.hid hp
    have HX := Lib.hid hx
    clear hp hx
    unfold enV
    cases t0 : (K1 == 3) with
    | false =>
      have HN := Lib.hid (HX.out.trans (decide_eq_false (by rintro ⟨h1, h2, h3, h4, h5⟩; simp_all)))
      gi_wp2
      exact ⟨(KeepsOthers.refl _).from _, KpX.refl _ _, ⟨fun y hy => (List.mem_append.1 hy).elim (HP.out y) (fun e => by simp at e; subst e; exact HN.out), k4, k5, k6⟩, hB⟩
    | true =>
      cases t1 : (F1 == f) with
      | false =>
        have HN := Lib.hid (HX.out.trans (decide_eq_false (by rintro ⟨h1, h2, h3, h4, h5⟩; simp_all)))
        gi_wp2
        exact ⟨(KeepsOthers.refl _).from _, KpX.refl _ _, ⟨fun y hy => (List.mem_append.1 hy).elim (HP.out y) (fun e => by simp at e; subst e; exact HN.out), k4, k5, k6⟩, hB⟩
      | true =>
        cases t2 : (N1 == 0) with
        | false =>
          have HN := Lib.hid (HX.out.trans (decide_eq_false (by rintro ⟨h1, h2, h3, h4, h5⟩; simp_all)))
          gi_wp2
          exact ⟨(KeepsOthers.refl _).from _, KpX.refl _ _, ⟨fun y hy => (List.mem_append.1 hy).elim (HP.out y) (fun e => by simp at e; subst e; exact HN.out), k4, k5, k6⟩, hB⟩
        | true =>
          cases t3 : (C1 == 0) with
          | false =>
            have HN := Lib.hid (HX.out.trans (decide_eq_false (by rintro ⟨h1, h2, h3, h4, h5⟩; simp_all)))
            gi_wp2
            exact ⟨(KeepsOthers.refl _).from _, KpX.refl _ _, ⟨fun y hy => (List.mem_append.1 hy).elim (HP.out y) (fun e => by simp at e; subst e; exact HN.out), k4, k5, k6⟩, hB⟩
          | true =>
            cases B1 with
            | true =>
              have HN := Lib.hid (HX.out.trans (decide_eq_false (by rintro ⟨h1, h2, h3, h4, h5⟩; simp_all)))
              gi_wp2
              exact ⟨(KeepsOthers.refl _).from _, KpX.refl _ _, ⟨fun y hy => (List.mem_append.1 hy).elim (HP.out y) (fun e => by simp at e; subst e; exact HN.out), k4, k5, k6⟩, hB⟩
            | false =>
              obtain rfl := eq_of_beq t0
              have h2 := eq_of_beq t1
              obtain rfl := eq_of_beq t2
              obtain rfl := eq_of_beq t3
              clear t0 t1 t2 t3
              subst h2
              have HY := Lib.hid (HX.out.trans (decide_eq_true (by simp)))
              have z4 := k4.frozen 0
              have z5 := k5.frozen 0
              have y4 := k4.cell 0
              have y5 := k5.cell 0
              gi_wp2
              have e4 := (k4.set 0 (.int .i64 c)).far (a := ⟨w.heap.size + 1, 0, none⟩) (by show w.heap.size ≠ w.heap.size + 1; omega) (.bool true)
              have e5 := (k5.far (a := ⟨w.heap.size, 0, none⟩) (by show w.heap.size + 1 ≠ w.heap.size; omega) (.int .i64 c)).set 0 (.bool true)
              exact ⟨((KeepsOthers.setCell _ _ _).trans (KeepsOthers.setCell _ _ _)).from _, ⟨rfl, _, ⟨pre, rfl, HP.out⟩, HY.out, e4, e5⟩, (hB.setCell (p := ⟨w.heap.size, 0, none⟩) (Nat.le_refl _) _).setCell (p := ⟨w.heap.size + 1, 0, none⟩) (Nat.le_succ _) _⟩
  case done =>
    clear k4 k5 k6
    rintro D ys W hD rfl ⟨⟨hp, k4, k5, k6⟩, hB⟩ hK
    have E := Lib.hid (found_none hp)
    have z4 := k4.frozen 0
    have z5 := k5.frozen 0
    have y4 := k4.cell 0
    have y5 := k5.cell 0
    gi_wp2
    have hK' := ((KeepsOthers.setCell W ⟨w.heap.size, 0, none⟩ (.int .i64 0)).trans (KeepsOthers.setCell _ ⟨w.heap.size + 1, 0, none⟩ (.bool false))).same D _ hK rfl
    refine ⟨by simp, .inl ⟨_, _, rfl, run_takeDeferred hK', ?_⟩⟩
    have e4 := (k4.set 0 (.int .i64 0)).far (a := ⟨w.heap.size + 1, 0, none⟩) (by show w.heap.size ≠ w.heap.size + 1; omega) (.bool false)
    have e5 := (k5.far (a := ⟨w.heap.size, 0, none⟩) (by show w.heap.size + 1 ≠ w.heap.size; omega) (.int .i64 0)).set 0 (.bool false)
    have x4 := cell_kept (e4.cell 0) (grownBy_putObj' _ D (.deferred none)) (fun r e => by cases e; exact ⟨_, hK', rfl⟩)
    have x5 := cell_kept (e5.cell 0) (grownBy_putObj' _ D (.deferred none)) (fun r e => by cases e; exact ⟨_, hK', rfl⟩)
    refine ⟨.tuple #[.int .i64 0, .bool false], ?_, by rw [E.out], ((hB.setCell (p := ⟨w.heap.size, 0, none⟩) (Nat.le_refl _) _).setCell (p := ⟨w.heap.size + 1, 0, none⟩) (Nat.le_succ _) _).trans (belowK_b (w := w) (Nat.le_refl _) _ D _ _ (by omega) hK' rfl rfl)⟩
    simp [results, Tryd.f13, go_sem, x4, x5]
  case stop =>
    clear k4 k5 k6
    rintro D j pre W hD hpre ⟨⟨rfl, x, ⟨p, rfl, hp⟩, hx, k4, k5⟩, hB⟩ hK
    have E := Lib.hid (found_some (find_pre hpre hp hx))
    gi_wp2
    refine ⟨by simp, .inl ⟨_, _, rfl, run_takeDeferred hK, ?_⟩⟩
    have x4 := cell_kept (k4.cell 0) (grownBy_putObj' _ D (.deferred none)) (fun r e => by cases e; exact ⟨_, hK, rfl⟩)
    have x5 := cell_kept (k5.cell 0) (grownBy_putObj' _ D (.deferred none)) (fun r e => by cases e; exact ⟨_, hK, rfl⟩)
    refine ⟨.tuple #[.int .i64 x.1, .bool true], ?_, by rw [E.out], hB.trans (belowK_b (w := w) (Nat.le_refl _) W D _ _ (by omega) hK rfl rfl)⟩
    simp [results, Tryd.f13, go_sem, x4, x5]
/-- All that the layer's laws need of the program. -/
theorem keysC : KeysC fun w => Siz w ∧ Rws w where
  invB h hb := ⟨h.1.below' hb, h.2.below hb⟩
  look c w h _ := plook_any c w h.1 h.2
  find f n w h _ _ := by
    cases hf : (f == 126) with
    | true => exact pfind_num f n w h.2 hf
    | false => exact pfind_let f n w h.2 hf
end Go.Proofs.YtkicenpcklknnaaDoor
