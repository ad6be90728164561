/-
  Layer 2, walked: All.
-/
import Derived.Test.YtdhpbihooeckoaaDoorUtfVs
import Derived.Test.YtdhpbihooeckoaaDoorUtdL
namespace Go.Proofs.YtdhpbihooeckoaaDoor
open Go.RowKit Go.Shelf
attribute [local go_sem] Oper.semAt_some

set_option maxRecDepth 100000 in
set_option maxHeartbeats 4000000 in
theorem all_any (A : Option Addr) (c : Nat) (t : List UInt8) (w : World) (hs : Siz w) (ht : t.length ≤ 4294967296) (htc : t.length ≤ c) (hr : Rd w A (bs t)) :
    Calls Tryd.prog 34 #[.slice A t.length c] w (Al (allL t) w) := by
  obtain ⟨i0, hi, hz0, hz1, hz2⟩ := info_parts Tryd.intinfo
  have hg0 : 1 < w.heap.size := by obtain ⟨_, _, hh⟩ := hs; exact (Array.getElem?_eq_some_iff.1 hh).1
  have hpl := ptsL_le t
  refine (callsIn_wide (n := 3)).1 ?_
  refine callsIn_of_wp_marks Tryd.func34 rfl trivial ?_ rfl
  simp only [Tryd.ntmps34, List.size_toArray, List.length_cons, List.length_nil, Nat.reduceAdd, Nat.reduceSub, Array.replicate_succ, Array.replicate_zero, List.push_toArray, List.append_toArray, List.nil_append, List.cons_append]
  gi_wp2_with fail
  refine ⟨trivial, ?_⟩
  gi_at_call 43
  refine (callsIn_wide.2 (points_any A t.length c _)).mono ?_
  rintro e w1 ⟨rfl, rfl⟩
  gi_wp2_with fail
  have r0 := Boxed.new w 43 (.slice none 0 0)
  have r1 := Boxed.new (w.alloc (.cells #[.slice none 0 0] 43)) 4 (.bool false)
  have r2 := Boxed.new ((w.alloc (.cells #[.slice none 0 0] 43)).alloc (.cells #[.bool false] 4)) 43 (.slice none 0 0)
  have bx := Blk.new (((w.alloc (.cells #[.slice none 0 0] 43)).alloc (.cells #[.bool false] 4)).alloc (.cells #[.slice none 0 0] 43)) 48 #[.slice A t.length c]
  simp only [World.size_alloc] at r1 r2 bx
  have hB0 : Below w.heap.size w ((((w.alloc (.cells #[.slice none 0 0] 43)).alloc (.cells #[.bool false] 4)).alloc (.cells #[.slice none 0 0] 43)).alloc (.cells #[.slice A t.length c] 48)) :=
    ((((Below.refl _ w).alloc (Nat.le_refl _) _).alloc (by simp) _).alloc (by simp; omega) _).alloc (by simp; omega) _
  refine wpIn_rangeFunc_ownG rfl (by omega) (gf := 49) (lb := #[.pointer (some ⟨w.heap.size + 1 + 1 + 1, 0, none⟩)]) rfl trivial (enters_of Tryd.func49 (by kernel_rfl) rfl)
    (pts_stops 2 (by omega) (w.heap.size + 1 + 1 + 1) w.heap.size c A t ht htc hg0 _ (by simp; omega) bx (hs.below' hB0) ((RdIn.of hr).below hB0)) kp2_t (kp2_b (by simp; omega) (by simp)) (Below.refl _ _) (fun _ => rfl)
    (fun (pre : List (Int × Bool)) W => (((((∃ v, Boxed W (w.heap.size + 1 + 1) 43 v ∧ W.ownsRow w.heap.size 3 1 v pre.length (is_ (pre.map (·.1))) ∧ True) ∧ Boxed W w.heap.size 43 (.slice none 0 0)) ∧ Boxed W (w.heap.size + 1) 4 (.bool false)) ∧ Boxed W (w.heap.size + 1 + 1 + 1) 48 (.slice A t.length c)) ∧ (∀ y ∈ pre, y.2 = true)) ∧ Below w.heap.size w W)
    (fun j (pre : List (Int × Bool)) W => ((Boxed W w.heap.size 43 (.slice none 0 0) ∧ Boxed W (w.heap.size + 1) 4 (.bool false)) ∧ (j = .ret ∧ ∃ y ∈ pre, y.2 = false)) ∧ Below w.heap.size w W)
    (OwnFrom.and (OwnFrom.and (OwnFrom.and (OwnFrom.and (OwnFrom.and (Go.Own.from (holdsRow_own w.heap.size (w.heap.size + 1 + 1) 43 3 1 (fun pre : List (Int × Bool) => pre.length) (fun pre => is_ (pre.map (·.1))) (fun _ _ => True)) _) (Go.Own.from (boxed_own w.heap.size 43 fun _ => .slice none 0 0) _)) (Go.Own.from (boxed_own (w.heap.size + 1) 4 fun _ => .bool false) _)) (Go.Own.from (boxed_own (w.heap.size + 1 + 1 + 1) 48 fun _ => .slice A t.length c) _)) (ownFrom_pure _ fun (pre : List (Int × Bool)) => ∀ y ∈ pre, y.2 = true)) (ownFrom_below (Nat.le_refl _) (by simp; omega)))
    (fun j => OwnFrom.and (OwnFrom.and (OwnFrom.and (Go.Own.from (boxed_own w.heap.size 43 fun _ => .slice none 0 0) _) (Go.Own.from (boxed_own (w.heap.size + 1) 4 fun _ => .bool false) _)) (ownFrom_pure _ fun (pre : List (Int × Bool)) => j = .ret ∧ ∃ y ∈ pre, y.2 = false)) (ownFrom_below (Nat.le_refl _) (by simp; omega)))
    ⟨⟨⟨⟨⟨⟨_, r2.alloc _, World.ownsRow_nil _ _ _ _, trivial⟩, ((r0.alloc _).alloc _).alloc _⟩, (r1.alloc _).alloc _⟩, bx⟩, by simp⟩, hB0⟩
    (fun x => { tmps := #[.slice A t.length c, undef, .pointer (some ⟨w.heap.size, 0, none⟩), .pointer (some ⟨w.heap.size + 1, 0, none⟩), .pointer (some ⟨w.heap.size + 1 + 1, 0, none⟩), .int .i64 x.1, .bool x.2, .slice A t.length c, .func (.func 49) #[] #[.pointer (some ⟨w.heap.size + 1 + 1 + 1, 0, none⟩)], .int .i64 x.1, .bool x.2, undef, undef, undef, undef, undef, undef, undef], defers := [] }) ?assign ?body ?done ?stop
  case assign =>
    intro l x W K hK
    gi_wp2
    exact hK
  case body =>
    rintro l pre ⟨r, ok⟩ W ⟨⟨⟨⟨⟨⟨v, hv, hrow, _⟩, b0⟩, b1⟩, b3⟩, hall⟩, hB⟩ hlt
    have hc := hv.cell
    have c0 := b0.cell
    have f0 := b0.frozen
    have c1 := b1.cell
    have f1 := b1.frozen
    cases ok with
    | true =>
      have h63 : pre.length + 1 ≤ maxLen := by simp only [maxLen]; omega
      have hlim : (pre.length + 1) * 8 ≤ 140737488355328 := by omega
      gi_wp2_with (gi_at_builtin; refine wpListIn_append_own _ rfl _ _ 43 rfl w.heap.size 3 i0 (.int .i64 0) 1 8 Tryd.underlying43 hi hz0 hz1 hz2 rfl (by decide) _ _ _ rfl (hrow.alloc _) ⟨W.heap.size, 0, none⟩ 1 1 [.int .i64 r] rfl rfl (cell_one_new _ _ _) (by simp [Value.oneCell']) h63 hlim (by have := hB.size; simp; omega) ?_; intro v' w1 hown' hgrow _; obtain ⟨g', cap', rfl⟩ := ownsRow_succ hown'; obtain ⟨hv1, hv2, hr2, hk2, hb2⟩ := hv.appended (by decide) hrow hB.size (by omega) hown' hgrow; have hc1 := hv1.cell; have hf1 := hv1.frozen)
      have d0 : Boxed (w1.setCell ⟨w.heap.size + 1 + 1, 0, none⟩ (.slice (some ⟨g', 0, none⟩) (pre.length + 1) cap')) w.heap.size 43 (.slice none 0 0) := ((b0.alloc _).kept hgrow (b0.not_row (by decide) hrow)).other (by omega) _
      have d1 : Boxed (w1.setCell ⟨w.heap.size + 1 + 1, 0, none⟩ (.slice (some ⟨g', 0, none⟩) (pre.length + 1) cap')) (w.heap.size + 1) 4 (.bool false) := ((b1.alloc _).kept hgrow (b1.not_row (by decide) hrow)).other (by omega) _
      have d3 : Boxed (w1.setCell ⟨w.heap.size + 1 + 1, 0, none⟩ (.slice (some ⟨g', 0, none⟩) (pre.length + 1) cap')) (w.heap.size + 1 + 1 + 1) 48 (.slice A t.length c) := ((b3.alloc _).kept hgrow (b3.not_row (by decide) hrow)).other (by omega) _
      refine ⟨hk2.from _, ⟨hb2, Eq.trans d3 (Eq.symm b3)⟩, ⟨⟨⟨⟨⟨_, hv2, ?_, trivial⟩, d0⟩, d1⟩, d3⟩, fun y hy => (List.mem_append.1 hy).elim (hall y) (fun e => by simp at e; subst e; rfl)⟩, hB.trans hb2⟩
      simpa [is_] using hr2
    | false =>
      gi_wp2
      exact ⟨((KeepsOthers.setCell _ _ _).trans (KeepsOthers.setCell _ _ _)).from _, ⟨⟨(Boxed.set _ b0).other (by omega) _, Boxed.set _ (b1.other (by omega) _)⟩, rfl, ⟨(r, false), by simp, rfl⟩⟩, (hB.setCell (p := ⟨w.heap.size, 0, none⟩) (Nat.le_refl _) _).setCell (p := ⟨w.heap.size + 1, 0, none⟩) (by simp) _⟩
  case done =>
    rintro D ys W hD rfl ⟨⟨⟨⟨⟨⟨v, hv, hrow, _⟩, b0⟩, b1⟩, b3⟩, hall⟩, hB⟩ hK
    have E := Lib.hid (allL_some hall)
    obtain ⟨A2, c2, rfl, _⟩ := own_form hrow
    have hc := hv.cell
    have c0 := b0.cell
    have f0 := b0.frozen
    have c1 := b1.cell
    have f1 := b1.frozen
    gi_wp2
    have hK' := ((KeepsOthers.setCell W ⟨w.heap.size, 0, none⟩ (.slice A2 (ptsL t).length c2)).trans (KeepsOthers.setCell _ ⟨w.heap.size + 1, 0, none⟩ (.bool true))).same D _ hK rfl
    refine ⟨by simp, .inl ⟨_, _, rfl, run_takeDeferred hK', ?_⟩⟩
    have e0 : Boxed ((W.setCell ⟨w.heap.size, 0, none⟩ (.slice A2 (ptsL t).length c2)).setCell ⟨w.heap.size + 1, 0, none⟩ (.bool true)) w.heap.size 43 (.slice A2 (ptsL t).length c2) := (Boxed.set _ b0).other (by omega) _
    have e1 : Boxed ((W.setCell ⟨w.heap.size, 0, none⟩ (.slice A2 (ptsL t).length c2)).setCell ⟨w.heap.size + 1, 0, none⟩ (.bool true)) (w.heap.size + 1) 4 (.bool true) := Boxed.set _ (b1.other (by omega) _)
    have hr1 := (hrow.kept (grownBy_setCell' W w.heap.size (.slice A2 (ptsL t).length c2)) (.inr (b0.not_row (by decide) hrow).symm))
    have hr2 := hr1.kept (grownBy_setCell' _ (w.heap.size + 1) (.bool true)) (.inr ((b1.other (B' := w.heap.size) (by omega) _).not_row (by decide) hr1).symm)
    have hr3 := ownsRow_putObj hr2 (.deferred none) hK' rfl
    have hc5 := cell_kept e0.cell (grownBy_putObj' _ D (.deferred none)) (fun r e => by cases e; exact ⟨_, hK', rfl⟩)
    have hc6 := cell_kept e1.cell (grownBy_putObj' _ D (.deferred none)) (fun r e => by cases e; exact ⟨_, hK', rfl⟩)
    refine ⟨.tuple #[.slice A2 (ptsL t).length c2, .bool true], ?_, Al.yes E.out (by simp) (Own.of hr3).rd (((hB.setCell (p := ⟨w.heap.size, 0, none⟩) (Nat.le_refl _) _).setCell (p := ⟨w.heap.size + 1, 0, none⟩) (by simp) _).trans (belowK_b (w := w) (Nat.le_refl _) _ D _ _ (by simp at hD; omega) hK' rfl rfl))⟩
    simp [results, Tryd.f34, go_sem, hc5, hc6]
  case stop =>
    rintro D j pre W hD hpre ⟨⟨⟨b0, b1⟩, rfl, ⟨y, hy, hy2⟩⟩, hB⟩ hK
    have E := Lib.hid (allL_none (all_false hpre hy hy2))
    gi_wp2
    refine ⟨by simp, .inl ⟨_, _, rfl, run_takeDeferred hK, ?_⟩⟩
    have hc5 := cell_kept b0.cell (grownBy_putObj' _ D (.deferred none)) (fun r e => by cases e; exact ⟨_, hK, rfl⟩)
    have hc6 := cell_kept b1.cell (grownBy_putObj' _ D (.deferred none)) (fun r e => by cases e; exact ⟨_, hK, rfl⟩)
    refine ⟨.tuple #[.slice none 0 0, .bool false], ?_, Al.no E.out (hB.trans (belowK_b (w := w) (Nat.le_refl _) W D _ _ (by simp at hD; omega) hK rfl rfl))⟩
    simp [results, Tryd.f34, go_sem, hc5, hc6]
end Go.Proofs.YtdhpbihooeckoaaDoor
