/-
  Layer 6's mathematics: what modes leave of each other. Cut out of KitRf: what names no function of any dump. Cut out of WirY: what names no function of any dump. A call that tells bytes: the slice, with its room. What a round over a function keeps: all blocks of cells but some. (For all layers.) Layer 9, the landed keys: its table of rows in memory. Layer 2, walked: All. Layer 3, walked: the program's isNone and paramsMay. Layer 10, the landed mods: whether a text may be that of a key's event. Cut out of LegC: what names no function of any dump.
-/
import Derived.Test.YtceipblcdcgljaaGreatDoorG01
import Derived.Test.YtceipblcdcgljaaGreatDoorG02
import Derived.Test.YtceipblcdcgljaaGreatDoorG04
import Derived.Test.YtceipblcdcgljaaGreatDoorG07
import Derived.Test.YtceipblcdcgljaaGreatDoorG08
import Derived.Test.YtceipblcdcgljaaGreatDoorG09
import Derived.Test.YtceipblcdcgljaaGreatDoorG10
import Derived.RangeFuncNested
import Derived.RangeFuncBound
import Derived.RangeFuncCalls
import Derived.RangeFuncLeaves
import Derived.RangeFuncBox
import Derived.WalkKit
import Derived.OwnWalkIn
import Derived.TacticsInMore
import Derived.LoopNIn
import Derived.LoopIn
import Derived.Test.YtceipblcdcgljaaGreatDoorShelf
namespace Go.Proofs.YtceipblcdcgljaaGreatDoor
end Go.Proofs.YtceipblcdcgljaaGreatDoor
namespace Go.Proofs.YtceipblcdcgljaaGreatDoor
open Go.RowKit
theorem frm_val {c K F N C : Int} {B : Bool} (h : lookE c = ⟨K, F, N, C, B⟩) : frmK c = if K = 0 then (0, 0) else if c = 57366 then (13, 126) else if K = 3 ∧ B = false then (1, F) else if K = 4 ∧ B = false then (N, 126) else (c, 117) := by
 unfold frmK
 rw [h]
theorem may_1 {s : Sq} (h : s.data.length ≤ 4096) (h1 : okS s = false) : mayS s = 1 := by
 unfold mayS; rw [if_neg (by omega), if_neg (by rw [h1]; decide)]
theorem may_0 {s : Sq} (h : s.data.length ≤ 4096) (h1 : okS s = true) : mayS s = 0 := by
 unfold mayS; rw [if_neg (by omega), if_pos h1]
theorem may_4 {s : Sq} (h : 4096 < s.data.length) : mayS s = 4 := by unfold mayS; rw [if_pos h]
def OutC (L : List UInt8) (w : World) (e : Ending) (w' : World) : Prop := ∃ A c, e = .returned (.slice A L.length c) ∧ L.length ≤ c ∧ Rd w' A (bs L) ∧ Below w.heap.size w w'
theorem outC_is {L M : List UInt8} {w w' : World} {e : Ending} (hl : L = M) (h : OutC M w e w') : OutC L w e w' := hl ▸ h
section
def KpX (X : Nat → Prop) (W W' : World) : Prop := W.heap.size ≤ W'.heap.size ∧ ∀ k o, W.heap[k]? = some o → o.isCells = true → ¬ X k → W'.heap[k]? = some o
section
variable {X : Nat → Prop} {W W' W'' : World} {A : Option Addr} {xs : List Value}
theorem KpX.refl (X : Nat → Prop) (W : World) : KpX X W W := ⟨Nat.le_refl _, fun _ _ h _ _ => h⟩
theorem KpX.trans (h : KpX X W W') (k : KpX X W' W'') : KpX X W W'' := ⟨Nat.le_trans h.1 k.1, fun i o hi ho hx => k.2 i o (h.2 i o hi ho hx) ho hx⟩
theorem KpX.put (X : Nat → Prop) (W : World) (l : Nat) (o o' : Obj) (h : W.heap[l]? = some o) (hc : o.isCells = false) : KpX X W (W.putObj l o') :=
 ⟨by simp, fun k u hk hu _ => by
   by_cases e : k = l
   ·subst e
    rw [h] at hk
    cases hk
    rw [hc] at hu
    cases hu
   ·exact (World.putObj_heap_other e).trans hk⟩
theorem KpX.of_below (h : Below W.heap.size W W') : KpX X W W' := ⟨h.size, fun k _ hk _ _ => (h.block k (Array.getElem?_eq_some_iff.1 hk).1).trans hk⟩
theorem KpX.set (h : KpX X W W') {a : Addr} (ha : X a.block) (v : Value) : KpX X W (W'.setCell a v) :=
 ⟨by simpa [World.setCell] using h.1, fun k o hk ho hx => (Below.heap_setCell W' a v k (fun e => hx (by rw [e]; exact ha))).trans (h.2 k o hk ho hx)⟩
theorem RdOff.below' (h : RdOff W X A xs) (hb : Below W.heap.size W W') : RdOff W' X A xs := h.fr (Fr.of_below hb X) (Wid.refl _ _)
end
theorem Rd.off {w : World} {X : Nat → Prop} {g o : Nat} {xs : List Value} (h : Rd w (some ⟨g, o, none⟩) xs) (hn : ¬ X g) : RdOff w X (some ⟨g, o, none⟩) xs := fun hp => by
 obtain ⟨b, o', hA, hb, hc⟩ := h hp
 simp only [Option.some.injEq, Addr.mk.injEq, and_true] at hA
 obtain ⟨rfl, rfl⟩ := hA
 exact ⟨g, o, rfl, hb, hn, hc⟩
end
section
def roC (r : Ro) (A : Option Addr) (c : Nat) : List Value := [.int .i64 r.first, .int .i64 r.last, .int .i64 r.kind, .string ⟨r.finals.toArray⟩, .slice A r.nums.length c, .string ⟨r.chars.toArray⟩, .bool r.keys]
def RdRo (n₁ : Nat) (w : World) (b o : Nat) (rs : List Ro) : Prop :=
 ∀ k (hk : k < rs.length), ∃ A' c', RdIn n₁ w A' (is_ rs[k].nums) ∧ ∀ i u, (roC rs[k] A' c')[i]? = some u → w.cell? ⟨b, o + k * 7 + i, none⟩ = some u
def RwsIn (n₁ : Nat) (w : World) : Prop :=
 ∃ b o c t fz, w.heap[0]? = some (.cells #[.slice (some ⟨b, o, none⟩) 22 c] t fz) ∧ 0 < n₁ ∧ b < n₁ ∧ RdRo n₁ w b o roL
def Rws (w : World) : Prop := RwsIn w.heap.size w
section
variable {n₁ n₂ : Nat} {w w' : World} {b o : Nat} {rs : List Ro}
theorem RdRo.below (h : RdRo n₁ w b o rs) (hb : Below n₁ w w') (hl : b < n₁) : RdRo n₁ w' b o rs := fun k hk => by
 obtain ⟨A', c', h1, h2⟩ := h k hk
 exact ⟨A', c', h1.below hb, fun i u hu => (hb.cell (p := ⟨b, o + k * 7 + i, none⟩) hl).trans (h2 i u hu)⟩
theorem RwsIn.below (h : RwsIn n₁ w) (hb : Below n₁ w w') : RwsIn n₁ w' := by
 obtain ⟨b, o, c, t, fz, h1, h2, h3, h4⟩ := h
 exact ⟨b, o, c, t, fz, (hb.block _ h2).trans h1, h2, h3, h4.below hb h3⟩
theorem RdIn.mono {A : Option Addr} {xs : List Value} (h : RdIn n₁ w A xs) (hn : n₁ ≤ n₂) : RdIn n₂ w A xs := fun hp => by
 obtain ⟨b, o, rfl, hb, hc⟩ := h hp
 exact ⟨b, o, rfl, by omega, hc⟩
theorem RwsIn.mono (h : RwsIn n₁ w) (hn : n₁ ≤ n₂) : RwsIn n₂ w := by
 obtain ⟨b, o, c, t, fz, h1, h2, h3, h4⟩ := h
 refine ⟨b, o, c, t, fz, h1, by omega, by omega, fun k hk => ?_⟩
 obtain ⟨A', c', e1, e2⟩ := h4 k hk
 exact ⟨A', c', e1.mono hn, e2⟩
theorem Rws.below (h : Rws w) (hb : Below w.heap.size w w') : Rws w' := (RwsIn.below h hb).mono hb.size
theorem RdRo.at_ (h : RdRo n₁ w b o rs) {k : Nat} (hk : k < rs.length) {r : Ro} (hr : rs[k] = r) : ∃ A' c', RdIn n₁ w A' (is_ r.nums) ∧
 w.cell? ⟨b, o + k * 7, none⟩ = some (.int .i64 r.first) ∧ w.cell? ⟨b, o + k * 7 + 1, none⟩ = some (.int .i64 r.last) ∧ w.cell? ⟨b, o + k * 7 + 2, none⟩ = some (.int .i64 r.kind) ∧ w.cell? ⟨b, o + k * 7 + 3, none⟩ = some (.string ⟨r.finals.toArray⟩) ∧ w.cell? ⟨b, o + k * 7 + 4, none⟩ = some (.slice A' r.nums.length c') ∧ w.cell? ⟨b, o + k * 7 + 5, none⟩ = some (.string ⟨r.chars.toArray⟩) ∧ w.cell? ⟨b, o + k * 7 + 6, none⟩ = some (.bool r.keys) := by
 obtain ⟨A', c', h1, h2⟩ := h k hk
 subst hr
 exact ⟨A', c', h1, h2 0 _ rfl, h2 1 _ rfl, h2 2 _ rfl, h2 3 _ rfl, h2 4 _ rfl, h2 5 _ rfl, h2 6 _ rfl⟩
end
def sbK (s : ByteArray) (a : Nat) : Int := if h : a < s.size then ((s[a]'h).toNat : Int) else 0
theorem sbK_eq (l : List UInt8) (a : Nat) : sbK ⟨l.toArray⟩ a = byL l a := by
 unfold sbK byL
 by_cases h : a < l.length
 ·rw [dif_pos (show a < (⟨l.toArray⟩ : ByteArray).size from h)]
  rw [List.getD_eq_getElem?_getD, List.getElem?_eq_getElem h]
  rfl
 ·rw [dif_neg (show ¬ a < (⟨l.toArray⟩ : ByteArray).size from h)]
  rw [List.getD_eq_getElem?_getD, List.getElem?_eq_none (by omega)]
  rfl
theorem sbK_yes {s : ByteArray} {a : Nat} (h : a < s.size) : sbK s a = ((s[a]'h).toNat : Int) := by unfold sbK; rw [dif_pos h]
theorem sbK_no {s : ByteArray} {a : Nat} (h : ¬ a < s.size) : sbK s a = 0 := by unfold sbK; rw [dif_neg h]
theorem getD_yes {l : List Int} {a : Nat} (h : a < l.length) : l.getD a 0 = l[a] := by rw [List.getD_eq_getElem?_getD, List.getElem?_eq_getElem h]; rfl
theorem getD_no {l : List Int} {a : Nat} (h : ¬ a < l.length) : l.getD a 0 = 0 := by rw [List.getD_eq_getElem?_getD, List.getElem?_eq_none (by omega)]; rfl
end
end Go.Proofs.YtceipblcdcgljaaGreatDoor
namespace Go.Proofs.YtceipblcdcgljaaGreatDoor
open Go.RowKit Go.Shelf
section
attribute [local go_sem] Oper.semAt_some
set_option maxRecDepth 100000 in
set_option maxHeartbeats 4000000 in
theorem all_any (A : Option Addr) (c : Nat) (t : List UInt8) (w : World) (hs : Siz w) (ht : t.length ≤ 4294967296) (htc : t.length ≤ c) (hr : Rd w A (bs t)) :
 Calls Tryz.prog 129 #[.slice A t.length c] w (Al (allL t) w) := by
 obtain ⟨i0, hi, hz0, hz1, hz2⟩ := info_parts Tryz.intinfo
 have hg0 : 1 < w.heap.size := by obtain ⟨_, _, hh⟩ := hs; exact (Array.getElem?_eq_some_iff.1 hh).1
 have hpl := ptsL_le t
 refine (callsIn_wide (n := 3)).1 ?_
 refine callsIn_of_wp_marks Tryz.func129 rfl trivial ?_ rfl
 simp only [Tryz.ntmps129, List.size_toArray, List.length_cons, List.length_nil, Nat.reduceAdd, Nat.reduceSub, Array.replicate_succ, Array.replicate_zero, List.push_toArray, List.append_toArray, List.nil_append, List.cons_append]
 gi_wp2_with fail
 refine ⟨trivial, ?_⟩
 gi_at_call 143
 refine (callsIn_wide.2 (points_any A t.length c _)).mono ?_
 rintro e w1 ⟨rfl, rfl⟩
 gi_wp2_with fail
 have r0 := Boxed.new w 57 (.slice none 0 0)
 have r1 := Boxed.new (w.alloc (.cells #[.slice none 0 0] 57)) 4 (.bool false)
 have r2 := Boxed.new ((w.alloc (.cells #[.slice none 0 0] 57)).alloc (.cells #[.bool false] 4)) 57 (.slice none 0 0)
 have bx := Blk.new (((w.alloc (.cells #[.slice none 0 0] 57)).alloc (.cells #[.bool false] 4)).alloc (.cells #[.slice none 0 0] 57)) 27 #[.slice A t.length c]
 simp only [World.size_alloc] at r1 r2 bx
 have hB0 : Below w.heap.size w ((((w.alloc (.cells #[.slice none 0 0] 57)).alloc (.cells #[.bool false] 4)).alloc (.cells #[.slice none 0 0] 57)).alloc (.cells #[.slice A t.length c] 27)) :=
  ((((Below.refl _ w).alloc (Nat.le_refl _) _).alloc (by simp) _).alloc (by simp; omega) _).alloc (by simp; omega) _
 refine wpIn_rangeFunc_ownG rfl (by omega) (gf := 151) (lb := #[.pointer (some ⟨w.heap.size + 1 + 1 + 1, 0, none⟩)]) rfl trivial (enters_of Tryz.func151 (by kernel_rfl) rfl)
  (pts_stops 2 (by omega) (w.heap.size + 1 + 1 + 1) w.heap.size c A t ht htc hg0 _ (by simp; omega) bx (hs.below' hB0) ((RdIn.of hr).below hB0)) kp2_t (kp2_b (by simp; omega) (by simp)) (Below.refl _ _) (fun _ => rfl)
  (fun (pre : List (Int × Bool)) W => (((((∃ v, Boxed W (w.heap.size + 1 + 1) 57 v ∧ W.ownsRow w.heap.size 3 1 v pre.length (is_ (pre.map (·.1))) ∧ True) ∧ Boxed W w.heap.size 57 (.slice none 0 0)) ∧ Boxed W (w.heap.size + 1) 4 (.bool false)) ∧ Boxed W (w.heap.size + 1 + 1 + 1) 27 (.slice A t.length c)) ∧ (∀ y ∈ pre, y.2 = true)) ∧ Below w.heap.size w W)
  (fun j (pre : List (Int × Bool)) W => ((Boxed W w.heap.size 57 (.slice none 0 0) ∧ Boxed W (w.heap.size + 1) 4 (.bool false)) ∧ (j = .ret ∧ ∃ y ∈ pre, y.2 = false)) ∧ Below w.heap.size w W)
  (OwnFrom.and (OwnFrom.and (OwnFrom.and (OwnFrom.and (OwnFrom.and (Go.Own.from (holdsRow_own w.heap.size (w.heap.size + 1 + 1) 57 3 1 (fun pre : List (Int × Bool) => pre.length) (fun pre => is_ (pre.map (·.1))) (fun _ _ => True)) _) (Go.Own.from (boxed_own w.heap.size 57 fun _ => .slice none 0 0) _)) (Go.Own.from (boxed_own (w.heap.size + 1) 4 fun _ => .bool false) _)) (Go.Own.from (boxed_own (w.heap.size + 1 + 1 + 1) 27 fun _ => .slice A t.length c) _)) (ownFrom_pure _ fun (pre : List (Int × Bool)) => ∀ y ∈ pre, y.2 = true)) (ownFrom_below (Nat.le_refl _) (by simp; omega)))
  (fun j => OwnFrom.and (OwnFrom.and (OwnFrom.and (Go.Own.from (boxed_own w.heap.size 57 fun _ => .slice none 0 0) _) (Go.Own.from (boxed_own (w.heap.size + 1) 4 fun _ => .bool false) _)) (ownFrom_pure _ fun (pre : List (Int × Bool)) => j = .ret ∧ ∃ y ∈ pre, y.2 = false)) (ownFrom_below (Nat.le_refl _) (by simp; omega)))
  ⟨⟨⟨⟨⟨⟨_, r2.alloc _, World.ownsRow_nil _ _ _ _, trivial⟩, ((r0.alloc _).alloc _).alloc _⟩, (r1.alloc _).alloc _⟩, bx⟩, by simp⟩, hB0⟩
  (fun x => { tmps := #[.slice A t.length c, undef, .pointer (some ⟨w.heap.size, 0, none⟩), .pointer (some ⟨w.heap.size + 1, 0, none⟩), .pointer (some ⟨w.heap.size + 1 + 1, 0, none⟩), .int .i64 x.1, .bool x.2, .slice A t.length c, .func (.func 151) #[] #[.pointer (some ⟨w.heap.size + 1 + 1 + 1, 0, none⟩)], .int .i64 x.1, .bool x.2, undef, undef, undef, undef, undef, undef, undef], defers := [] }) ?assign ?body ?done ?stop
 case assign =>
  intro l x W K hK
  gi_wp2
  exact hK
 case body =>
  rintro l pre ⟨r, ok⟩ W ⟨⟨⟨⟨⟨⟨v, hv, hrow, _⟩, b0⟩, b1⟩, b3⟩, hall⟩, hB⟩ hlt
  have hc := hv.cell
  have c0 := b0.cell
  have f0 := b0.frozen
  have c1 := b1.cell
  have f1 := b1.frozen
  cases ok with
  | true =>
    have h63 : pre.length + 1 ≤ maxLen := by simp only [maxLen]; omega
    have hlim : (pre.length + 1) * 8 ≤ 140737488355328 := by omega
    gi_wp2_with (gi_at_builtin; refine wpListIn_append_own _ rfl _ _ 57 rfl w.heap.size 3 i0 (.int .i64 0) 1 8 Tryz.underlying57 hi hz0 hz1 hz2 rfl (by decide) _ _ _ rfl (hrow.alloc _) ⟨W.heap.size, 0, none⟩ 1 1 [.int .i64 r] rfl rfl (cell_one_new _ _ _) (by simp [Value.oneCell']) h63 hlim (by have := hB.size; simp; omega) ?_; intro v' w1 hown' hgrow _; obtain ⟨g', cap', rfl⟩ := ownsRow_succ hown'; obtain ⟨hv1, hv2, hr2, hk2, hb2⟩ := hv.appended (by decide) hrow hB.size (by omega) hown' hgrow; have hc1 := hv1.cell; have hf1 := hv1.frozen)
    have d0 : Boxed (w1.setCell ⟨w.heap.size + 1 + 1, 0, none⟩ (.slice (some ⟨g', 0, none⟩) (pre.length + 1) cap')) w.heap.size 57 (.slice none 0 0) := ((b0.alloc _).kept hgrow (b0.not_row (by decide) hrow)).other (by omega) _
    have d1 : Boxed (w1.setCell ⟨w.heap.size + 1 + 1, 0, none⟩ (.slice (some ⟨g', 0, none⟩) (pre.length + 1) cap')) (w.heap.size + 1) 4 (.bool false) := ((b1.alloc _).kept hgrow (b1.not_row (by decide) hrow)).other (by omega) _
    have d3 : Boxed (w1.setCell ⟨w.heap.size + 1 + 1, 0, none⟩ (.slice (some ⟨g', 0, none⟩) (pre.length + 1) cap')) (w.heap.size + 1 + 1 + 1) 27 (.slice A t.length c) := ((b3.alloc _).kept hgrow (b3.not_row (by decide) hrow)).other (by omega) _
    refine ⟨hk2.from _, ⟨hb2, Eq.trans d3 (Eq.symm b3)⟩, ⟨⟨⟨⟨⟨_, hv2, ?_, trivial⟩, d0⟩, d1⟩, d3⟩, fun y hy => (List.mem_append.1 hy).elim (hall y) (fun e => by simp at e; subst e; rfl)⟩, hB.trans hb2⟩
    simpa [is_] using hr2
  | false =>
    gi_wp2
    exact ⟨((KeepsOthers.setCell _ _ _).trans (KeepsOthers.setCell _ _ _)).from _, ⟨⟨(Boxed.set _ b0).other (by omega) _, Boxed.set _ (b1.other (by omega) _)⟩, rfl, ⟨(r, false), by simp, rfl⟩⟩, (hB.setCell (p := ⟨w.heap.size, 0, none⟩) (Nat.le_refl _) _).setCell (p := ⟨w.heap.size + 1, 0, none⟩) (by simp) _⟩
 case done =>
  rintro D ys W hD rfl ⟨⟨⟨⟨⟨⟨v, hv, hrow, _⟩, b0⟩, b1⟩, b3⟩, hall⟩, hB⟩ hK
  have E := Lib.hid (allL_some hall)
  obtain ⟨A2, c2, rfl, _⟩ := own_form hrow
  have hc := hv.cell
  have c0 := b0.cell
  have f0 := b0.frozen
  have c1 := b1.cell
  have f1 := b1.frozen
  gi_wp2
  have hK' := ((KeepsOthers.setCell W ⟨w.heap.size, 0, none⟩ (.slice A2 (ptsL t).length c2)).trans (KeepsOthers.setCell _ ⟨w.heap.size + 1, 0, none⟩ (.bool true))).same D _ hK rfl
  refine ⟨by simp, .inl ⟨_, _, rfl, run_takeDeferred hK', ?_⟩⟩
  have e0 : Boxed ((W.setCell ⟨w.heap.size, 0, none⟩ (.slice A2 (ptsL t).length c2)).setCell ⟨w.heap.size + 1, 0, none⟩ (.bool true)) w.heap.size 57 (.slice A2 (ptsL t).length c2) := (Boxed.set _ b0).other (by omega) _
  have e1 : Boxed ((W.setCell ⟨w.heap.size, 0, none⟩ (.slice A2 (ptsL t).length c2)).setCell ⟨w.heap.size + 1, 0, none⟩ (.bool true)) (w.heap.size + 1) 4 (.bool true) := Boxed.set _ (b1.other (by omega) _)
  have hr1 := (hrow.kept (grownBy_setCell' W w.heap.size (.slice A2 (ptsL t).length c2)) (.inr (b0.not_row (by decide) hrow).symm))
  have hr2 := hr1.kept (grownBy_setCell' _ (w.heap.size + 1) (.bool true)) (.inr ((b1.other (B' := w.heap.size) (by omega) _).not_row (by decide) hr1).symm)
  have hr3 := ownsRow_putObj hr2 (.deferred none) hK' rfl
  have hc5 := cell_kept e0.cell (grownBy_putObj' _ D (.deferred none)) (fun r e => by cases e; exact ⟨_, hK', rfl⟩)
  have hc6 := cell_kept e1.cell (grownBy_putObj' _ D (.deferred none)) (fun r e => by cases e; exact ⟨_, hK', rfl⟩)
  refine ⟨.tuple #[.slice A2 (ptsL t).length c2, .bool true], ?_, Al.yes E.out (by simp) (Own.of hr3).rd (((hB.setCell (p := ⟨w.heap.size, 0, none⟩) (Nat.le_refl _) _).setCell (p := ⟨w.heap.size + 1, 0, none⟩) (by simp) _).trans (belowK_b (w := w) (Nat.le_refl _) _ D _ _ (by simp at hD; omega) hK' rfl rfl))⟩
  simp [results, Tryz.f129, go_sem, hc5, hc6]
 case stop =>
  rintro D j pre W hD hpre ⟨⟨⟨b0, b1⟩, rfl, ⟨y, hy, hy2⟩⟩, hB⟩ hK
  have E := Lib.hid (allL_none (all_false hpre hy hy2))
  gi_wp2
  refine ⟨by simp, .inl ⟨_, _, rfl, run_takeDeferred hK, ?_⟩⟩
  have hc5 := cell_kept b0.cell (grownBy_putObj' _ D (.deferred none)) (fun r e => by cases e; exact ⟨_, hK, rfl⟩)
  have hc6 := cell_kept b1.cell (grownBy_putObj' _ D (.deferred none)) (fun r e => by cases e; exact ⟨_, hK, rfl⟩)
  refine ⟨.tuple #[.slice none 0 0, .bool false], ?_, Al.no E.out (hB.trans (belowK_b (w := w) (Nat.le_refl _) W D _ _ (by simp at hD; omega) hK rfl rfl))⟩
  simp [results, Tryz.f129, go_sem, hc5, hc6]
end
end Go.Proofs.YtceipblcdcgljaaGreatDoor
namespace Go.Proofs.YtceipblcdcgljaaGreatDoor
open Go.RowKit
theorem none_key (ps : List (List Int)) : ps.length ≠ 1 ∧ decide (ps = [[-1]]) = false ∨ ∃ (h : ps.length = 1), ((ps[0]'(by omega)).length ≠ 1 ∧ decide (ps = [[-1]]) = false ∨ ∃ (h2 : (ps[0]'(by omega)).length = 1), ((ps[0]'(by omega))[0]'(by omega) ≠ -1 ∧ decide (ps = [[-1]]) = false ∨ (ps[0]'(by omega))[0]'(by omega) = -1 ∧ decide (ps = [[-1]]) = true)) := by
 by_cases h1 : ps.length = 1
 ·refine .inr ⟨h1, ?_⟩
  match ps, h1 with
  | [p], _ =>
    by_cases h2 : p.length = 1
    ·refine .inr ⟨h2, ?_⟩
     match p, h2 with
     | [x], _ =>
       by_cases h3 : x = -1
       ·exact .inr ⟨h3, by rw [h3]; rfl⟩
       ·exact .inl ⟨h3, decide_eq_false (by simpa using h3)⟩
    ·exact .inl ⟨h2, decide_eq_false (fun e => h2 (by injection e with e; rw [e]; rfl))⟩
 ·exact .inl ⟨h1, decide_eq_false (fun e => h1 (by rw [e]; rfl))⟩
set_option maxRecDepth 100000 in
set_option maxHeartbeats 4000000 in
theorem isNone_any (A : Option Addr) (n c : Nat) (ps : List (List Int)) (q : Bool) (w : World) (hn : ps.length = n) (hq : decide (ps = [[-1]]) = q) (hl : n ≤ 4294967296) (hr : RdP w A ps) :
 Calls Tryz.prog 94 #[.slice A n c] w fun e w' => e = .returned (.bool q) ∧ w = w' := by
 subst hn
 rcases none_key ps with ⟨h1, h⟩ | ⟨h1, ⟨h2, h⟩ | ⟨h2, ⟨h3, h⟩ | ⟨h3, h⟩⟩⟩
 all_goals
  rw [h] at hq
  subst hq
  clear h
 ·have t1 : ((ps.length : Int) == 1) = false := beq_false_of_ne (by omega)
  clear h1
  go_enter Tryz.func94, Tryz.ntmps94
  go_wp2
  go_ret
  exact ⟨rfl, rfl⟩
 ·obtain ⟨b, o, hA, hb, hcc⟩ := hr (by omega)
  obtain ⟨A', c', hck, hrk⟩ := hcc 0 (by omega)
  rw [Nat.add_zero] at hck
  cases hA
  obtain ⟨m, hm⟩ : ∃ m, (ps[0]'(by omega)).length = m := ⟨_, rfl⟩
  rw [hm] at hck h2
  clear hm hcc hrk
  have t1 : ((ps.length : Int) == 1) = true := beq_iff_eq.2 (by omega)
  have p0 : 0 < ps.length := by omega
  have t2 : ((m : Int) == 1) = false := beq_false_of_ne (by omega)
  clear h1 h2
  go_enter Tryz.func94, Tryz.ntmps94
  go_wp2
  go_ret
  exact ⟨rfl, rfl⟩
 all_goals
  obtain ⟨b, o, hA, hb, hcc⟩ := hr (by omega)
  obtain ⟨A', c', hck, hrk⟩ := hcc 0 (by omega)
  rw [Nat.add_zero] at hck
  obtain ⟨b2, o2, hA2, hb2, hc2⟩ := hrk.int_at (by omega)
  have hc3 := hc2 0 (by omega)
  rw [Nat.add_zero] at hc3
  cases hA
  cases hA2
  obtain ⟨x, hx⟩ : ∃ x, (ps[0]'(by omega))[0]'(by omega) = x := ⟨_, rfl⟩
  rw [hx] at hc3 h3
  rw [h2] at hck
  have t1 : ((ps.length : Int) == 1) = true := beq_iff_eq.2 (by omega)
  have p0 : 0 < ps.length := by omega
  clear hx hc2 hcc hrk h2 h1
 ·have t3 : (x == -1) = false := beq_false_of_ne h3
  clear h3
  go_enter Tryz.func94, Tryz.ntmps94
  go_wp2
  go_ret
  exact ⟨rfl, rfl⟩
 ·subst h3
  go_enter Tryz.func94, Tryz.ntmps94
  go_wp2
  go_ret
  exact ⟨rfl, rfl⟩
theorem fold_min (l : List Int) : ∀ a m : Int, m ≤ l.foldl min a ↔ m ≤ a ∧ ∀ x ∈ l, m ≤ x := by
 induction l with
 | nil => intro a m; simp
 | cons c l ih =>
   intro a m
   rw [List.foldl_cons, ih]
   simp only [List.mem_cons, forall_eq_or_imp]
   exact ⟨fun h => ⟨by omega, by omega, h.2⟩, fun h => ⟨by omega, h.2.2⟩⟩
theorem fold_max (l : List Int) : ∀ a m : Int, l.foldl max a ≤ m ↔ a ≤ m ∧ ∀ x ∈ l, x ≤ m := by
 induction l with
 | nil => intro a m; simp
 | cons c l ih =>
   intro a m
   rw [List.foldl_cons, ih]
   simp only [List.mem_cons, forall_eq_or_imp]
   exact ⟨fun h => ⟨by omega, by omega, h.2⟩, fun h => ⟨by omega, h.2.2⟩⟩
theorem part_minmax {p : List Int} (h : 1 ≤ p.length) : p.all numOk = true ↔ -1 ≤ Lib.minOf p ∧ Lib.maxOf p ≤ 1114111 := by
 match p, h with
 | a :: p, _ =>
   unfold Lib.minOf Lib.maxOf
   rw [fold_min, fold_max]
   simp only [List.headD_cons, List.all_eq_true, numOk_iff]
   constructor
   ·intro h
    exact ⟨⟨(h a (List.mem_cons_self ..)).1, fun x hx => (h x hx).1⟩, (h a (List.mem_cons_self ..)).2, fun x hx => (h x hx).2⟩
   ·intro h x hx
    exact ⟨h.1.2 x hx, h.2.2 x hx⟩
set_option maxRecDepth 100000 in
set_option maxHeartbeats 4000000 in
theorem pparams_any (A : Option Addr) (c : Nat) (ps : List (List Int)) (q : Bool) (w : World) (hq : parOk ps = q) (hl : ps.length ≤ 4294967296) (hp : ∀ p ∈ ps, p.length ≤ 4294967296) (hr : RdP w A ps) :
 Calls Tryz.prog 64 #[.slice A ps.length c] w fun e w' => e = .returned (.bool q) ∧ w = w' := by
 by_cases h16 : 16 < ps.length
 ·obtain rfl : false = q := (par_long h16).symm.trans hq
  clear hq
  go_enter Tryz.func64, Tryz.ntmps64
  go_wp2
  go_ret
  exact ⟨rfl, rfl⟩
 ·have HQ := Lib.hid hq
  clear hq
  cases hN : decide (ps = [[-1]]) with
  | true =>
    have HN := Lib.hid hN
    have he := of_decide_eq_true hN
    obtain rfl : false = q := by rw [← HQ.out, he]; rfl
    clear hN he
    go_enter Tryz.func64, Tryz.ntmps64
    go_wp2_with fail
    refine (isNone_any A _ c ps true _ rfl HN.out hl hr).mono ?_
    rintro e w1 ⟨rfl, rfl⟩
    go_wp2_with fail
    go_ret
    exact ⟨rfl, rfl⟩
  | false =>
    have HN := Lib.hid hN
    have HNE := Lib.hid (of_decide_eq_false hN)
    clear hN
    go_enter Tryz.func64, Tryz.ntmps64
    go_wp2_with fail
    refine (isNone_any A _ c ps false _ rfl HN.out hl hr).mono ?_
    rintro e w1 ⟨rfl, rfl⟩
    go_wp2_with fail
    go_loop [14] (fun i => ∃ k : Nat, k ≤ ps.length ∧ i = .int .i64 k ∧ (ps.take k).all partB = true) (fun i => ps.length - (intOf i).toNat)
    case atStart => exact ⟨0, Nat.zero_le _, rfl, rfl⟩
    case round =>
     obtain ⟨k, hk, rfl, hall⟩ := hrel
     have HA := Lib.hid hall
     clear hall
     by_cases hlt : k < ps.length
     ·obtain ⟨b, o, hA, hb, hcc⟩ := hr (by omega)
      cases hA
      obtain ⟨A', c', hck, hrk⟩ := hcc k hlt
      obtain ⟨p, hp'⟩ : ∃ p, (ps[k]'hlt) = p := ⟨_, rfl⟩
      have hpl := hp _ (List.getElem_mem hlt)
      rw [hp'] at hck hrk hpl
      have HP := Lib.hid hp'
      clear hp' hcc
      obtain ⟨n, hn⟩ : ∃ n, p.length = n := ⟨_, rfl⟩
      rw [hn] at hck hpl
      have HLN := Lib.hid hn
      clear hn
      by_cases hs : 1 ≤ n ∧ n ≤ 8
      ·obtain ⟨n1, n8⟩ := hs
       obtain ⟨b2, o2, hA2, hb2, hc2⟩ := hrk.int_at (by rw [HLN.out]; omega)
       cases hA2
       have HC2 := Lib.hid (fun j (hj : j < p.length) => (hc2 j hj).trans (show some (Value.int .i64 p[j]) = some (.int .i64 (p.getD j 0)) by rw [List.getD_eq_getElem?_getD, List.getElem?_eq_getElem hj]; rfl))
       clear hc2
       have HT := Lib.hid (show p.take n = p from List.take_of_length_le (by rw [HLN.out]; omega))
       have HM := Lib.hid (part_minmax (p := p) (by rw [HLN.out]; omega))
       obtain ⟨mn, hmn⟩ : ∃ mn, Lib.minOf (p.take n) = mn := ⟨_, rfl⟩
       obtain ⟨mx, hmx⟩ : ∃ mx, Lib.maxOf (p.take n) = mx := ⟨_, rfl⟩
       have HMN := Lib.hid hmn
       have HMX := Lib.hid hmx
       clear hmn hmx
       by_cases m1 : -1 ≤ mn
       ·by_cases m2 : mx ≤ 1114111
        ·have E := Lib.hid (show (ps.take (k + 1)).all partB = true by
          rw [List.take_succ_eq_append_getElem hlt, List.all_append, HA.out, HP.out]
          simp only [List.all_cons, List.all_nil, Bool.and_true, Bool.true_and]
          refine partB_yes (by rw [HLN.out]; omega) (by rw [HLN.out]; omega) (HM.out.2 ?_)
          have e1 := HMN.out
          have e2 := HMX.out
          rw [HT.out] at e1 e2
          rw [e1, e2]
          exact ⟨m1, m2⟩)
         go_wp2_with fail
         refine (Tryz.slices_Min_int _ _ n _ p _ (by omega) (by rw [HLN.out]; omega) (by omega) HC2.out).mono ?_
         rw [HMN.out]
         rintro e w1 ⟨rfl, rfl⟩
         go_wp2_with fail
         refine (Tryz.slices_Max_int _ _ n _ p _ (by omega) (by rw [HLN.out]; omega) (by omega) HC2.out).mono ?_
         rw [HMX.out]
         rintro e w1 ⟨rfl, rfl⟩
         go_wp2_with fail
         go_round
         case rel => exact ⟨k + 1, by omega, by go_num, E.out⟩
         case measure => simp [intOf]; omega
        ·have E := Lib.hid (show false = q by
          rw [← HQ.out]
          refine (par_no hlt ?_).symm
          rw [HP.out]
          cases hB : partB p with
          | false => rfl
          | true =>
            exfalso
            unfold partB at hB
            simp only [Bool.and_eq_true] at hB
            have := (HM.out.1 hB.2).2
            have e2 := HMX.out
            rw [HT.out] at e2
            omega)
         go_wp2_with fail
         refine (Tryz.slices_Min_int _ _ n _ p _ (by omega) (by rw [HLN.out]; omega) (by omega) HC2.out).mono ?_
         rw [HMN.out]
         rintro e w1 ⟨rfl, rfl⟩
         go_wp2_with fail
         refine (Tryz.slices_Max_int _ _ n _ p _ (by omega) (by rw [HLN.out]; omega) (by omega) HC2.out).mono ?_
         rw [HMX.out]
         rintro e w1 ⟨rfl, rfl⟩
         go_wp2_with fail
         go_ret
         exact ⟨ret_b E.out, rfl⟩
       ·have E := Lib.hid (show false = q by
         rw [← HQ.out]
         refine (par_no hlt ?_).symm
         rw [HP.out]
         cases hB : partB p with
         | false => rfl
         | true =>
           exfalso
           unfold partB at hB
           simp only [Bool.and_eq_true] at hB
           have := (HM.out.1 hB.2).1
           have e2 := HMN.out
           rw [HT.out] at e2
           omega)
        go_wp2_with fail
        refine (Tryz.slices_Min_int _ _ n _ p _ (by omega) (by rw [HLN.out]; omega) (by omega) HC2.out).mono ?_
        rw [HMN.out]
        rintro e w1 ⟨rfl, rfl⟩
        go_wp2_with fail
        go_ret
        exact ⟨ret_b E.out, rfl⟩
      ·have E := Lib.hid (show false = q by
        rw [← HQ.out]
        refine (par_no hlt ?_).symm
        rw [HP.out]
        exact part_len (by rw [HLN.out]; exact hs))
       by_cases n1 : n < 1
       ·clear hs
        go_wp2_with fail
        go_ret
        exact ⟨ret_b E.out, rfl⟩
       ·have n8 : 8 < n := by omega
        clear hs
        go_wp2_with fail
        go_ret
        exact ⟨ret_b E.out, rfl⟩
     ·have E := Lib.hid (show true = q by
       have := HA.out
       rw [List.take_of_length_le (by omega)] at this
       rw [← HQ.out]
       exact (parOk_yes (by omega) HNE.out this).symm)
      go_wp2_with fail
      go_ret
      exact ⟨ret_b E.out, rfl⟩
def ctl (r : Int) : Bool := decide (r < 32) || decide (127 ≤ r) && decide (r ≤ 159)
theorem clean_any (ks : List Int) : cleanP ks = !(ks.any ctl) := by
 unfold cleanP
 rw [List.not_any_eq_all_not]
 rfl
theorem clean_long {l : List UInt8} (h : 32 < l.length) : cleanL l = false := by
 unfold cleanL
 cases ho : allL l with
 | none => rfl
 | some ks =>
   obtain ⟨_, h2⟩ := text_all_n l.length l (Nat.le_refl _) ks ho
   have h3 := catL_length ks
   rw [h2] at h3
   show (decide (ks.length ≤ 8) && cleanP ks) = false
   rw [decide_eq_false (by omega), Bool.false_and]
set_option maxRecDepth 100000 in
set_option maxHeartbeats 4000000 in
theorem ctl_any (r : Int) (w : World) : Calls Tryz.prog 130 #[.int .i64 r] w fun e w' => e = .returned (.bool (ctl r)) ∧ Below w.heap.size w w' := by
 obtain ⟨R, hR⟩ : ∃ R, ctl r = R := ⟨_, rfl⟩
 rw [hR]
 have HC := Lib.hid hR
 clear hR
 by_cases h1 : r < 32
 ·have HF := Lib.hid (show true = R by rw [← HC.out]; simp [ctl, h1])
  go_enter Tryz.func130, Tryz.ntmps130
  go_wp2_with fail
  go_ret
  exact ⟨ret_b HF.out, Below.refl _ _⟩
 ·by_cases h2 : 127 ≤ r
  ·by_cases h3 : r ≤ 159
   ·have HF := Lib.hid (show true = R by rw [← HC.out]; simp [ctl, h1, h2, h3])
    go_enter Tryz.func130, Tryz.ntmps130
    go_wp2_with fail
    go_ret
    exact ⟨ret_b HF.out, Below.refl _ _⟩
   ·have HF := Lib.hid (show false = R by rw [← HC.out]; simp [ctl, h1, h3])
    go_enter Tryz.func130, Tryz.ntmps130
    go_wp2_with fail
    go_ret
    exact ⟨ret_b HF.out, Below.refl _ _⟩
  ·have HF := Lib.hid (show false = R by rw [← HC.out]; simp [ctl, h1, h2])
   go_enter Tryz.func130, Tryz.ntmps130
   go_wp2_with fail
   go_ret
   exact ⟨ret_b HF.out, Below.refl _ _⟩
set_option maxRecDepth 100000 in
set_option maxHeartbeats 4000000 in
theorem idxf_any (A : Option Addr) (c : Nat) (l : List Int) (w : World) (hl : l.length ≤ 4294967296) (hr : Rd w A (is_ l)) :
 Calls Tryz.prog 144 #[.slice A l.length c, .func (.func 130) #[] #[]] w fun e w' => (∃ i : Int, e = .returned (.int .i64 i) ∧ decide (0 ≤ i) = l.any ctl ∧ -1 ≤ i ∧ i ≤ 4294967296) ∧ Below w.heap.size w w' := by
 obtain ⟨n, hn⟩ : ∃ n, l.length = n := ⟨_, rfl⟩
 have HN := Lib.hid hn
 rw [hn] at hl ⊢
 clear hn
 go_enter Tryz.func144, Tryz.ntmps144
 go_wp2
 go_loopw [5, 8] (fun _ z wr => ∃ i : Nat, i ≤ n ∧ z = .int .i64 i ∧ (l.take i).any ctl = false ∧ Below w.heap.size w wr) (fun _ z _ => n - (intOf z).toNat)
 case atStart => exact ⟨0, Nat.zero_le _, rfl, rfl, Below.refl _ _⟩
 case round =>
  obtain ⟨i, hi, rfl, hcl, hbw⟩ := hrel
  have HCL := Lib.hid hcl
  clear hcl
  by_cases hlt : i < n
  ·have hil : i < l.length := by rw [HN.out]; exact hlt
   obtain ⟨b, o, rfl, hbl, hcc⟩ := (hr.below hbw).int_at (by omega)
   have hci := hcc i hil
   have HS := Lib.hid (List.take_succ_eq_append_getElem hil)
   have HM := Lib.hid (List.getElem_mem hil)
   obtain ⟨x, hx⟩ : ∃ x, l[i]'hil = x := ⟨_, rfl⟩
   rw [hx] at hci HS HM
   have g0 : (0 : Int) ≤ (i : Int) := by omega
   have g1 : (i : Int) < (n : Int) := by omega
   clear hcc hx
   obtain ⟨q, hq⟩ : ∃ q, ctl x = q := ⟨_, rfl⟩
   have hcall : ∀ W : World, Calls Tryz.prog 130 #[.int .i64 x] W fun e w' => e = .returned (.bool q) ∧ Below W.heap.size W w' := fun W => by rw [← hq]; exact ctl_any x W
   have HQ := Lib.hid hq
   clear hq
   go_wp2_with fail
   refine (hcall _).mono ?_
   rintro e w2 ⟨rfl, hb2⟩
   have hB2 := hbw.trans (hb2.mono hbw.size)
   clear hcall hb2
   cases q with
   | true =>
     go_wp2_with fail
     go_ret
     refine ⟨⟨_, rfl, ?_, by omega, by omega⟩, hB2⟩
     rw [decide_eq_true g0]
     exact (List.any_eq_true.2 ⟨x, HM.out, HQ.out⟩).symm
   | false =>
     go_wp2_with fail
     go_roundw
     case rel => exact ⟨i + 1, by omega, by go_num, by rw [HS.out, List.any_append, HCL.out]; simp [HQ.out], hB2⟩
     case measure => simp [intOf]; omega
  ·have HE := Lib.hid (show l.any ctl = false by
    have h1 := HCL.out
    have h2 := HN.out
    rwa [List.take_of_length_le (by omega)] at h1)
   go_wp2_with fail
   go_ret
   exact ⟨⟨_, rfl, by rw [HE.out]; rfl, by decide, by decide⟩, hbw⟩
theorem has_any (A : Option Addr) (n c : Nat) (l : List Int) (hn : l.length = n) (q : Bool) (hq : l.any ctl = q) (w : World) (hl : n ≤ 4294967296) (hr : Rd w A (is_ l)) :
 Calls Tryz.prog 131 #[.slice A n c, .func (.func 130) #[] #[]] w fun e w' => e = .returned (.bool q) ∧ Below w.heap.size w w' := by
 have hcall := idxf_any A c l w (by omega) hr
 rw [hn, hq] at hcall
 clear hq hn
 go_enter Tryz.func131, Tryz.ntmps131
 go_wp2_with fail
 refine hcall.mono ?_
 clear hcall
 rintro e w1 ⟨⟨i, rfl, hd, h1, h2⟩, hb1⟩
 have HD := Lib.hid hd
 clear hd
 go_wp2_with fail
 go_ret
 exact ⟨ret_b HD.out, hb1⟩
set_option maxRecDepth 100000 in
set_option maxHeartbeats 8000000 in
theorem pkeytext_any (s : ByteArray) (hs : s.size ≤ 4294967296) (w : World) (hz : Siz w) : Calls Tryz.prog 101 #[.string s] w fun e w' => e = .returned (.bool (cleanB s)) ∧ Below w.heap.size w w' := by
 have hms : s.size ≤ maxLen := by simp only [maxLen]; omega
 have hlen : s.data.toList.length = s.size := Array.length_toList
 obtain ⟨R, hR⟩ : ∃ R, cleanB s = R := ⟨_, rfl⟩
 by_cases h32 : 32 < s.size
 ·have HF := Lib.hid (show false = R by rw [← hR]; exact (clean_long (by omega)).symm)
  rw [hR]
  have t1 : decide (32 < (s.size : Int)) = true := decide_eq_true (by omega)
  clear hR hlen
  go_enter Tryz.func101, Tryz.ntmps101
  go_wp2_with fail
  go_ret
  exact ⟨ret_b HF.out, Below.refl _ _⟩
 obtain ⟨o, ho⟩ : ∃ o, allL s.data.toList = o := ⟨_, rfl⟩
 have HC := Lib.hid (show cleanO o = R by rw [← hR, ← ho]; rfl)
 obtain ⟨l, hl⟩ : ∃ l, s.data.toList = l := ⟨_, rfl⟩
 rw [hl] at hlen ho
 have HL := Lib.hid hl
 have HO := Lib.hid ho
 have HLN := Lib.hid hlen
 rw [hR]
 have HSZ := Lib.hid hs
 have t1 : decide (32 < (s.size : Int)) = false := decide_eq_false (by omega)
 clear hR hl ho hlen hs h32
 go_enter Tryz.func101, Tryz.ntmps101
 go_wp2_with (first
  | ((with_reducible refine list_conv _ rfl (.tmp 10) 9 27 rfl w.heap.size 5 s ?_ Tryz.underlying9 Tryz.underlying27 Tryz.underlying5 hms (Nat.le_refl _) ?_); rfl; intro v1 w1 own1 hg1; obtain ⟨A1, c1, rfl, hr1⟩ := own1.form; have hc1 := own1.capT; have hB1 := below_none hg1; clear hg1))
 rw [HL.out] at hr1
 have hall := all_any A1 c1 l w1 (hz.below' hB1) (by rw [HLN.out]; exact HSZ.out) (by rw [HLN.out]; exact hc1) hr1
 rw [HLN.out, HO.out] at hall
 refine hall.mono ?_
 clear hall hr1 own1
 intro e w2 hA
 cases o with
 | none =>
   obtain ⟨rfl, hb2⟩ := hA
   have hB2 := hB1.trans (hb2.mono hB1.size)
   have HCF := Lib.hid (show false = R from HC.out)
   go_wp2_with fail
   go_ret
   exact ⟨ret_b HCF.out, hB2⟩
 | some ks =>
   have HCT := Lib.hid (show (decide (ks.length ≤ 8) && cleanP ks) = R from HC.out)
   clear HC
   obtain ⟨A2, c2, rfl, hr2, hb2⟩ := hA
   have hB2 := hB1.trans (hb2.mono hB1.size)
   clear hB1 hb2
   by_cases h8 : 8 < ks.length
   ·have t2 : decide ((ks.length : Int) ≤ 8) = false := decide_eq_false (by omega)
    have HE := Lib.hid (show decide (ks.length ≤ 8) = false from decide_eq_false (by omega))
    go_wp2_with fail
    go_ret
    exact ⟨ret_b (by rw [← HCT.out, HE.out]; rfl), hB2⟩
   ·have t2 : decide ((ks.length : Int) ≤ 8) = true := decide_eq_true (by omega)
    have HE := Lib.hid (show decide (ks.length ≤ 8) = true from decide_eq_true (by omega))
    obtain ⟨q, hq⟩ : ∃ q, ks.any ctl = q := ⟨_, rfl⟩
    have HQ := Lib.hid (show (!q) = R by rw [← HCT.out, HE.out, Bool.true_and, clean_any, hq])
    have hcall := has_any A2 ks.length c2 ks rfl q hq w2 (by omega) hr2
    obtain ⟨n, hn⟩ : ∃ n, ks.length = n := ⟨_, rfl⟩
    rw [hn] at t2 hcall ⊢
    clear hn h8 hq HE
    go_wp2_with fail
    refine hcall.mono ?_
    clear hcall
    rintro e w3 ⟨rfl, hb3⟩
    have hB3 := hB2.trans (hb3.mono hB2.size)
    cases q with
    | true =>
      have HF := Lib.hid (show false = R from HQ.out)
      go_wp2_with fail
      go_ret
      exact ⟨ret_b HF.out, hB3⟩
    | false =>
      have HF := Lib.hid (show true = R from HQ.out)
      go_wp2_with fail
      go_ret
      exact ⟨ret_b HF.out, hB3⟩
theorem in_lit11 {c : Int} (h : (decide (-9223372036854775808 ≤ c) && decide (c ≤ 9223372036854775807)) = true) : in10 c := by
 simpa [in10] using h
end Go.Proofs.YtceipblcdcgljaaGreatDoor
