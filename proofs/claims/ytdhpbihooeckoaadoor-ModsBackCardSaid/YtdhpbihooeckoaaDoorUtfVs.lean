/-
  Layer 2: what the callers of the iterator share.
-/
import Derived.Test.YtdhpbihooeckoaaDoorUtfI
namespace Go.Proofs.YtdhpbihooeckoaaDoor
open Go.RowKit Go.Shelf
attribute [local go_sem] Oper.semAt_some

theorem kp2_t {n₁ B : Nat} {X Y Z : World} (h : Kp2 n₁ B X Y) (k : Kp2 n₁ B Y Z) : Kp2 n₁ B X Z := ⟨h.1.trans k.1, k.2.trans h.2⟩
theorem kp2_b {n₁ B : Nat} {w : World} (hn : n₁ ≤ w.heap.size) (hB : B < w.heap.size) (W : World) (l : Nat) (o o' : Obj) (hl : w.heap.size ≤ l) (h : W.heap[l]? = some o) (hc : o.isCells = false) (hw : o.isWalk = false) : Kp2 n₁ B W (W.putObj l o') :=
  ⟨belowK_b hn W l o o' hl h hc hw, World.putObj_heap_other (by omega)⟩
theorem kp2_refl (n₁ B : Nat) (w : World) : Kp2 n₁ B w w := ⟨Below.refl _ _, rfl⟩

/-- What points tells is told to every loop. -/
theorem pts_stops (n : Nat) (hn : 1 ≤ n) (Bs n₁ c : Nat) (A : Option Addr) (t : List UInt8) (ht : t.length ≤ 4294967296) (htc : t.length ≤ c) (hg0 : 1 < n₁) (w : World) (hn₁ : n₁ ≤ w.heap.size)
    (hbox : Blk w Bs 48 #[.slice A t.length c]) (hs : Siz w) (hr : RdIn n₁ w A (bs t)) :
    SeqStopsK Fence.wide n Tryd.prog 49 #[.pointer (some ⟨Bs, 0, none⟩)] (fun x : Int × Bool => #[.int .i64 x.1, .bool x.2]) (Kp2 n₁ Bs) (fun ys => ys = ptsL t) (fun pre => pre <+: ptsL t) (ptsL t).length w := fun l J Jx W hW hJ _ hY h0 =>
  pts1_in n hn l Bs n₁ W.heap.size c A t ht htc hg0 J Jx hJ hY W (hbox.below hW hbox.lt) (hs.below' hW) (hr.below (hW.mono hn₁)) (Nat.le_trans hn₁ hW.size) h0

theorem all_false {p q : List (Int × Bool)} (h : p <+: q) {y : Int × Bool} (hy : y ∈ p) (h2 : y.2 = false) : q.all (·.2) = false := by
  rw [List.all_eq_false]
  exact ⟨y, h.subset hy, by simp [h2]⟩
theorem allL_none {t : List UInt8} (h : (ptsL t).all (·.2) = false) : allL t = none := by unfold allL allOf; rw [h]; rfl
theorem allL_some {t : List UInt8} (h : ∀ y ∈ ptsL t, y.2 = true) : allL t = some ((ptsL t).map (·.1)) := by
  unfold allL allOf
  rw [if_pos (List.all_eq_true.2 h)]
end Go.Proofs.YtdhpbihooeckoaaDoor
