/-
  A block that is written whole, and read whole. Numbers in figures, walked: the program's Text and Take. (For layers that don't load layer 1's own texts.)
  Cut out of FigT.
-/
import Derived.Test.YthcafgningpdnaaDoorG01
import Derived.Test.YthcafgningpdnaaDoorG07
import Derived.Test.YthcafgningpdnaaDoorG15
import Derived.Deep.MidRow
import Derived.Test.YthcafgningpdnaaDoorShelf
import Derived.Deep.QuietTactic
import Derived.BigQuiet
import Derived.Lib.AppendIntMem
namespace Go.Proofs.YthcafgningpdnaaDoor
open Go.RowKit
section
section
variable {w w' : World} {g : Nat} {t : TypeId} {cs ds : Array Value}
theorem Blk.there (h : Blk w g t cs) : w.there g 0 cs.size := fun j hj => by
 rw [Nat.zero_add]
 exact ⟨by rw [h.cell j]; simp [hj], h.frozen j⟩
theorem Blk.range (h : Blk w g t cs) : w.rangeAt g 0 cs.toList := fun j v hv => by
 rw [Nat.zero_add, h.cell j]
 simpa using hv
theorem setCells_blk {g : Nat} {t : TypeId} : ∀ (vs pre old : List Value) (w : World), old.length = vs.length → Blk w g t (pre ++ old).toArray → Blk (w.setCells g pre.length vs) g t (pre ++ vs).toArray
 | [], pre, old, w, hl, h => by
   rw [List.length_eq_zero_iff.1 hl] at h
   exact h
 | v :: vs, pre, u :: old, w, hl, h => by
   have h1 : Blk (w.setCell ⟨g, pre.length, none⟩ v) g t ((pre ++ [v]) ++ old).toArray := by
    have h2 := h.set pre.length v
    have e : (pre ++ u :: old).toArray.setIfInBounds pre.length v = ((pre ++ [v]) ++ old).toArray := by
     rw [List.setIfInBounds_toArray, List.set_append_right _ _ (Nat.le_refl _), Nat.sub_self, List.set_cons_zero, List.append_assoc]
     rfl
    rwa [e] at h2
   have h3 := setCells_blk vs (pre ++ [v]) old _ (by simpa using hl) h1
   rw [List.length_append, List.append_assoc] at h3
   exact h3
theorem Blk.setAll (h : Blk w g t cs) (hs : ds.size = cs.size) : Blk (w.setCells g 0 ds.toList) g t ds := by
 obtain ⟨l⟩ := cs
 obtain ⟨m⟩ := ds
 have := setCells_blk (g := g) (t := t) m [] l w (by simpa using hs.symm) h
 exact this
theorem Blk.wp_set {P : Program} {ops : Array Oper} {rest : List Oper} {op : Oper} {a : Act} {Q : Exit → Act → World → Prop} (h : Blk w g t cs) (ds : Array Value) (hs : ds.size = cs.size) (hi : (P.info? t).map (·.size) = some cs.size) (h1 : ds.toList.all (·.oneCell') = true)
 (hgd : op.guard = none) (x y : Operand) (ho : op.op = .store t x y) (hx : a.eval x = .pointer (some ⟨g, 0, none⟩)) (hy : a.eval y = .agg ds)
 (hK : ∀ w', Blk w' g t ds → w.grownBy w' (some g) → wpList P ops Q rest (a.put op.dst undef) w') : wpList P ops Q (op :: rest) a w :=
 wpList_store_mid hgd t x y ho g 0 ds hx hy (by rw [hs]; exact h.there) (by rw [hi, hs]) (by rw [← Array.all_toList]; exact h1) (hK _ (h.setAll hs) (grown_setCells g _ 0 w))
end
end
set_option maxHeartbeats 400000 in
theorem text_any (n : Int) (w : World) (h0 : -9223372036854775808 ≤ n) (h1 : n ≤ 9223372036854775807) (htab : Lib.TabIs Tryd.prog w "internal/strconv.uint64pow10" .u64 Lib.pow10Tab) :
 Calls Tryd.prog 31 #[.int .i64 n] w fun e w' => e = .returned (.string ⟨(textL n).toArray⟩) ∧ Below w.heap.size w w' := by
 by_cases hn : n < 0
 ·have HE := Lib.hid (show textL n = [] from if_pos hn)
  go_enter Tryd.func31, Tryd.ntmps31
  go_wp2
  go_ret
  exact ⟨ret_s HE.out.symm, Below.refl _ _⟩
 ·have HE := Lib.hid (show textL n = Lib.itoa n by unfold textL Lib.itoa; rw [if_neg hn, if_neg hn])
  go_enter Tryd.func31, Tryd.ntmps31
  go_wp2_with (go_at_call 41; refine (Tryd.strconv_Itoa n h0 h1 w htab).mono ?_; rintro e w' ⟨rfl, k, os, rfl⟩)
  go_ret
  exact ⟨ret_s HE.out.symm, below_grow (below_drewN (Below.refl _ _) k) (by simp) os⟩
def Tab (w : World) : Prop := Lib.TabIs Tryd.prog w "internal/strconv.uint64pow10" .u64 Lib.pow10Tab
theorem Tab.below {w w' : World} (h : Tab w) (hb : Below w.heap.size w w') : Tab w' := Lib.tabBelow_of_tabIs h w' hb
end Go.Proofs.YthcafgningpdnaaDoor
