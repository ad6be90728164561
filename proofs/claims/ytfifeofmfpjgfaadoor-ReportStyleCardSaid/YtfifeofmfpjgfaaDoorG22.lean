/-
  Stage 18, the landed style, walked: Params.
-/
import Derived.Test.YtfifeofmfpjgfaaDoorG20
import Derived.Test.YtfifeofmfpjgfaaDoorG21
import Derived.Deep.RegionHeld3
import Derived.Deep.Cut
namespace Go.Proofs.YtfifeofmfpjgfaaDoor
open Go.RowKit Go.Maps
theorem mark_none0 : isMark 0 = false := by decide
theorem mark_none4 : isMark 4 = false := by decide
theorem mark_none6 : isMark 6 = false := by decide
def accY (s : Sy) : Nat → List (List Int)
 | 0 => [[0]]
 | i + 1 => accY s i ++ (match i with | 1 => oneY s.bold 1 | 2 => oneY s.faint 2 | 3 => oneY s.italic 3 | 4 => underY s.under | 5 => oneY s.blink 5 | 7 => oneY s.inverse 7 | 8 => oneY s.hidden 8 | 9 => oneY s.strike 9 | _ => [])
theorem acc_10 (s : Sy) : accY s 10 = [[0]] ++ oneY s.bold 1 ++ oneY s.faint 2 ++ oneY s.italic 3 ++ underY s.under ++ oneY s.blink 5 ++ oneY s.inverse 7 ++ oneY s.hidden 8 ++ oneY s.strike 9 := by
 simp [accY]
theorem one_le (b : Bool) (n : Int) : (oneY b n).length ≤ 1 := by unfold oneY; split <;> simp
theorem under_le (u : Int) : (underY u).length ≤ 1 := by unfold underY; split <;> (try split) <;> simp
theorem tint_le (n b : Int) : (tintY n b).length ≤ 1 := by unfold tintY; split <;> (try split) <;> (try split) <;> (try split) <;> simp
theorem acc_le (s : Sy) : ∀ i, (accY s i).length ≤ i + 1
 | 0 => by simp [accY]
 | i + 1 => by
   have ih := acc_le s i
   have : ∀ l : List (List Int), l.length ≤ 1 → (accY s i ++ l).length ≤ i + 2 := fun l hl => by rw [List.length_append]; omega
   unfold accY
   split <;> apply this <;> first | exact one_le _ _ | exact under_le _ | simp
set_option maxRecDepth 100000 in
set_option maxHeartbeats 16000000 in
theorem sParams_any (s : Sy) (hin : okSy s) (w : World) : Calls Tryd.prog 54 #[syV s] w fun e w' => ∃ v n, e = .returned v ∧ RwP w' w.heap.size v n (parY s) ∧ Below w.heap.size w w' := by
 obtain ⟨s0, s1, s2, s3, s4, s5, s6, u, x, y⟩ := s
 obtain ⟨q, hq⟩ : ∃ q, mayY ⟨s0, s1, s2, s3, s4, s5, s6, u, x, y⟩ = q := ⟨_, rfl⟩
 have HM : Hid (∀ W, Calls Tryd.prog 51 #[syV ⟨s0, s1, s2, s3, s4, s5, s6, u, x, y⟩] W fun e w' => e = .returned (.bool q) ∧ Below W.heap.size W w') := Lib.hid fun W => smay_any _ q hq W
 obtain ⟨g, hg⟩ : ∃ g, w.heap.size = g := ⟨_, rfl⟩
 have kB := Blk.new w 23 (syC ⟨s0, s1, s2, s3, s4, s5, s6, u, x, y⟩)
 have HB := (Below.refl w.heap.size w).alloc (Nat.le_refl _) (.cells (syC ⟨s0, s1, s2, s3, s4, s5, s6, u, x, y⟩) 23)
 unfold syV syC at *
 simp only at *
 cases q with
 | false =>
   have HP := Lib.hid (show parY ⟨s0, s1, s2, s3, s4, s5, s6, u, x, y⟩ = [] from if_neg (by rw [hq]; decide))
   clear hq hg hin
   obtain ⟨a0, a1, a2, a3, a4, a5, a6, a7, a8, a9⟩ := Blk.cells10y (s := ⟨s0, s1, s2, s3, s4, s5, s6, u, x, y⟩) kB
   go_enter Tryd.func54, Tryd.ntmps54
   go_wp2_with fail
   refine (HM.out _).mono ?_
   rintro e w1 ⟨rfl, hb1⟩
   go_wp2_with fail
   go_ret
   refine ⟨_, 0, rfl, ?_, HB.trans (hb1.mono HB.size)⟩
   rw [HP.out]
   exact RwP.nil _ _
 | true =>
   have HP := Lib.hid (show parY ⟨s0, s1, s2, s3, s4, s5, s6, u, x, y⟩ = accY ⟨s0, s1, s2, s3, s4, s5, s6, u, x, y⟩ 10 ++ tintY x 30 ++ tintY y 40 by rw [acc_10]; exact if_pos hq)
   obtain ⟨⟨⟨u0, u5⟩, hx⟩, hy⟩ : ((0 ≤ u ∧ u ≤ 5) ∧ (-1 ≤ x ∧ x < 16777472)) ∧ (-1 ≤ y ∧ y < 16777472) := by simpa [mayY, colY] using hq
   have HU := Lib.hid u0
   have HX := Lib.hid hx
   have HY := Lib.hid hy
   clear hq u0 u5 hx hy hin
   obtain ⟨a0, a1, a2, a3, a4, a5, a6, a7, a8, a9⟩ := Blk.cells10y (s := ⟨s0, s1, s2, s3, s4, s5, s6, u, x, y⟩) kB
   go_enter Tryd.func54, Tryd.ntmps54
   go_wp2_with fail
   refine (HM.out _).mono ?_
   rintro e w1 ⟨rfl, hb1⟩
   have hB1 := HB.trans (hb1.mono HB.size)
   have k1 := kB.below hb1 kB.lt
   clear a0 a1 a2 a3 a4 a5 a6 a7 a8 a9 kB HB hb1 HM
   have hBl := hB1.alloc hB1.size (.cells #[.int .i64 0] 3)
   have kl := k1.alloc (.cells #[.int .i64 0] 3)
   have hR : RowI (w1.alloc (.cells #[.int .i64 0] 3)) (w1.alloc (.cells #[.int .i64 0] 3)).heap.size 3 (some ⟨w1.heap.size, 0, none⟩) [0] := row_lit w1 [0]
   go_wp2_with fail
   refine (swith_any w.heap.size (.slice none 0 0) 0 [] _ 1 _ [0] rfl (Nat.le_refl _) _ (by omega) hBl.size (RwP.nil _ _) hR).mono ?_
   rintro e w2 ⟨v2, rfl, hP2, hb2, hg2⟩
   have hB2 := hBl.trans hb2
   have k2 := (hg2.block _ kl.lt (by simp [Value.ownBlock])).trans kl
   clear hBl kl hR hb2 hg2 k1 hB1
   have HV2 : ∃ A c, v2 = .slice A (0 + 1) c := by obtain ⟨A, c, e, _⟩ := hP2.rdp; exact ⟨A, c, e⟩
   obtain ⟨Av, cv, rfl⟩ := HV2
   go_wp2_with fail
   rw [hg] at k2 hP2
   refine (smarks_any _ _).mono ?_
   rintro e w3 ⟨b, nm, rfl, hbl, hom, hb3⟩
   have hB3 := hB2.trans (hb3.mono hB2.size)
   have hP3 := hP2.below hb3
   have k3 : Blk w3 g 23 #[.bool s0, .bool s1, .bool s2, .bool s3, .bool s4, .bool s5, .bool s6, .int .i64 u, .int .i64 x, .int .i64 y] := Blk.below k2 hb3 (Blk.lt k2)
   have HG := Lib.hid hg
   clear k2 hP2 hbl hb3 hB2
   go_wp2_with fail
   go_loopw [3, 14] (fun y' z wr => ∃ (i m : Nat), i ≤ 10 ∧ z = .int .i64 i ∧ (∃ A c, y' = .slice A m c) ∧ RwP wr g y' m (accY ⟨s0, s1, s2, s3, s4, s5, s6, u, x, y⟩ i) ∧ Blk wr g 23 #[.bool s0, .bool s1, .bool s2, .bool s3, .bool s4, .bool s5, .bool s6, .int .i64 u, .int .i64 x, .int .i64 y] ∧ wr.ownsMap Tryd.prog 3 hel b nm (.map (markL g)) ∧ Below w.heap.size w wr) (fun _ z _ => 10 - (intOf z).toNat)
   case atStart => exact ⟨0, 0 + 1, by omega, rfl, ⟨_, _, rfl⟩, hP3, k3, hom, hB3⟩
   case round =>
    obtain ⟨i, m, hi, rfl, ⟨Av, cv, rfl⟩, hP, k1, hm, hbw⟩ := hrel
    clear hP3 k3 hom hB3
    have hlen : m ≤ 1000 := by have := hP.len; have := acc_le ⟨s0, s1, s2, s3, s4, s5, s6, u, x, y⟩ i; omega
    have hgs : g ≤ wr.heap.size := by have := hbw.size; have := HG.out; omega
    by_cases hlt : i < 10
    ·have hcs : i = 0 ∨ i = 1 ∨ i = 2 ∨ i = 3 ∨ i = 4 ∨ i = 5 ∨ i = 6 ∨ i = 7 ∨ i = 8 ∨ i = 9 := by omega
     clear hlt hi
     rcases hcs with rfl | rfl | rfl | rfl | rfl | rfl | rfl | rfl | rfl | rfl
     ·have hlook := look18 hm (n := 0) ⟨by decide, by decide⟩ (mark_no g (mark_none0)).1 (mark_no g (mark_none0)).2
      go_wp2_with fail
      go_roundw
      case rel => exact ⟨1, m, by omega, by go_num, ⟨_, _, rfl⟩, by show RwP _ _ _ _ (_ ++ []); rw [List.append_nil]; exact hP, k1, hm, hbw⟩
      case measure => simp [intOf]
     ·have hlook := look18 hm (n := 1) ⟨by decide, by decide⟩ (mark_1 g).1 (mark_1 g).2
      unfold pB at hlook
      have ci : wr.cell? ⟨g, 0, none⟩ = some (.bool s0) := k1.cell 0
      cases s0 with
      | false =>
        go_wp2_with fail
        go_roundw
        case rel => exact ⟨2, m, by omega, by go_num, ⟨_, _, rfl⟩, by show RwP _ _ _ _ (_ ++ []); rw [List.append_nil]; exact hP, k1, hm, hbw⟩
        case measure => simp [intOf]
      | true =>
        have hba : Below wr.heap.size wr (wr.alloc (.cells #[.int .i64 1] 3)) := (Below.refl _ wr).alloc (Nat.le_refl _) _
        have hbl := hbw.alloc hbw.size (.cells #[.int .i64 1] 3)
        have kl := k1.alloc (.cells #[.int .i64 1] 3)
        have ml := hm.alloc (.cells #[.int .i64 1] 3)
        have pl := hP.below hba
        have hR : RowI (wr.alloc (.cells #[.int .i64 1] 3)) (wr.alloc (.cells #[.int .i64 1] 3)).heap.size 3 (some ⟨wr.heap.size, 0, none⟩) [1] := row_lit wr [1]
        have hsl := Nat.le_trans hgs hba.size
        clear hP k1 hm
        go_wp2_with fail
        refine (swith_any g _ m _ _ 1 _ [1] rfl (Nat.le_refl _) _ hlen hsl pl hR).mono ?_
        rintro e w4 ⟨v4, rfl, hP4, hb4, hg4⟩
        have k4 := kl.grown hg4 (pl.off_blk kl (by decide))
        have hm4 := ml.kept hg4 (pl.off_map ml)
        have hB4 := hbl.trans (hb4.mono (Nat.le_of_eq HG.out))
        obtain ⟨A4, c4, rfl, _⟩ := hP4.rdp
        clear pl kl ml hbw hbl hba hb4 hg4 hlook ci hR hsl
        go_wp2_with fail
        go_roundw
        case rel => exact ⟨2, _, by omega, by go_num, ⟨_, _, rfl⟩, hP4, k4, hm4, hB4⟩
        case measure => simp [intOf]
     ·have hlook := look18 hm (n := 2) ⟨by decide, by decide⟩ (mark_2 g).1 (mark_2 g).2
      unfold pB at hlook
      have ci : wr.cell? ⟨g, 1, none⟩ = some (.bool s1) := k1.cell 1
      cases s1 with
      | false =>
        go_wp2_with fail
        go_roundw
        case rel => exact ⟨3, m, by omega, by go_num, ⟨_, _, rfl⟩, by show RwP _ _ _ _ (_ ++ []); rw [List.append_nil]; exact hP, k1, hm, hbw⟩
        case measure => simp [intOf]
      | true =>
        have hba : Below wr.heap.size wr (wr.alloc (.cells #[.int .i64 2] 3)) := (Below.refl _ wr).alloc (Nat.le_refl _) _
        have hbl := hbw.alloc hbw.size (.cells #[.int .i64 2] 3)
        have kl := k1.alloc (.cells #[.int .i64 2] 3)
        have ml := hm.alloc (.cells #[.int .i64 2] 3)
        have pl := hP.below hba
        have hR : RowI (wr.alloc (.cells #[.int .i64 2] 3)) (wr.alloc (.cells #[.int .i64 2] 3)).heap.size 3 (some ⟨wr.heap.size, 0, none⟩) [2] := row_lit wr [2]
        have hsl := Nat.le_trans hgs hba.size
        clear hP k1 hm
        go_wp2_with fail
        refine (swith_any g _ m _ _ 1 _ [2] rfl (Nat.le_refl _) _ hlen hsl pl hR).mono ?_
        rintro e w4 ⟨v4, rfl, hP4, hb4, hg4⟩
        have k4 := kl.grown hg4 (pl.off_blk kl (by decide))
        have hm4 := ml.kept hg4 (pl.off_map ml)
        have hB4 := hbl.trans (hb4.mono (Nat.le_of_eq HG.out))
        obtain ⟨A4, c4, rfl, _⟩ := hP4.rdp
        clear pl kl ml hbw hbl hba hb4 hg4 hlook ci hR hsl
        go_wp2_with fail
        go_roundw
        case rel => exact ⟨3, _, by omega, by go_num, ⟨_, _, rfl⟩, hP4, k4, hm4, hB4⟩
        case measure => simp [intOf]
     ·have hlook := look18 hm (n := 3) ⟨by decide, by decide⟩ (mark_3 g).1 (mark_3 g).2
      unfold pB at hlook
      have ci : wr.cell? ⟨g, 2, none⟩ = some (.bool s2) := k1.cell 2
      cases s2 with
      | false =>
        go_wp2_with fail
        go_roundw
        case rel => exact ⟨4, m, by omega, by go_num, ⟨_, _, rfl⟩, by show RwP _ _ _ _ (_ ++ []); rw [List.append_nil]; exact hP, k1, hm, hbw⟩
        case measure => simp [intOf]
      | true =>
        have hba : Below wr.heap.size wr (wr.alloc (.cells #[.int .i64 3] 3)) := (Below.refl _ wr).alloc (Nat.le_refl _) _
        have hbl := hbw.alloc hbw.size (.cells #[.int .i64 3] 3)
        have kl := k1.alloc (.cells #[.int .i64 3] 3)
        have ml := hm.alloc (.cells #[.int .i64 3] 3)
        have pl := hP.below hba
        have hR : RowI (wr.alloc (.cells #[.int .i64 3] 3)) (wr.alloc (.cells #[.int .i64 3] 3)).heap.size 3 (some ⟨wr.heap.size, 0, none⟩) [3] := row_lit wr [3]
        have hsl := Nat.le_trans hgs hba.size
        clear hP k1 hm
        go_wp2_with fail
        refine (swith_any g _ m _ _ 1 _ [3] rfl (Nat.le_refl _) _ hlen hsl pl hR).mono ?_
        rintro e w4 ⟨v4, rfl, hP4, hb4, hg4⟩
        have k4 := kl.grown hg4 (pl.off_blk kl (by decide))
        have hm4 := ml.kept hg4 (pl.off_map ml)
        have hB4 := hbl.trans (hb4.mono (Nat.le_of_eq HG.out))
        obtain ⟨A4, c4, rfl, _⟩ := hP4.rdp
        clear pl kl ml hbw hbl hba hb4 hg4 hlook ci hR hsl
        go_wp2_with fail
        go_roundw
        case rel => exact ⟨4, _, by omega, by go_num, ⟨_, _, rfl⟩, hP4, k4, hm4, hB4⟩
        case measure => simp [intOf]
     ·have hlook := look18 hm (n := 4) ⟨by decide, by decide⟩ (mark_no g mark_none4).1 (mark_no g mark_none4).2
      have c7 : wr.cell? ⟨g, 7, none⟩ = some (.int .i64 u) := k1.cell 7
      go_wp2_with fail
      refine (swithUnder_any g _ m _ u HU.out _ hlen hgs hP).mono ?_
      rintro e w4 ⟨v4, rfl, hP4, hb4, hg4⟩
      have k4 := k1.grown hg4 (hP.off_blk k1 (by decide))
      have hm4 := hm.kept hg4 (hP.off_map hm)
      have hB4 := hbw.trans (hb4.mono (Nat.le_of_eq HG.out))
      obtain ⟨A4, c4, rfl, _⟩ := hP4.rdp
      clear hP k1 hm hbw hb4 hg4 hlook c7
      go_wp2_with fail
      go_roundw
      case rel => exact ⟨5, _, by omega, by go_num, ⟨_, _, rfl⟩, hP4, k4, hm4, hB4⟩
      case measure => simp [intOf]
     ·have hlook := look18 hm (n := 5) ⟨by decide, by decide⟩ (mark_5 g).1 (mark_5 g).2
      unfold pB at hlook
      have ci : wr.cell? ⟨g, 3, none⟩ = some (.bool s3) := k1.cell 3
      cases s3 with
      | false =>
        go_wp2_with fail
        go_roundw
        case rel => exact ⟨6, m, by omega, by go_num, ⟨_, _, rfl⟩, by show RwP _ _ _ _ (_ ++ []); rw [List.append_nil]; exact hP, k1, hm, hbw⟩
        case measure => simp [intOf]
      | true =>
        have hba : Below wr.heap.size wr (wr.alloc (.cells #[.int .i64 5] 3)) := (Below.refl _ wr).alloc (Nat.le_refl _) _
        have hbl := hbw.alloc hbw.size (.cells #[.int .i64 5] 3)
        have kl := k1.alloc (.cells #[.int .i64 5] 3)
        have ml := hm.alloc (.cells #[.int .i64 5] 3)
        have pl := hP.below hba
        have hR : RowI (wr.alloc (.cells #[.int .i64 5] 3)) (wr.alloc (.cells #[.int .i64 5] 3)).heap.size 3 (some ⟨wr.heap.size, 0, none⟩) [5] := row_lit wr [5]
        have hsl := Nat.le_trans hgs hba.size
        clear hP k1 hm
        go_wp2_with fail
        refine (swith_any g _ m _ _ 1 _ [5] rfl (Nat.le_refl _) _ hlen hsl pl hR).mono ?_
        rintro e w4 ⟨v4, rfl, hP4, hb4, hg4⟩
        have k4 := kl.grown hg4 (pl.off_blk kl (by decide))
        have hm4 := ml.kept hg4 (pl.off_map ml)
        have hB4 := hbl.trans (hb4.mono (Nat.le_of_eq HG.out))
        obtain ⟨A4, c4, rfl, _⟩ := hP4.rdp
        clear pl kl ml hbw hbl hba hb4 hg4 hlook ci hR hsl
        go_wp2_with fail
        go_roundw
        case rel => exact ⟨6, _, by omega, by go_num, ⟨_, _, rfl⟩, hP4, k4, hm4, hB4⟩
        case measure => simp [intOf]
     ·have hlook := look18 hm (n := 6) ⟨by decide, by decide⟩ (mark_no g (mark_none6)).1 (mark_no g (mark_none6)).2
      go_wp2_with fail
      go_roundw
      case rel => exact ⟨7, m, by omega, by go_num, ⟨_, _, rfl⟩, by show RwP _ _ _ _ (_ ++ []); rw [List.append_nil]; exact hP, k1, hm, hbw⟩
      case measure => simp [intOf]
     ·have hlook := look18 hm (n := 7) ⟨by decide, by decide⟩ (mark_7 g).1 (mark_7 g).2
      unfold pB at hlook
      have ci : wr.cell? ⟨g, 4, none⟩ = some (.bool s4) := k1.cell 4
      cases s4 with
      | false =>
        go_wp2_with fail
        go_roundw
        case rel => exact ⟨8, m, by omega, by go_num, ⟨_, _, rfl⟩, by show RwP _ _ _ _ (_ ++ []); rw [List.append_nil]; exact hP, k1, hm, hbw⟩
        case measure => simp [intOf]
      | true =>
        have hba : Below wr.heap.size wr (wr.alloc (.cells #[.int .i64 7] 3)) := (Below.refl _ wr).alloc (Nat.le_refl _) _
        have hbl := hbw.alloc hbw.size (.cells #[.int .i64 7] 3)
        have kl := k1.alloc (.cells #[.int .i64 7] 3)
        have ml := hm.alloc (.cells #[.int .i64 7] 3)
        have pl := hP.below hba
        have hR : RowI (wr.alloc (.cells #[.int .i64 7] 3)) (wr.alloc (.cells #[.int .i64 7] 3)).heap.size 3 (some ⟨wr.heap.size, 0, none⟩) [7] := row_lit wr [7]
        have hsl := Nat.le_trans hgs hba.size
        clear hP k1 hm
        go_wp2_with fail
        refine (swith_any g _ m _ _ 1 _ [7] rfl (Nat.le_refl _) _ hlen hsl pl hR).mono ?_
        rintro e w4 ⟨v4, rfl, hP4, hb4, hg4⟩
        have k4 := kl.grown hg4 (pl.off_blk kl (by decide))
        have hm4 := ml.kept hg4 (pl.off_map ml)
        have hB4 := hbl.trans (hb4.mono (Nat.le_of_eq HG.out))
        obtain ⟨A4, c4, rfl, _⟩ := hP4.rdp
        clear pl kl ml hbw hbl hba hb4 hg4 hlook ci hR hsl
        go_wp2_with fail
        go_roundw
        case rel => exact ⟨8, _, by omega, by go_num, ⟨_, _, rfl⟩, hP4, k4, hm4, hB4⟩
        case measure => simp [intOf]
     ·have hlook := look18 hm (n := 8) ⟨by decide, by decide⟩ (mark_8 g).1 (mark_8 g).2
      unfold pB at hlook
      have ci : wr.cell? ⟨g, 5, none⟩ = some (.bool s5) := k1.cell 5
      cases s5 with
      | false =>
        go_wp2_with fail
        go_roundw
        case rel => exact ⟨9, m, by omega, by go_num, ⟨_, _, rfl⟩, by show RwP _ _ _ _ (_ ++ []); rw [List.append_nil]; exact hP, k1, hm, hbw⟩
        case measure => simp [intOf]
      | true =>
        have hba : Below wr.heap.size wr (wr.alloc (.cells #[.int .i64 8] 3)) := (Below.refl _ wr).alloc (Nat.le_refl _) _
        have hbl := hbw.alloc hbw.size (.cells #[.int .i64 8] 3)
        have kl := k1.alloc (.cells #[.int .i64 8] 3)
        have ml := hm.alloc (.cells #[.int .i64 8] 3)
        have pl := hP.below hba
        have hR : RowI (wr.alloc (.cells #[.int .i64 8] 3)) (wr.alloc (.cells #[.int .i64 8] 3)).heap.size 3 (some ⟨wr.heap.size, 0, none⟩) [8] := row_lit wr [8]
        have hsl := Nat.le_trans hgs hba.size
        clear hP k1 hm
        go_wp2_with fail
        refine (swith_any g _ m _ _ 1 _ [8] rfl (Nat.le_refl _) _ hlen hsl pl hR).mono ?_
        rintro e w4 ⟨v4, rfl, hP4, hb4, hg4⟩
        have k4 := kl.grown hg4 (pl.off_blk kl (by decide))
        have hm4 := ml.kept hg4 (pl.off_map ml)
        have hB4 := hbl.trans (hb4.mono (Nat.le_of_eq HG.out))
        obtain ⟨A4, c4, rfl, _⟩ := hP4.rdp
        clear pl kl ml hbw hbl hba hb4 hg4 hlook ci hR hsl
        go_wp2_with fail
        go_roundw
        case rel => exact ⟨9, _, by omega, by go_num, ⟨_, _, rfl⟩, hP4, k4, hm4, hB4⟩
        case measure => simp [intOf]
     ·have hlook := look18 hm (n := 9) ⟨by decide, by decide⟩ (mark_9 g).1 (mark_9 g).2
      unfold pB at hlook
      have ci : wr.cell? ⟨g, 6, none⟩ = some (.bool s6) := k1.cell 6
      cases s6 with
      | false =>
        go_wp2_with fail
        go_roundw
        case rel => exact ⟨10, m, by omega, by go_num, ⟨_, _, rfl⟩, by show RwP _ _ _ _ (_ ++ []); rw [List.append_nil]; exact hP, k1, hm, hbw⟩
        case measure => simp [intOf]
      | true =>
        have hba : Below wr.heap.size wr (wr.alloc (.cells #[.int .i64 9] 3)) := (Below.refl _ wr).alloc (Nat.le_refl _) _
        have hbl := hbw.alloc hbw.size (.cells #[.int .i64 9] 3)
        have kl := k1.alloc (.cells #[.int .i64 9] 3)
        have ml := hm.alloc (.cells #[.int .i64 9] 3)
        have pl := hP.below hba
        have hR : RowI (wr.alloc (.cells #[.int .i64 9] 3)) (wr.alloc (.cells #[.int .i64 9] 3)).heap.size 3 (some ⟨wr.heap.size, 0, none⟩) [9] := row_lit wr [9]
        have hsl := Nat.le_trans hgs hba.size
        clear hP k1 hm
        go_wp2_with fail
        refine (swith_any g _ m _ _ 1 _ [9] rfl (Nat.le_refl _) _ hlen hsl pl hR).mono ?_
        rintro e w4 ⟨v4, rfl, hP4, hb4, hg4⟩
        have k4 := kl.grown hg4 (pl.off_blk kl (by decide))
        have hm4 := ml.kept hg4 (pl.off_map ml)
        have hB4 := hbl.trans (hb4.mono (Nat.le_of_eq HG.out))
        obtain ⟨A4, c4, rfl, _⟩ := hP4.rdp
        clear pl kl ml hbw hbl hba hb4 hg4 hlook ci hR hsl
        go_wp2_with fail
        go_roundw
        case rel => exact ⟨10, _, by omega, by go_num, ⟨_, _, rfl⟩, hP4, k4, hm4, hB4⟩
        case measure => simp [intOf]
    ·have t1 : ¬ ((i : Int) < 10) := by omega
     obtain rfl : i = 10 := by omega
     obtain ⟨x0, x1⟩ := HX.out
     obtain ⟨y0, y1⟩ := HY.out
     have c8 : wr.cell? ⟨g, 8, none⟩ = some (.int .i64 x) := k1.cell 8
     have c9 : wr.cell? ⟨g, 9, none⟩ = some (.int .i64 y) := k1.cell 9
     go_upto_region 14 with (fail)
     go_region_held3 (fun W => W.cell? ⟨g, 8, none⟩ = some (.int .i64 x) ∧ W.cell? ⟨g, 9, none⟩ = some (.int .i64 y))
      (first
        | exact ⟨c8, c9⟩
        | exact ⟨d8, d9⟩
        | exact ⟨e8, e9⟩)
      (first
        | ((fail_if_success have := hP4); go_at_call 72; refine (swithColour_any g _ m _ 0 x (by decide) (by decide) x0 x1 wr.drew hlen hgs hP).mono ?_; rintro e w4 ⟨v4, rfl, hP4, hb4, hg4⟩
           have k4 := Blk.grown (w := wr.drew) k1 hg4 (hP.off_blk k1 (by decide))
           have d8 : w4.cell? ⟨g, 8, none⟩ = some (.int .i64 x) := k4.cell 8
           have d9 : w4.cell? ⟨g, 9, none⟩ = some (.int .i64 y) := k4.cell 9
           have hs4 := Nat.le_trans hgs hg4.size)
        | (go_at_call 72; refine (swithColour_any g _ _ _ 10 y (by decide) (by decide) y0 y1 w4 (by have := tint_le x (0 + 30); have := hP.len; have := acc_le ⟨s0, s1, s2, s3, s4, s5, s6, u, x, y⟩ 10; omega) hs4 hP4).mono ?_; rintro e w5 ⟨v5, rfl, hP5, hb5, hg5⟩
           have k5 := k4.grown hg5 (hP4.off_blk k4 (by decide))
           have e8 : w5.cell? ⟨g, 8, none⟩ = some (.int .i64 x) := k5.cell 8
           have e9 : w5.cell? ⟨g, 9, none⟩ = some (.int .i64 y) := k5.cell 9))
     have hB5 := hbw.drew.trans ((hb4.trans hb5).mono (Nat.le_of_eq HG.out))
     go_wp2_with fail
     go_ret
     have hfin : RwP w5 w.heap.size v5 (m + (tintY x (0 + 30)).length + (tintY y (10 + 30)).length) (parY ⟨s0, s1, s2, s3, s4, s5, s6, u, x, y⟩) := by
      rw [HP.out, HG.out]
      exact hP5
     exact ⟨v5, _, rfl, hfin, hB5⟩
end Go.Proofs.YtfifeofmfpjgfaaDoor
