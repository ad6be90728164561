/-
  Stage 17's laws, walked: PasteSends.
-/
import Derived.Test.YtgaoijinchakoaaDoorG41
namespace Go.Proofs.YtgaoijinchakoaaDoor
open Go.RowKit
set_option maxRecDepth 100000 in
set_option maxHeartbeats 16000000 in
theorem pasteSends_walk (m : Mo) (_hm : okM m) (A : Option Addr) (l : List UInt8) (c : Nat) (hlc : l.length ≤ c) (q : Bool) (w : World) (hr : Rd w A (bs l)) (hi : Siz w ∧ Tab w) : Calls Tryd.prog 3 #[moV m, .slice A l.length c, .bool q] w fun e w' => e = .returned (.bool true) ∧ Below w.heap.size w w' := by
 obtain ⟨n, hn⟩ : ∃ n, l.length = n := ⟨_, rfl⟩
 rw [hn] at hlc ⊢
 have HT : Hid (∀ W, Below w.heap.size w W → Tab W) := Lib.hid fun W hW => hi.2.below hW
 have HS : Hid (∀ W, Below w.heap.size w W → Siz W) := Lib.hid fun W hW => hi.1.below' hW
 obtain ⟨L, hL⟩ : ∃ L, clnL l = L := ⟨_, rfl⟩
 obtain ⟨M, hM⟩ : ∃ L, sendP m.paste l = L := ⟨_, rfl⟩
 obtain ⟨X, hX⟩ : ∃ L, focB m.focus q = L := ⟨_, rfl⟩
 have H1 : Hid (n ≤ 300 → ∀ W, Below w.heap.size w W → Calls Tryd.prog 10 #[.slice A n c] W (OutP L L.length W)) := Lib.hid fun h W hW => by rw [← hL]; exact pclean_any A n c l hn W (HS.out W hW) (by omega) hlc (hr.below hW)
 have H2 : Hid (n ≤ 300 → ∀ W, Below w.heap.size w W → Calls Tryd.prog 11 #[.slice A n c] W (OutD L L.length W)) := Lib.hid fun h W hW => by rw [← hL]; exact rclean_any A n c l hn W (by omega) hlc (hr.below hW)
 have H3 : Hid (n ≤ 300 → ∀ W, Below w.heap.size w W → Calls Tryd.prog 12 #[moV m, .slice A n c] W (OutP M M.length W)) := Lib.hid fun h W hW => passend_any m A n c l hn W (HS.out W hW) (HT.out W hW) (by omega) hlc (hr.below hW) M _ hM rfl
 have H4 : Hid (n ≤ 300 → ∀ W, Below w.heap.size w W → Calls Tryd.prog 13 #[moV m, .slice A n c] W (OutD M M.length W)) := Lib.hid fun h W hW => rsend17_any m A n c l hn W (by omega) hlc (hr.below hW) M _ hM rfl
 have H5 : Hid (∀ W, Below w.heap.size w W → Calls Tryd.prog 14 #[moV m, .bool q] W (OutP X X.length W)) := Lib.hid fun W hW => pasfocus_any m q W (HT.out W hW) X _ hX rfl
 have H6 : Hid (∀ W, Below w.heap.size w W → Calls Tryd.prog 15 #[moV m, .bool q] W (OutD X X.length W)) := Lib.hid fun W _ => rfocus17_any m q W X _ hX rfl
 clear hL hM hX hn hr hlc
 obtain ⟨b0, b1, b2, b3, b4, b5, b6, i7, i8, i9⟩ := m
 unfold moV at H3 H4 H5 H6 ⊢
 simp only at H3 H4 H5 H6 ⊢
 have k0 := Blk.new w 23 #[.bool b0, .bool b1, .bool b2, .bool b3, .bool b4, .bool b5, .bool b6, .int .i64 i7, .int .i64 i8, .int .i64 i9]
 have HB0 : Below w.heap.size w (w.alloc (.cells #[.bool b0, .bool b1, .bool b2, .bool b3, .bool b4, .bool b5, .bool b6, .int .i64 i7, .int .i64 i8, .int .i64 i9] 23)) := (Below.refl _ w).alloc (Nat.le_refl _) _
 by_cases h : 300 < n
 ·have h2 : (300 : Int) < (n : Int) := by omega
  clear H1 H2 H3 H4 H5 H6
  go_enter Tryd.func3, Tryd.ntmps3
  go_wp2_with fail
  refine (pasAwake _ (HT.out _ HB0) (HS.out _ HB0)).mono ?_
  rintro e w1 ⟨rfl, hb1⟩
  go_wp2_with fail
  go_ret
  exact ⟨rfl, HB0.trans (hb1.mono HB0.size)⟩
 have h2 : ¬ ((300 : Int) < (n : Int)) := by omega
 have hle : n ≤ 300 := by omega
 replace H1 := Lib.hid (H1.out hle)
 replace H2 := Lib.hid (H2.out hle)
 replace H3 := Lib.hid (H3.out hle)
 replace H4 := Lib.hid (H4.out hle)
 clear hi h hle
 go_enter Tryd.func3, Tryd.ntmps3
 go_wp2_with fail
 refine (pasAwake _ (HT.out _ HB0) (HS.out _ HB0)).mono ?_
 rintro e w1 ⟨rfl, hb1⟩
 have hB1 := HB0.trans (hb1.mono HB0.size)
 have k1 := k0.below hb1 k0.lt
 clear hb1 HB0 k0
 have hst : ∀ f ∈ ([⟨3, 16, FB L⟩, ⟨6, 19, FB L⟩, ⟨13, 26, FB M⟩, ⟨17, 30, FB M⟩, ⟨24, 37, FB X⟩, ⟨28, 41, FB X⟩] : List Fact), f.ok := List.forall_mem_cons.2 ⟨fb_ok _ _ _, List.forall_mem_cons.2 ⟨fb_ok _ _ _, List.forall_mem_cons.2 ⟨fb_ok _ _ _, List.forall_mem_cons.2 ⟨fb_ok _ _ _, List.forall_mem_cons.2 ⟨fb_ok _ _ _, List.forall_mem_cons.2 ⟨fb_ok _ _ _, fun _ h => by cases h⟩⟩⟩⟩⟩⟩
 go_upto_region 4 with (fail)
 refine wp_region_told (w1 := w1) (K := [⟨3, 16, FB L⟩, ⟨6, 19, FB L⟩, ⟨13, 26, FB M⟩, ⟨17, 30, FB M⟩, ⟨24, 37, FB X⟩, ⟨28, 41, FB X⟩]) (ix := 1000) (R0 := fun _ _ _ => True) (R1 := fun _ _ _ => True) [16, 19, 26, 30, 37, 41] (⟨#[.agg #[.bool b0, .bool b1, .bool b2, .bool b3, .bool b4, .bool b5, .bool b6, .int .i64 i7, .int .i64 i8, .int .i64 i9], .slice A n c, .bool q, .pointer (some ⟨w.heap.size, 0, none⟩), undef, undef, .bool true, .bool true, .bool true, .slice A n c, .int .i64 (n : Int), .bool (decide ((300 : Int) < (n : Int))), undef, .bool true, .bool true, .slice A n c, undef, .string ⟨L.toArray⟩, .slice A n c, undef, .string ⟨L.toArray⟩, .bool true, .bool true, .bool true, .agg #[.bool b0, .bool b1, .bool b2, .bool b3, .bool b4, .bool b5, .bool b6, .int .i64 i7, .int .i64 i8, .int .i64 i9], .slice A n c, undef, .string ⟨M.toArray⟩, .agg #[.bool b0, .bool b1, .bool b2, .bool b3, .bool b4, .bool b5, .bool b6, .int .i64 i7, .int .i64 i8, .int .i64 i9], .slice A n c, undef, .string ⟨M.toArray⟩, .bool true, .bool true, .bool true, .agg #[.bool b0, .bool b1, .bool b2, .bool b3, .bool b4, .bool b5, .bool b6, .int .i64 i7, .int .i64 i8, .int .i64 i9], .bool q, undef, .string ⟨X.toArray⟩, .agg #[.bool b0, .bool b1, .bool b2, .bool b3, .bool b4, .bool b5, .bool b6, .int .i64 i7, .int .i64 i8, .int .i64 i9], .bool q, undef, .string ⟨X.toArray⟩, .bool true, .bool true], []⟩) (fun g => ⟨#[.agg #[.bool b0, .bool b1, .bool b2, .bool b3, .bool b4, .bool b5, .bool b6, .int .i64 i7, .int .i64 i8, .int .i64 i9], .slice A n c, .bool q, .pointer (some ⟨w.heap.size, 0, none⟩), undef, undef, .bool true, .bool true, .bool true, .slice A n c, .int .i64 (n : Int), .bool (decide ((300 : Int) < (n : Int))), undef, .bool true, .bool true, .slice A n c, (g 16), .string ⟨L.toArray⟩, .slice A n c, (g 19), .string ⟨L.toArray⟩, .bool true, .bool true, .bool true, .agg #[.bool b0, .bool b1, .bool b2, .bool b3, .bool b4, .bool b5, .bool b6, .int .i64 i7, .int .i64 i8, .int .i64 i9], .slice A n c, (g 26), .string ⟨M.toArray⟩, .agg #[.bool b0, .bool b1, .bool b2, .bool b3, .bool b4, .bool b5, .bool b6, .int .i64 i7, .int .i64 i8, .int .i64 i9], .slice A n c, (g 30), .string ⟨M.toArray⟩, .bool true, .bool true, .bool true, .agg #[.bool b0, .bool b1, .bool b2, .bool b3, .bool b4, .bool b5, .bool b6, .int .i64 i7, .int .i64 i8, .int .i64 i9], .bool q, (g 37), .string ⟨X.toArray⟩, .agg #[.bool b0, .bool b1, .bool b2, .bool b3, .bool b4, .bool b5, .bool b6, .int .i64 i7, .int .i64 i8, .int .i64 i9], .bool q, (g 41), .string ⟨X.toArray⟩, .bool true, .bool true], []⟩) [.bool true, .bool true, .slice A n c, undef, .string ⟨L.toArray⟩, .slice A n c, undef, .string ⟨L.toArray⟩, .bool true, .bool true, .bool true, .agg #[.bool b0, .bool b1, .bool b2, .bool b3, .bool b4, .bool b5, .bool b6, .int .i64 i7, .int .i64 i8, .int .i64 i9], .slice A n c, undef, .string ⟨M.toArray⟩, .agg #[.bool b0, .bool b1, .bool b2, .bool b3, .bool b4, .bool b5, .bool b6, .int .i64 i7, .int .i64 i8, .int .i64 i9], .slice A n c, undef, .string ⟨M.toArray⟩, .bool true, .bool true, .bool true, .agg #[.bool b0, .bool b1, .bool b2, .bool b3, .bool b4, .bool b5, .bool b6, .int .i64 i7, .int .i64 i8, .int .i64 i9], .bool q, undef, .string ⟨X.toArray⟩, .agg #[.bool b0, .bool b1, .bool b2, .bool b3, .bool b4, .bool b5, .bool b6, .int .i64 i7, .int .i64 i8, .int .i64 i9], .bool q, undef, .string ⟨X.toArray⟩, .bool true, .bool true, .bool true] (by kernel_rfl) (by kernel_rfl) (by kernel_rfl) (fun g => by kernel_rfl) (by kernel_rfl) (Below.refl _ _).drew (by decide) (by kernel_rfl)
  (goes_cons (gkP (fun _ => .bool true))
  (goes_cons (gkP (fun _ => .bool true))
  (goes_cons (gkP (fun _ => .slice A n c))
  (goes_cons (gkG (fun g => #[.slice A n c]) hst 0 (fun g W hW hin => outP_b17 (H1.out W (hB1.trans (hW.mono hB1.size)))))
  (goes_cons (goesK_str 0 rfl (by kernel_rfl) Tryd.underlying24 Tryd.underlying5 Tryd.underlying9 hst (ahead_none (by decide)) rfl (by decide) (by decide) (by kernel_rfl) (fun g => by kernel_rfl) rfl (fun g => by kernel_rfl) rfl (fun g => by kernel_rfl))
  (goes_cons (gkP (fun _ => .slice A n c))
  (goes_cons (gkG (fun g => #[.slice A n c]) hst 1 (fun g W hW hin => outD_b17 (H2.out W (hB1.trans (hW.mono hB1.size)))))
  (goes_cons (goesK_str 1 rfl (by kernel_rfl) Tryd.underlying24 Tryd.underlying5 Tryd.underlying9 hst (ahead_none (by decide)) rfl (by decide) (by decide) (by kernel_rfl) (fun g => by kernel_rfl) rfl (fun g => by kernel_rfl) rfl (fun g => by kernel_rfl))
  (goes_cons (goesK_bin (v := .bool true) (xv := .string ⟨L.toArray⟩) (yv := .string ⟨L.toArray⟩) rfl (by decide) (by decide) (by kernel_rfl) (fun g => by kernel_rfl) rfl (fun g => by kernel_rfl) rfl (fun g => by kernel_rfl) (fun g => by kernel_rfl) (fun w => by go_simp))
  (goes_cons (gkP (fun _ => .bool true))
  (goes_cons (gkP (fun _ => .bool true))
  (goes_cons (gkL hst (fun W hW => k1.below hW k1.lt) Tryd.underlying23)
  (goes_cons (gkP (fun _ => .slice A n c))
  (goes_cons (gkG (fun g => #[.agg #[.bool b0, .bool b1, .bool b2, .bool b3, .bool b4, .bool b5, .bool b6, .int .i64 i7, .int .i64 i8, .int .i64 i9], .slice A n c]) hst 2 (fun g W hW hin => outP_b17 (H3.out W (hB1.trans (hW.mono hB1.size)))))
  (goes_cons (goesK_str 2 rfl (by kernel_rfl) Tryd.underlying24 Tryd.underlying5 Tryd.underlying9 hst (ahead_none (by decide)) rfl (by decide) (by decide) (by kernel_rfl) (fun g => by kernel_rfl) rfl (fun g => by kernel_rfl) rfl (fun g => by kernel_rfl))
  (goes_cons (gkL hst (fun W hW => k1.below hW k1.lt) Tryd.underlying23)
  (goes_cons (gkP (fun _ => .slice A n c))
  (goes_cons (gkG (fun g => #[.agg #[.bool b0, .bool b1, .bool b2, .bool b3, .bool b4, .bool b5, .bool b6, .int .i64 i7, .int .i64 i8, .int .i64 i9], .slice A n c]) hst 3 (fun g W hW hin => outD_b17 (H4.out W (hB1.trans (hW.mono hB1.size)))))
  (goes_cons (goesK_str 3 rfl (by kernel_rfl) Tryd.underlying24 Tryd.underlying5 Tryd.underlying9 hst (ahead_none (by decide)) rfl (by decide) (by decide) (by kernel_rfl) (fun g => by kernel_rfl) rfl (fun g => by kernel_rfl) rfl (fun g => by kernel_rfl))
  (goes_cons (goesK_bin (v := .bool true) (xv := .string ⟨M.toArray⟩) (yv := .string ⟨M.toArray⟩) rfl (by decide) (by decide) (by kernel_rfl) (fun g => by kernel_rfl) rfl (fun g => by kernel_rfl) rfl (fun g => by kernel_rfl) (fun g => by kernel_rfl) (fun w => by go_simp))
  (goes_cons (gkP (fun _ => .bool true))
  (goes_cons (gkP (fun _ => .bool true))
  (goes_cons (gkL hst (fun W hW => k1.below hW k1.lt) Tryd.underlying23)
  (goes_cons (gkP (fun _ => .bool q))
  (goes_cons (gkG (fun g => #[.agg #[.bool b0, .bool b1, .bool b2, .bool b3, .bool b4, .bool b5, .bool b6, .int .i64 i7, .int .i64 i8, .int .i64 i9], .bool q]) hst 4 (fun g W hW hin => outP_b17 (H5.out W (hB1.trans (hW.mono hB1.size)))))
  (goes_cons (goesK_str 4 rfl (by kernel_rfl) Tryd.underlying24 Tryd.underlying5 Tryd.underlying9 hst (ahead_none (by decide)) rfl (by decide) (by decide) (by kernel_rfl) (fun g => by kernel_rfl) rfl (fun g => by kernel_rfl) rfl (fun g => by kernel_rfl))
  (goes_cons (gkL hst (fun W hW => k1.below hW k1.lt) Tryd.underlying23)
  (goes_cons (gkP (fun _ => .bool q))
  (goes_cons (gkG (fun g => #[.agg #[.bool b0, .bool b1, .bool b2, .bool b3, .bool b4, .bool b5, .bool b6, .int .i64 i7, .int .i64 i8, .int .i64 i9], .bool q]) hst 5 (fun g W hW hin => outD_b17 (H6.out W (hB1.trans (hW.mono hB1.size)))))
  (goes_cons (goesK_str 5 rfl (by kernel_rfl) Tryd.underlying24 Tryd.underlying5 Tryd.underlying9 hst (ahead_none (by decide)) rfl (by decide) (by decide) (by kernel_rfl) (fun g => by kernel_rfl) rfl (fun g => by kernel_rfl) rfl (fun g => by kernel_rfl))
  (goes_cons (goesK_bin (v := .bool true) (xv := .string ⟨X.toArray⟩) (yv := .string ⟨X.toArray⟩) rfl (by decide) (by decide) (by kernel_rfl) (fun g => by kernel_rfl) rfl (fun g => by kernel_rfl) rfl (fun g => by kernel_rfl) (fun g => by kernel_rfl) (fun w => by go_simp))
  (goes_cons (gkP (fun _ => .bool true))
  (goes_cons (gkP (fun _ => .bool true)) goes_nil))))))))))))))))))))))))))))))))) ?_
 intro g W hW _
 have hB5 := hB1.trans (hW.mono hB1.size)
 generalize g 16 = v16
 generalize g 19 = v19
 generalize g 26 = v26
 generalize g 30 = v30
 generalize g 37 = v37
 generalize g 41 = v41
 clear hst
 go_wp2_with fail
 go_ret
 exact ⟨rfl, hB5⟩
end Go.Proofs.YtgaoijinchakoaaDoor
