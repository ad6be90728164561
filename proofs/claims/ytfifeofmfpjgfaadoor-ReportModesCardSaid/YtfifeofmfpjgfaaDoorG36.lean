/-
  Stage 19, the landed report, walked: Setting.
-/
import Derived.Test.YtfifeofmfpjgfaaDoorG18
import Derived.Test.YtfifeofmfpjgfaaDoorG29
namespace Go.Proofs.YtfifeofmfpjgfaaDoor
open Go.RowKit
theorem setR_yes {s : Sc} {ask T : List UInt8} (h : saidR s ask = T) (hT : T ≠ []) : setR s ask = ⟨3, 0, [[1]], [36], 114, T⟩ := by
 unfold setR
 rw [h, if_neg hT]
theorem setR_no {s : Sc} {ask : List UInt8} (h : saidR s ask = []) : setR s ask = ⟨3, 0, [[0]], [36], 114, []⟩ := by
 unfold setR
 rw [h, if_pos rfl]
set_option maxRecDepth 100000 in
set_option maxHeartbeats 16000000 in
theorem pSetting_any (s : Sc) (hin : okSy s.style) (ask : List UInt8) (ha : ask.length ≤ maxLen) (w : World) (ht : Tab w) : Calls Tryd.prog 13 #[scV s, .string ⟨ask.toArray⟩] w (RepE (setR s ask) w) := by
 obtain ⟨q, hq⟩ : ∃ q, mayY s.style = q := ⟨_, rfl⟩
 have HS : Hid (∀ W, Calls Tryd.prog 33 #[scV s] W (SetsE s q W)) := Lib.hid fun W => psettings_any s q hq W
 unfold scV at HS ⊢
 generalize s.rows = x0 at HS ⊢
 generalize s.cols = x1 at HS ⊢
 generalize s.row = x2 at HS ⊢
 generalize s.col = x3 at HS ⊢
 generalize s.top = x4 at HS ⊢
 generalize s.bottom = x5 at HS ⊢
 generalize s.left = x6 at HS ⊢
 generalize s.right = x7 at HS ⊢
 generalize s.shape = x8 at HS ⊢
 generalize s.style.bold = x9 at HS ⊢
 generalize s.style.faint = x10 at HS ⊢
 generalize s.style.italic = x11 at HS ⊢
 generalize s.style.blink = x12 at HS ⊢
 generalize s.style.inverse = x13 at HS ⊢
 generalize s.style.hidden = x14 at HS ⊢
 generalize s.style.strike = x15 at HS ⊢
 generalize s.style.under = x16 at HS ⊢
 generalize s.style.fore = x17 at HS ⊢
 generalize s.style.back = x18 at HS ⊢
 have k0 := (Blk.new w 25 #[.int .i64 x0, .int .i64 x1, .int .i64 x2, .int .i64 x3, .int .i64 x4, .int .i64 x5, .int .i64 x6, .int .i64 x7, .int .i64 x8, .bool x9, .bool x10, .bool x11, .bool x12, .bool x13, .bool x14, .bool x15, .int .i64 x16, .int .i64 x17, .int .i64 x18]).alloc (.cells #[.int .i64 0, .int .u8 0, .slice none 0 0, .string ⟨#[]⟩, .int .u8 0, .string ⟨#[]⟩] 30)
 have z0 := Blk.new (w.alloc (.cells #[.int .i64 x0, .int .i64 x1, .int .i64 x2, .int .i64 x3, .int .i64 x4, .int .i64 x5, .int .i64 x6, .int .i64 x7, .int .i64 x8, .bool x9, .bool x10, .bool x11, .bool x12, .bool x13, .bool x14, .bool x15, .int .i64 x16, .int .i64 x17, .int .i64 x18] 25)) 30 #[.int .i64 0, .int .u8 0, .slice none 0 0, .string ⟨#[]⟩, .int .u8 0, .string ⟨#[]⟩]
 rw [World.size_alloc] at z0
 have hB0 := ((Below.refl w.heap.size w).alloc (Nat.le_refl _) (.cells #[.int .i64 x0, .int .i64 x1, .int .i64 x2, .int .i64 x3, .int .i64 x4, .int .i64 x5, .int .i64 x6, .int .i64 x7, .int .i64 x8, .bool x9, .bool x10, .bool x11, .bool x12, .bool x13, .bool x14, .bool x15, .int .i64 x16, .int .i64 x17, .int .i64 x18] 25)).alloc (by simp) (.cells #[.int .i64 0, .int .u8 0, .slice none 0 0, .string ⟨#[]⟩, .int .u8 0, .string ⟨#[]⟩] 30)
 go_enter Tryd.func13, Tryd.ntmps13
 go_upto_region 1 with (fail)
 obtain ⟨W1, hW1⟩ : ∃ x, (w.alloc (.cells #[.int .i64 x0, .int .i64 x1, .int .i64 x2, .int .i64 x3, .int .i64 x4, .int .i64 x5, .int .i64 x6, .int .i64 x7, .int .i64 x8, .bool x9, .bool x10, .bool x11, .bool x12, .bool x13, .bool x14, .bool x15, .int .i64 x16, .int .i64 x17, .int .i64 x18] 25)).alloc (.cells #[.int .i64 0, .int .u8 0, .slice none 0 0, .string ⟨#[]⟩, .int .u8 0, .string ⟨#[]⟩] 30) = x := ⟨_, rfl⟩
 rw [hW1] at k0 z0 hB0 ⊢
 clear hW1
 go_wp2_with (with_reducible refine Blk.wp_get k0 Tryd.underlying25 rfl (by kernel_rfl) rfl (.tmp 2) rfl rfl ?_)
 refine (HS.out _).mono ?_
 rintro e w3 ⟨b, n, rfl, hown3, k3, hb3⟩
 have hB3 := hB0.trans (hb3.mono hB0.size)
 have z3 := z0.below hb3 z0.lt
 have ht3 := ht.below hB3
 obtain ⟨g, hg⟩ : ∃ g, W1.heap.size = g := ⟨_, rfl⟩
 rw [hg] at hown3 k3
 clear hg
 clear k0 z0 hB0 hb3 HS ht
 by_cases h0 : ask = [109]
 ·subst h0
  clear ha
  cases q with
  | true =>
    have HE := Lib.hid (setR_yes (s := s) (ask := [109]) (T := parL (parY s.style) ++ [109]) (by unfold saidR; simp [hq]) (by simp))
    have hlook := set_look (ask := [109]) hown3 (by decide) (show cloAt _ _ _ = _ from rfl)
    obtain ⟨T, hT⟩ : ∃ T, parL (parY s.style) ++ [109] = T := ⟨_, rfl⟩
    have HC : Hid (Calls Tryd.prog 52 #[.pointer (some ⟨g, 0, none⟩)] w3 (TelE T w3)) := Lib.hid (hT ▸ pset5_any k3 hin ht3)
    rw [hT] at HE
    clear hT hown3
    go_wp2_with fail
    refine HC.out.mono ?_
    rintro e w4 ⟨rfl, hb4⟩
    have hB4 := hB3.trans (hb4.mono hB3.size)
    have z4 := z3.below hb4 z3.lt
    clear hlook HC hb4
    go_wp2_with fail
    refine (psetting_any 1 T _).mono ?_
    rintro e w5 ⟨A5, c5, g5, rfl, hr5, hb5⟩
    have hB5 := hB4.trans (hb5.mono hB4.size)
    have z5 := z4.below hb5 z4.lt
    have hr6 := hr5.other z5 (by decide) (by decide) (grown_set6 w5 (w.heap.size + 1) (.int .i64 3) (.int .u8 0) (.slice A5 1 c5) (.string ⟨#[36]⟩) (.int .u8 114) (.string ⟨T.toArray⟩))
    have hB6 := below_set6 hB5 (b := w.heap.size + 1) (Nat.le_succ _) (.int .i64 3) (.int .u8 0) (.slice A5 1 c5) (.string ⟨#[36]⟩) (.int .u8 114) (.string ⟨T.toArray⟩)
    obtain ⟨d0, d1, d2, d3, d4, d5⟩ := Blk.cells6 z5
    have y0 := z5.frozen 0
    have y1 := z5.frozen 1
    have y2 := z5.frozen 2
    have y3 := z5.frozen 3
    have y4 := z5.frozen 4
    have y5 := z5.frozen 5
    go_wp2_with fail
    refine bodyPost_ret (v := .agg #[.int .i64 3, .int .u8 0, .slice A5 1 c5, .string ⟨#[36]⟩, .int .u8 114, .string ⟨T.toArray⟩]) (by simp [results, Tryd.results13, go_sem, d0, d1, d2, d3, d4, d5]) rfl ⟨_, _, by rw [HE.out]; rfl, by rw [HE.out]; exact hr6.rdp, hB6⟩
  | false =>
    have HE := Lib.hid (setR_no (s := s) (ask := [109]) (by unfold saidR; simp [hq]))
    have hlook := set_look (ask := [109]) hown3 (by decide) (show cloAt _ _ _ = (.nilFunc, false) from rfl)
    have z4 := z3
    have hB4 := hB3
    clear hown3
    go_wp2_with fail
    refine (psetting_any 0 [] _).mono ?_
    rintro e w5 ⟨A5, c5, g5, rfl, hr5, hb5⟩
    have hB5 := hB4.trans (hb5.mono hB4.size)
    have z5 := z4.below hb5 z4.lt
    have hr6 := hr5.other z5 (by decide) (by decide) (grown_set6 w5 (w.heap.size + 1) (.int .i64 3) (.int .u8 0) (.slice A5 1 c5) (.string ⟨#[36]⟩) (.int .u8 114) (.string ⟨#[]⟩))
    have hB6 := below_set6 hB5 (b := w.heap.size + 1) (Nat.le_succ _) (.int .i64 3) (.int .u8 0) (.slice A5 1 c5) (.string ⟨#[36]⟩) (.int .u8 114) (.string ⟨#[]⟩)
    obtain ⟨d0, d1, d2, d3, d4, d5⟩ := Blk.cells6 z5
    have y0 := z5.frozen 0
    have y1 := z5.frozen 1
    have y2 := z5.frozen 2
    have y3 := z5.frozen 3
    have y4 := z5.frozen 4
    have y5 := z5.frozen 5
    go_wp2_with fail
    refine bodyPost_ret (v := .agg #[.int .i64 3, .int .u8 0, .slice A5 1 c5, .string ⟨#[36]⟩, .int .u8 114, .string ⟨#[]⟩]) (by simp [results, Tryd.results13, go_sem, d0, d1, d2, d3, d4, d5]) rfl ⟨_, _, by rw [HE.out]; rfl, by rw [HE.out]; exact hr6.rdp, hB6⟩
 ·by_cases h1 : ask = [114]
  ·subst h1
   clear ha
   have HE := Lib.hid (setR_yes (s := s) (ask := [114]) (T := twoR s.top s.bottom ++ [114]) (by unfold saidR; simp) (by simp))
   have hlook := set_look (ask := [114]) hown3 (by decide) (show cloAt _ _ _ = _ from rfl)
   obtain ⟨T, hT⟩ : ∃ T, twoR s.top s.bottom ++ [114] = T := ⟨_, rfl⟩
   have HC : Hid (Calls Tryd.prog 46 #[.pointer (some ⟨g, 0, none⟩)] w3 (TelE T w3)) := Lib.hid (hT ▸ pset1_any k3 ht3)
   rw [hT] at HE
   clear hT hown3
   go_wp2_with fail
   refine HC.out.mono ?_
   rintro e w4 ⟨rfl, hb4⟩
   have hB4 := hB3.trans (hb4.mono hB3.size)
   have z4 := z3.below hb4 z3.lt
   clear hlook HC hb4
   go_wp2_with fail
   refine (psetting_any 1 T _).mono ?_
   rintro e w5 ⟨A5, c5, g5, rfl, hr5, hb5⟩
   have hB5 := hB4.trans (hb5.mono hB4.size)
   have z5 := z4.below hb5 z4.lt
   have hr6 := hr5.other z5 (by decide) (by decide) (grown_set6 w5 (w.heap.size + 1) (.int .i64 3) (.int .u8 0) (.slice A5 1 c5) (.string ⟨#[36]⟩) (.int .u8 114) (.string ⟨T.toArray⟩))
   have hB6 := below_set6 hB5 (b := w.heap.size + 1) (Nat.le_succ _) (.int .i64 3) (.int .u8 0) (.slice A5 1 c5) (.string ⟨#[36]⟩) (.int .u8 114) (.string ⟨T.toArray⟩)
   obtain ⟨d0, d1, d2, d3, d4, d5⟩ := Blk.cells6 z5
   have y0 := z5.frozen 0
   have y1 := z5.frozen 1
   have y2 := z5.frozen 2
   have y3 := z5.frozen 3
   have y4 := z5.frozen 4
   have y5 := z5.frozen 5
   go_wp2_with fail
   refine bodyPost_ret (v := .agg #[.int .i64 3, .int .u8 0, .slice A5 1 c5, .string ⟨#[36]⟩, .int .u8 114, .string ⟨T.toArray⟩]) (by simp [results, Tryd.results13, go_sem, d0, d1, d2, d3, d4, d5]) rfl ⟨_, _, by rw [HE.out]; rfl, by rw [HE.out]; exact hr6.rdp, hB6⟩
  ·by_cases h2 : ask = [115]
   ·subst h2
    clear ha
    have HE := Lib.hid (setR_yes (s := s) (ask := [115]) (T := twoR s.left s.right ++ [115]) (by unfold saidR; simp) (by simp))
    have hlook := set_look (ask := [115]) hown3 (by decide) (show cloAt _ _ _ = _ from rfl)
    obtain ⟨T, hT⟩ : ∃ T, twoR s.left s.right ++ [115] = T := ⟨_, rfl⟩
    have HC : Hid (Calls Tryd.prog 48 #[.pointer (some ⟨g, 0, none⟩)] w3 (TelE T w3)) := Lib.hid (hT ▸ pset2_any k3 ht3)
    rw [hT] at HE
    clear hT hown3
    go_wp2_with fail
    refine HC.out.mono ?_
    rintro e w4 ⟨rfl, hb4⟩
    have hB4 := hB3.trans (hb4.mono hB3.size)
    have z4 := z3.below hb4 z3.lt
    clear hlook HC hb4
    go_wp2_with fail
    refine (psetting_any 1 T _).mono ?_
    rintro e w5 ⟨A5, c5, g5, rfl, hr5, hb5⟩
    have hB5 := hB4.trans (hb5.mono hB4.size)
    have z5 := z4.below hb5 z4.lt
    have hr6 := hr5.other z5 (by decide) (by decide) (grown_set6 w5 (w.heap.size + 1) (.int .i64 3) (.int .u8 0) (.slice A5 1 c5) (.string ⟨#[36]⟩) (.int .u8 114) (.string ⟨T.toArray⟩))
    have hB6 := below_set6 hB5 (b := w.heap.size + 1) (Nat.le_succ _) (.int .i64 3) (.int .u8 0) (.slice A5 1 c5) (.string ⟨#[36]⟩) (.int .u8 114) (.string ⟨T.toArray⟩)
    obtain ⟨d0, d1, d2, d3, d4, d5⟩ := Blk.cells6 z5
    have y0 := z5.frozen 0
    have y1 := z5.frozen 1
    have y2 := z5.frozen 2
    have y3 := z5.frozen 3
    have y4 := z5.frozen 4
    have y5 := z5.frozen 5
    go_wp2_with fail
    refine bodyPost_ret (v := .agg #[.int .i64 3, .int .u8 0, .slice A5 1 c5, .string ⟨#[36]⟩, .int .u8 114, .string ⟨T.toArray⟩]) (by simp [results, Tryd.results13, go_sem, d0, d1, d2, d3, d4, d5]) rfl ⟨_, _, by rw [HE.out]; rfl, by rw [HE.out]; exact hr6.rdp, hB6⟩
   ·by_cases h3 : ask = [32, 113]
    ·subst h3
     clear ha
     have HE := Lib.hid (setR_yes (s := s) (ask := [32, 113]) (T := textL (factR s.shape) ++ [32, 113]) (by unfold saidR; simp) (by simp))
     have hlook := set_look (ask := [32, 113]) hown3 (by decide) (show cloAt _ _ _ = _ from rfl)
     obtain ⟨T, hT⟩ : ∃ T, textL (factR s.shape) ++ [32, 113] = T := ⟨_, rfl⟩
     have HC : Hid (Calls Tryd.prog 49 #[.pointer (some ⟨g, 0, none⟩)] w3 (TelE T w3)) := Lib.hid (hT ▸ pset3_any k3 ht3)
     rw [hT] at HE
     clear hT hown3
     go_wp2_with fail
     refine HC.out.mono ?_
     rintro e w4 ⟨rfl, hb4⟩
     have hB4 := hB3.trans (hb4.mono hB3.size)
     have z4 := z3.below hb4 z3.lt
     clear hlook HC hb4
     go_wp2_with fail
     refine (psetting_any 1 T _).mono ?_
     rintro e w5 ⟨A5, c5, g5, rfl, hr5, hb5⟩
     have hB5 := hB4.trans (hb5.mono hB4.size)
     have z5 := z4.below hb5 z4.lt
     have hr6 := hr5.other z5 (by decide) (by decide) (grown_set6 w5 (w.heap.size + 1) (.int .i64 3) (.int .u8 0) (.slice A5 1 c5) (.string ⟨#[36]⟩) (.int .u8 114) (.string ⟨T.toArray⟩))
     have hB6 := below_set6 hB5 (b := w.heap.size + 1) (Nat.le_succ _) (.int .i64 3) (.int .u8 0) (.slice A5 1 c5) (.string ⟨#[36]⟩) (.int .u8 114) (.string ⟨T.toArray⟩)
     obtain ⟨d0, d1, d2, d3, d4, d5⟩ := Blk.cells6 z5
     have y0 := z5.frozen 0
     have y1 := z5.frozen 1
     have y2 := z5.frozen 2
     have y3 := z5.frozen 3
     have y4 := z5.frozen 4
     have y5 := z5.frozen 5
     go_wp2_with fail
     refine bodyPost_ret (v := .agg #[.int .i64 3, .int .u8 0, .slice A5 1 c5, .string ⟨#[36]⟩, .int .u8 114, .string ⟨T.toArray⟩]) (by simp [results, Tryd.results13, go_sem, d0, d1, d2, d3, d4, d5]) rfl ⟨_, _, by rw [HE.out]; rfl, by rw [HE.out]; exact hr6.rdp, hB6⟩
    ·by_cases h4 : ask = [34, 112]
     ·subst h4
      clear ha
      have HE := Lib.hid (setR_yes (s := s) (ask := [34, 112]) (T := ([54, 50, 59, 49] : List UInt8) ++ [34, 112]) (by unfold saidR; simp) (by simp))
      have hlook := set_look (ask := [34, 112]) hown3 (by decide) (show cloAt _ _ _ = _ from rfl)
      obtain ⟨T, hT⟩ : ∃ T, ([54, 50, 59, 49] : List UInt8) ++ [34, 112] = T := ⟨_, rfl⟩
      have HC : Hid (Calls Tryd.prog 50 #[] w3 (TelE T w3)) := Lib.hid (hT ▸ pset4_any ht3)
      rw [hT] at HE
      clear hT hown3
      go_wp2_with fail
      refine HC.out.mono ?_
      rintro e w4 ⟨rfl, hb4⟩
      have hB4 := hB3.trans (hb4.mono hB3.size)
      have z4 := z3.below hb4 z3.lt
      clear hlook HC hb4
      go_wp2_with fail
      refine (psetting_any 1 T _).mono ?_
      rintro e w5 ⟨A5, c5, g5, rfl, hr5, hb5⟩
      have hB5 := hB4.trans (hb5.mono hB4.size)
      have z5 := z4.below hb5 z4.lt
      have hr6 := hr5.other z5 (by decide) (by decide) (grown_set6 w5 (w.heap.size + 1) (.int .i64 3) (.int .u8 0) (.slice A5 1 c5) (.string ⟨#[36]⟩) (.int .u8 114) (.string ⟨T.toArray⟩))
      have hB6 := below_set6 hB5 (b := w.heap.size + 1) (Nat.le_succ _) (.int .i64 3) (.int .u8 0) (.slice A5 1 c5) (.string ⟨#[36]⟩) (.int .u8 114) (.string ⟨T.toArray⟩)
      obtain ⟨d0, d1, d2, d3, d4, d5⟩ := Blk.cells6 z5
      have y0 := z5.frozen 0
      have y1 := z5.frozen 1
      have y2 := z5.frozen 2
      have y3 := z5.frozen 3
      have y4 := z5.frozen 4
      have y5 := z5.frozen 5
      go_wp2_with fail
      refine bodyPost_ret (v := .agg #[.int .i64 3, .int .u8 0, .slice A5 1 c5, .string ⟨#[36]⟩, .int .u8 114, .string ⟨T.toArray⟩]) (by simp [results, Tryd.results13, go_sem, d0, d1, d2, d3, d4, d5]) rfl ⟨_, _, by rw [HE.out]; rfl, by rw [HE.out]; exact hr6.rdp, hB6⟩
     ·
      have HE := Lib.hid (setR_no (s := s) (ask := ask) (said_known s ⟨h0, h1, h2, h3, h4⟩))
      have hlook := set_look (ask := ask) hown3 ha (show cloAt _ _ _ = (.nilFunc, false) from by unfold cloAt; rw [if_neg h0, if_neg h1, if_neg h2, if_neg h3, if_neg h4])
      have z4 := z3
      have hB4 := hB3
      clear hown3
      go_wp2_with fail
      refine (psetting_any 0 [] _).mono ?_
      rintro e w5 ⟨A5, c5, g5, rfl, hr5, hb5⟩
      have hB5 := hB4.trans (hb5.mono hB4.size)
      have z5 := z4.below hb5 z4.lt
      have hr6 := hr5.other z5 (by decide) (by decide) (grown_set6 w5 (w.heap.size + 1) (.int .i64 3) (.int .u8 0) (.slice A5 1 c5) (.string ⟨#[36]⟩) (.int .u8 114) (.string ⟨#[]⟩))
      have hB6 := below_set6 hB5 (b := w.heap.size + 1) (Nat.le_succ _) (.int .i64 3) (.int .u8 0) (.slice A5 1 c5) (.string ⟨#[36]⟩) (.int .u8 114) (.string ⟨#[]⟩)
      obtain ⟨d0, d1, d2, d3, d4, d5⟩ := Blk.cells6 z5
      have y0 := z5.frozen 0
      have y1 := z5.frozen 1
      have y2 := z5.frozen 2
      have y3 := z5.frozen 3
      have y4 := z5.frozen 4
      have y5 := z5.frozen 5
      go_wp2_with fail
      refine bodyPost_ret (v := .agg #[.int .i64 3, .int .u8 0, .slice A5 1 c5, .string ⟨#[36]⟩, .int .u8 114, .string ⟨#[]⟩]) (by simp [results, Tryd.results13, go_sem, d0, d1, d2, d3, d4, d5]) rfl ⟨_, _, by rw [HE.out]; rfl, by rw [HE.out]; exact hr6.rdp, hB6⟩
end Go.Proofs.YtfifeofmfpjgfaaDoor
