/-
  Layer 3: that the program is awake, as each of the layer's statements asks first.
-/
import Derived.Test.YtmmbfidnbdckmaaDoorWpQ
import Derived.Test.YtmmbfidnbdckmaaDoorWpN
import Derived.Test.YtmmbfidnbdckmaaDoorWpS
import Derived.Test.YtmmbfidnbdckmaaDoorWpG
import Derived.Test.YtmmbfidnbdckmaaDoorRdG
import Derived.Lib.SlBytesConst
namespace Go.Proofs.YtmmbfidnbdckmaaDoor
open Go.RowKit

def aw : Sq := numS 63 99 [1, 2]
theorem aw_text1 : textL 1 = [49] := by rw [textL_small 1 (by omega) (by omega)]; rfl
theorem aw_text2 : textL 2 = [50] := by rw [textL_small 2 (by omega) (by omega)]; rfl
theorem aw_may : mayS aw = 0 := by decide
theorem aw_put : putS aw = [27, 91, 63, 49, 59, 50, 99] := by
  simp [putS, aw, numS, bodyL, privL, parL, partL, aw_text1, aw_text2]
theorem aw_prog : progF [27, 91, 63, 49, 59, 50, 99, 120] = some (aw, [120]) := by
  have := prog_put aw_may [120]
  rw [aw_put] at this
  exact this
theorem aw_take : takeS [27, 91, 63, 49, 59, 50, 99, 120] = some (aw, 7) := by
  have := takeS_put aw_may [120]
  rw [aw_put] at this
  exact this
theorem aw_same : sameB aw aw = true := (sameB_iff _ _).2 rfl
theorem aw_arg1 : argL aw.params 1 9 = 2 := by decide
theorem aw_arg2 : argL aw.params 2 9 = 9 := by decide

set_option maxRecDepth 100000 in
set_option maxHeartbeats 8000000 in
theorem awake_any (w : World) (ht : Tab w) :
    Calls Tryd.prog 9 #[] w fun e w' => e = .returned (.bool true) ∧ Below w.heap.size w w' := by
  have kc := fun (w : World) (C : Array Value) (n c : Nat) => Lib.run_convert_bytes_const (P := Tryd.prog) w 27 5 C n c Tryd.underlying27 Tryd.underlying5
  have hrl : Rd (w.alloc (.cells #[.int .i64 1, .int .i64 2] 3)) (some ⟨w.heap.size, 0, none⟩) (is_ [1, 2]) := Rd.block (heap_alloc_new w _) rfl
  have hb0 : Below w.heap.size w (w.alloc (.cells #[.int .i64 1, .int .i64 2] 3)) := (Below.refl _ w).alloc (Nat.le_refl _) _
  go_enter Tryd.func9, Tryd.ntmps9
  go_wp2_with fail
  refine (num_any 63 99 (some ⟨w.heap.size, 0, none⟩) 2 2 [1, 2] _ rfl (by omega) hrl).mono ?_
  rintro e w1 ⟨⟨A1, c1, rfl, hr1⟩, hb1⟩
  have hb1w := hb0.trans (hb1.mono (by simp))
  clear hrl hb0 hb1
  rw [show sqV (numS 63 99 [1, 2]) A1 c1 = .agg #[.int .i64 1, .int .u8 63, .slice A1 2 c1, .string ⟨#[]⟩, .int .u8 99, .string ⟨#[]⟩] from rfl]
  have hx1 := Blk.new w1 24 #[.int .i64 1, .int .u8 63, .slice A1 2 c1, .string ⟨#[]⟩, .int .u8 99, .string ⟨#[]⟩]
  have hb1v : Below w.heap.size w (w1.alloc (.cells #[.int .i64 1, .int .u8 63, .slice A1 2 c1, .string ⟨#[]⟩, .int .u8 99, .string ⟨#[]⟩] 24)) := hb1w.alloc hb1w.size _
  have hr1v := hr1.below ((Below.refl _ w1).alloc (Nat.le_refl _) (.cells #[.int .i64 1, .int .u8 63, .slice A1 2 c1, .string ⟨#[]⟩, .int .u8 99, .string ⟨#[]⟩] 24))
  have hlt1 : w1.heap.size < (w1.alloc (.cells #[.int .i64 1, .int .u8 63, .slice A1 2 c1, .string ⟨#[]⟩, .int .u8 99, .string ⟨#[]⟩] 24)).heap.size := hx1.lt
  clear hr1 hb1w
  go_wp2_with fail
  generalize w1.alloc (.cells #[.int .i64 1, .int .u8 63, .slice A1 2 c1, .string ⟨#[]⟩, .int .u8 99, .string ⟨#[]⟩] 24) = W1 at *
  refine (pput_yes aw A1 c1 _ aw_may (ht.below hb1v) hr1v).mono ?_
  rintro e w2 ⟨⟨A2, c2, rfl, hc2, hr2⟩, hb2⟩
  rw [aw_put] at hr2 hc2 ⊢
  have hb2w := hb1v.trans (hb2.mono hb1v.size)
  have hx2 := hx1.below hb2 hlt1
  have hr12 := hr1v.below hb2
  clear hb2 hx1 hr1v hb1v hlt1
  have hrt : Rd (w2.alloc (.cells #[.int .u8 27, .int .u8 91, .int .u8 63, .int .u8 49, .int .u8 59, .int .u8 50, .int .u8 99, .int .u8 120] 5 (8, 9))) (some ⟨w2.heap.size, 0, none⟩) (bs [27, 91, 63, 49, 59, 50, 99, 120]) := Rd.block (heap_alloc_new w2 _) rfl
  have hb3v : Below w.heap.size w (w2.alloc (.cells #[.int .u8 27, .int .u8 91, .int .u8 63, .int .u8 49, .int .u8 59, .int .u8 50, .int .u8 99, .int .u8 120] 5 (8, 9))) := hb2w.alloc hb2w.size _
  have hx3 := hx2.alloc (.cells #[.int .u8 27, .int .u8 91, .int .u8 63, .int .u8 49, .int .u8 59, .int .u8 50, .int .u8 99, .int .u8 120] 5 (8, 9))
  have hr13 := hr12.alloc (.cells #[.int .u8 27, .int .u8 91, .int .u8 63, .int .u8 49, .int .u8 59, .int .u8 50, .int .u8 99, .int .u8 120] 5 (8, 9))
  have hr23 := hr2.alloc (.cells #[.int .u8 27, .int .u8 91, .int .u8 63, .int .u8 49, .int .u8 59, .int .u8 50, .int .u8 99, .int .u8 120] 5 (8, 9))
  clear hx2 hr12 hr2 hb2w
  go_wp2_with fail
  generalize w2.alloc (.cells #[.int .u8 27, .int .u8 91, .int .u8 63, .int .u8 49, .int .u8 59, .int .u8 50, .int .u8 99, .int .u8 120] 5 (8, 9)) = W2 at *
  refine (ptake_yes (some ⟨w2.heap.size, 0, none⟩) 8 8 [27, 91, 63, 49, 59, 50, 99, 120] aw 7 _ aw_take rfl (Nat.le_refl _) (by omega) (ht.below hb3v) hrt).mono ?_
  rintro e w4 ⟨⟨A4, c4, rfl, hr4⟩, hb4⟩
  rw [show sqV aw A4 c4 = .agg #[.int .i64 1, .int .u8 63, .slice A4 2 c4, .string ⟨#[]⟩, .int .u8 99, .string ⟨#[]⟩] from rfl]
  have hb4w := hb3v.trans (hb4.mono hb3v.size)
  have hx4 := hx3.below hb4 hx3.lt
  have hr14 := hr13.below hb4
  have hr24 := hr23.below hb4
  clear hb4 hx3 hr13 hr23 hb3v hrt
  have hx5 := hx4.alloc (.cells #[.int .i64 1, .int .u8 63, .slice A4 2 c4, .string ⟨#[]⟩, .int .u8 99, .string ⟨#[]⟩] 24)
  have hy5 := Blk.new w4 24 #[.int .i64 1, .int .u8 63, .slice A4 2 c4, .string ⟨#[]⟩, .int .u8 99, .string ⟨#[]⟩]
  have hr15 := hr14.alloc (.cells #[.int .i64 1, .int .u8 63, .slice A4 2 c4, .string ⟨#[]⟩, .int .u8 99, .string ⟨#[]⟩] 24)
  have hr25 := hr24.alloc (.cells #[.int .i64 1, .int .u8 63, .slice A4 2 c4, .string ⟨#[]⟩, .int .u8 99, .string ⟨#[]⟩] 24)
  have hr45 := hr4.alloc (.cells #[.int .i64 1, .int .u8 63, .slice A4 2 c4, .string ⟨#[]⟩, .int .u8 99, .string ⟨#[]⟩] 24)
  have hb5 : Below w.heap.size w (w4.alloc (.cells #[.int .i64 1, .int .u8 63, .slice A4 2 c4, .string ⟨#[]⟩, .int .u8 99, .string ⟨#[]⟩] 24)) := hb4w.alloc hb4w.size _
  clear hx4 hr14 hr24 hr4 hb4w
  go_upto_region 4 with (fail)
  generalize w4.alloc (.cells #[.int .i64 1, .int .u8 63, .slice A4 2 c4, .string ⟨#[]⟩, .int .u8 99, .string ⟨#[]⟩] 24) = W5 at *
  have hcv := conv_str (P := Tryd.prog) (w := W5) Tryd.underlying27 Tryd.underlying5 (A := A2) (n := 7) (c := c2) (l := [27, 91, 63, 49, 59, 50, 99]) rfl hr25 9 Tryd.underlying9
  obtain ⟨x0, x1, x2, x3, x4, x5⟩ := Blk.cells6 hx5
  obtain ⟨y0, y1, y2, y3, y4, y5⟩ := Blk.cells6 hy5
  go_wp2_with fail
  clear hcv
  refine (psame_any aw aw A1 A4 c1 c4 true _ aw_same (by decide) (by decide) (by decide) (by decide) hr15 hr45).mono ?_
  rintro e w6 ⟨rfl, hb6⟩
  have hx6 := hx5.below hb6 hx5.lt
  have hr16 := hr15.below hb6
  have hb6w := hb5.trans (hb6.mono hb5.size)
  clear hx5 hy5 hr15 hr25 hr45 hb5 hb6 x0 x1 x2 x3 x4 x5 y0 y1 y2 y3 y4 y5
  obtain ⟨x0, x1, x2, x3, x4, x5⟩ := Blk.cells6 hx6
  go_wp2_with fail
  refine (parg_any aw A1 c1 1 9 2 _ aw_arg1 (by omega) (by omega) (by decide) hr16).mono ?_
  rintro e w7 ⟨rfl, hb7⟩
  have hx7 := hx6.below hb7 hx6.lt
  have hr17 := hr16.below hb7
  have hb7w := hb6w.trans (hb7.mono hb6w.size)
  clear hx6 hr16 hb6w hb7 x0 x1 x2 x3 x4 x5
  obtain ⟨x0, x1, x2, x3, x4, x5⟩ := Blk.cells6 hx7
  go_wp2_with fail
  refine (parg_any aw A1 c1 2 9 9 _ aw_arg2 (by omega) (by omega) (by decide) hr17).mono ?_
  rintro e w8 ⟨rfl, hb8⟩
  go_wp2_with fail
  go_ret
  exact ⟨rfl, hb7w.trans (hb8.mono hb7w.size)⟩
end Go.Proofs.YtmmbfidnbdckmaaDoor
