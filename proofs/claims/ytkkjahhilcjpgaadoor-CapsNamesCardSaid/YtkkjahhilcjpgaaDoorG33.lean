/-
  Stage 20, the law's waking.
-/
import Derived.Test.YtkkjahhilcjpgaaDoorG32
namespace Go.Proofs.YtkkjahhilcjpgaaDoor
open Go.RowKit Go.Shelf
theorem rdp_one {w : World} {A : Option Addr} {x : Int} (h : RdP w A [[x]]) : ∃ b o b' o' c', A = some ⟨b, o, none⟩ ∧ w.cell? ⟨b, o, none⟩ = some (.slice (some ⟨b', o', none⟩) 1 c') ∧ w.cell? ⟨b', o', none⟩ = some (.int .i64 x) := by
 obtain ⟨b, o, rfl, _, hc⟩ := h (by simp)
 obtain ⟨A', c', h1, h2⟩ := hc 0 (by simp)
 obtain ⟨b', o', rfl, _, h3⟩ := h2 (by simp [is_])
 exact ⟨b, o, b', o', c', rfl, by simpa using h1, by simpa [is_] using h3 0 (.int .i64 x) (by simp [is_])⟩
set_option maxRecDepth 100000 in
set_option maxHeartbeats 16000000 in
theorem capAwake (w : World) : Calls Tryd.prog 8 #[] w fun e w' => e = .returned (.bool true) ∧ Below w.heap.size w w' := by
 have e1 : ansS [53, 52, 52, 101] = ⟨3, 0, [[1]], [43], 114, [53, 52, 52, 69, 61, 54, 51, 54, 67, 54, 49, 55, 54, 54, 57, 54, 53, 55, 50]⟩ := by kernel_rfl
 have e2 : ansS [53, 56, 53, 56] = ⟨3, 0, [[0]], [43], 114, []⟩ := by kernel_rfl
 have e3 : readS ⟨3, 0, [[1]], [43], 114, [53, 52, 52, 69, 61, 54, 51, 54, 67, 54, 49, 55, 54, 54, 57, 54, 53, 55, 50]⟩ = some [([84, 78], [99, 108, 97, 118, 105, 101, 114])] := by decide +kernel
 have e4 : capV [67, 111] = [50, 53, 54] := by decide +kernel
 have e5 : (lookC [67, 111]).isSome = true := by decide +kernel
 have H1 : Hid (∀ W : World, Calls Tryd.prog 12 #[.string ⟨#[53, 52, 52, 101]⟩] W fun e w' => ∃ A c, e = .returned (.agg #[.int .i64 3, .int .u8 0, .slice A 1 c, .string ⟨#[43]⟩, .int .u8 114, .string ⟨#[53, 52, 52, 69, 61, 54, 51, 54, 67, 54, 49, 55, 54, 54, 57, 54, 53, 55, 50]⟩]) ∧ RdP w' A [[1]] ∧ Below W.heap.size W w') := Lib.hid fun W => by
  refine (e1 ▸ pAnswer20_any [53, 52, 52, 101] (by decide) W).mono ?_
  rintro e w' ⟨A, c, rfl, hr, hb⟩
  exact ⟨A, c, rfl, hr, hb⟩
 have H2 : Hid (∀ W : World, Calls Tryd.prog 12 #[.string ⟨#[53, 56, 53, 56]⟩] W fun e w' => ∃ B d, e = .returned (.agg #[.int .i64 3, .int .u8 0, .slice B 1 d, .string ⟨#[43]⟩, .int .u8 114, .string ⟨#[]⟩]) ∧ RdP w' B [[0]] ∧ Below W.heap.size W w') := Lib.hid fun W => by
  refine (e2 ▸ pAnswer20_any [53, 56, 53, 56] (by decide) W).mono ?_
  rintro e w' ⟨A, c, rfl, hr, hb⟩
  exact ⟨A, c, rfl, hr, hb⟩
 have H3 : Hid (∀ W : World, Calls Tryd.prog 9 #[.string ⟨#[67, 111]⟩] W fun e w' => e = .returned (.tuple #[.string ⟨#[50, 53, 54]⟩, .bool true]) ∧ Below W.heap.size W w') := Lib.hid fun W => by
  have := pLook20_any [67, 111] (by decide) W
  rw [e4, e5] at this
  exact this
 have H4 : Hid (∀ (W : World) A c, RdP W A [[1]] → Calls Tryd.prog 17 #[.agg #[.int .i64 3, .int .u8 0, .slice A 1 c, .string ⟨#[43]⟩, .int .u8 114, .string ⟨#[53, 52, 52, 69, 61, 54, 51, 54, 67, 54, 49, 55, 54, 54, 57, 54, 53, 55, 50]⟩]] W fun e w' => ∃ b o d, e = .returned (.tuple #[.slice (some ⟨b, o, none⟩) 1 d, .bool true]) ∧ w'.cell? ⟨b, o, none⟩ = some (.string ⟨#[84, 78]⟩) ∧ w'.cell? ⟨b, o + 1, none⟩ = some (.string ⟨#[99, 108, 97, 118, 105, 101, 114]⟩) ∧ Below W.heap.size W w') := Lib.hid fun W A c hr => by
  refine (pRead20_any ⟨3, 0, [[1]], [43], 114, [53, 52, 52, 69, 61, 54, 51, 54, 67, 54, 49, 55, 54, 54, 57, 54, 53, 55, 50]⟩ A c W (by decide) (by decide) (by decide) hr).mono ?_
  rintro e w' ⟨hb, h⟩
  rw [e3] at h
  obtain ⟨B, d, rfl, hr2⟩ := h
  obtain ⟨b, o, rfl, _, hc⟩ := hr2 (by simp [prs20])
  exact ⟨b, o, d, rfl, hc 0 _ rfl, hc 1 _ rfl, hb⟩
 clear e1 e2 e3 e4 e5
 go_enter Tryd.func8, Tryd.ntmps8
 go_wp2_with fail
 refine (H1.out _).mono ?_
 rintro e w1 ⟨A, c, rfl, hr1, hb1⟩
 have k1 := Blk.new w1 28 #[.int .i64 3, .int .u8 0, .slice A 1 c, .string ⟨#[43]⟩, .int .u8 114, .string ⟨#[53, 52, 52, 69, 61, 54, 51, 54, 67, 54, 49, 55, 54, 54, 57, 54, 53, 55, 50]⟩]
 have hB1 := hb1.alloc hb1.size (.cells #[.int .i64 3, .int .u8 0, .slice A 1 c, .string ⟨#[43]⟩, .int .u8 114, .string ⟨#[53, 52, 52, 69, 61, 54, 51, 54, 67, 54, 49, 55, 54, 54, 57, 54, 53, 55, 50]⟩] 28)
 replace hr1 := hr1.alloc (.cells #[.int .i64 3, .int .u8 0, .slice A 1 c, .string ⟨#[43]⟩, .int .u8 114, .string ⟨#[53, 52, 52, 69, 61, 54, 51, 54, 67, 54, 49, 55, 54, 54, 57, 54, 53, 55, 50]⟩] 28)
 clear hb1
 go_wp2_with fail
 refine (H2.out _).mono ?_
 rintro e w2 ⟨B, d, rfl, hr2, hb2⟩
 have k2 := Blk.new w2 28 #[.int .i64 3, .int .u8 0, .slice B 1 d, .string ⟨#[43]⟩, .int .u8 114, .string ⟨#[]⟩]
 replace k1 := (k1.below hb2 k1.lt).alloc (.cells #[.int .i64 3, .int .u8 0, .slice B 1 d, .string ⟨#[43]⟩, .int .u8 114, .string ⟨#[]⟩] 28)
 have hB2 := (hB1.trans (hb2.mono hB1.size)).alloc (Nat.le_trans hB1.size hb2.size) (.cells #[.int .i64 3, .int .u8 0, .slice B 1 d, .string ⟨#[43]⟩, .int .u8 114, .string ⟨#[]⟩] 28)
 replace hr1 := (hr1.below hb2).alloc (.cells #[.int .i64 3, .int .u8 0, .slice B 1 d, .string ⟨#[43]⟩, .int .u8 114, .string ⟨#[]⟩] 28)
 replace hr2 := hr2.alloc (.cells #[.int .i64 3, .int .u8 0, .slice B 1 d, .string ⟨#[43]⟩, .int .u8 114, .string ⟨#[]⟩] 28)
 clear hb2 hB1
 go_wp2_with fail
 refine (H3.out _).mono ?_
 rintro e w3 ⟨rfl, hb3⟩
 replace k1 := k1.below hb3 k1.lt
 replace k2 := k2.below hb3 k2.lt
 replace hr1 := hr1.below hb3
 replace hr2 := hr2.below hb3
 have hB3 := hB2.trans (hb3.mono hB2.size)
 have u0 := k1.cell 0
 have u1 := k1.cell 1
 have u2 := k1.cell 2
 have u3 := k1.cell 3
 have u4 := k1.cell 4
 have u5 := k1.cell 5
 clear hb3 hB2
 go_wp2_with fail
 refine (H4.out _ _ _ hr1).mono ?_
 rintro e w4 ⟨b, o, d4, rfl, c0, c1, hb4⟩
 replace k1 := k1.below hb4 k1.lt
 replace k2 := k2.below hb4 k2.lt
 have hB4 := hB3.trans (hb4.mono hB3.size)
 obtain ⟨p0, p1, p2, p3, p4, rfl, p6, p7⟩ := rdp_one (hr1.below hb4)
 obtain ⟨q0, q1, q2, q3, q4, rfl, q6, q7⟩ := rdp_one (hr2.below hb4)
 clear u0 u1 u2 u3 u4 u5 hb4 hB3 hr1 hr2
 have u2 := k1.cell 2
 have u5 := k1.cell 5
 have v2 := k2.cell 2
 have v5 := k2.cell 5
 clear k1 k2
 go_wp2_with fail
 go_ret
 exact ⟨rfl, hB4⟩
end Go.Proofs.YtkkjahhilcjpgaaDoor
