/-
  Stage 19, the landed report, walked: Num with its rows, setting, Place.
-/
import Derived.Test.YtfifeofmfpjgfaaDoorG07
import Derived.Test.YtfifeofmfpjgfaaDoorG19
import Derived.Test.YtfifeofmfpjgfaaDoorG26
namespace Go.Proofs.YtfifeofmfpjgfaaDoor
open Go.RowKit
def NumR (a f : Int) (l : List Int) (n : Nat) (w : World) (e : Ending) (w' : World) : Prop := ∃ A c g, e = .returned (.agg #[.int .i64 1, .int .u8 a, .slice A n c, .string ⟨#[]⟩, .int .u8 f, .string ⟨#[]⟩]) ∧ RdPN g w' A (l.map fun n => [n]) ∧ Below w.heap.size w w'
theorem rnum_any (a f : UInt8) (a' f' : Int) (ha : (a.toNat : Int) = a') (hf : (f.toNat : Int) = f') (l : List Int) (n : Nat) (hn : l.length = n) (hl : n ≤ 4294967296) (A : Option Addr) (c : Nat) (w : World) (hr : Rd w A (is_ l)) : Calls Tryd.prog 30 #[.int .u8 a', .int .u8 f', .slice A n c] w (NumR a' f' l n w) := by
 subst ha hf
 refine (num_anyN a f A n c l w hn hl hr).mono ?_
 rintro e w' ⟨⟨B, d, g, rfl, hr'⟩, hb⟩
 refine ⟨B, d, g, ?_, hr', hb⟩
 unfold sqV numS
 simp only [List.length_map, hn]
theorem rdpn_lit (w : World) (x : Int) : RdPN (w.heap.size + 2) ((w.alloc (.cells #[.int .i64 x] 3)).alloc (.cells #[.slice (some ⟨w.heap.size, 0, none⟩) 1 1] 52)) (some ⟨w.heap.size + 1, 0, none⟩) [[x]] := fun _ => by
 have h0 := heap_alloc_new (w.alloc (.cells #[.int .i64 x] 3)) (.cells #[.slice (some ⟨w.heap.size, 0, none⟩) 1 1] 52)
 rw [World.size_alloc] at h0
 have h1 := (Below.heap_alloc (w.alloc (.cells #[.int .i64 x] 3)) (.cells #[.slice (some ⟨w.heap.size, 0, none⟩) 1 1] 52) w.heap.size (by simp)).trans (heap_alloc_new w (.cells #[.int .i64 x] 3))
 refine ⟨w.heap.size + 1, 0, rfl, by omega, ⟨_, _, h0⟩, fun k hk => ?_⟩
 obtain rfl : k = 0 := by simpa using hk
 refine ⟨some ⟨w.heap.size, 0, none⟩, 1, cell_of_row _ _ 0 _ _ _ h0, fun _ => ⟨w.heap.size, 0, rfl, by omega, ⟨_, _, h1⟩, fun j u hu => ?_⟩⟩
 match j, hu with
 | 0, hu =>
   obtain rfl : Value.int .i64 x = u := by simpa [is_] using hu
   exact cell_of_row _ _ 0 _ _ _ h1
def SetN (h : Int) (d : List UInt8) (w : World) (e : Ending) (w' : World) : Prop := ∃ A c g, e = .returned (.agg #[.int .i64 3, .int .u8 0, .slice A 1 c, .string ⟨#[36]⟩, .int .u8 114, .string ⟨d.toArray⟩]) ∧ RdPN g w' A [[h]] ∧ Below w.heap.size w w'
set_option maxRecDepth 100000 in
set_option maxHeartbeats 16000000 in
theorem psetting_any (h : Int) (d : List UInt8) (w : World) : Calls Tryd.prog 34 #[.int .i64 h, .string ⟨d.toArray⟩] w (SetN h d w) := by
 have hB := (((Below.refl w.heap.size w).alloc (Nat.le_refl _) (.cells #[.int .i64 3, .int .u8 0, .slice (some ⟨w.heap.size + 1 + 1, 0, none⟩) 1 1, .string ⟨#[36]⟩, .int .u8 114, .string ⟨d.toArray⟩] 30)).alloc (by simp) (.cells #[.int .i64 h] 3)).alloc (by simp; omega) (.cells #[.slice (some ⟨w.heap.size + 1, 0, none⟩) 1 1] 52)
 have hr := rdpn_lit (w.alloc (.cells #[.int .i64 3, .int .u8 0, .slice (some ⟨w.heap.size + 1 + 1, 0, none⟩) 1 1, .string ⟨#[36]⟩, .int .u8 114, .string ⟨d.toArray⟩] 30)) h
 simp only [World.size_alloc] at hr
 go_enter Tryd.func34, Tryd.ntmps34
 go_wp2_with fail
 refine bodyPost_ret (v := .agg #[.int .i64 3, .int .u8 0, .slice (some ⟨w.heap.size + 1 + 1, 0, none⟩) 1 1, .string ⟨#[36]⟩, .int .u8 114, .string ⟨d.toArray⟩]) (by simp [results, Tryd.results34, go_sem]) rfl ⟨_, _, _, rfl, hr, hB⟩
set_option maxRecDepth 100000 in
set_option maxHeartbeats 16000000 in
theorem pplace_any (s : Sc) (p : Bool) (w : World) : Calls Tryd.prog 11 #[scV s, .bool p] w (RepE (placeR s p) w) := by
 obtain ⟨f1, h1⟩ : ∃ f, factR s.row = f := ⟨_, rfl⟩
 obtain ⟨f2, h2⟩ : ∃ f, factR s.col = f := ⟨_, rfl⟩
 have HF1 : Hid (∀ W, Calls Tryd.prog 29 #[.int .i64 s.row] W fun e w' => e = .returned (.int .i64 f1) ∧ Below W.heap.size W w') := Lib.hid fun W => pfact_any _ _ h1 W
 have HF2 : Hid (∀ W, Calls Tryd.prog 29 #[.int .i64 s.col] W fun e w' => e = .returned (.int .i64 f2) ∧ Below W.heap.size W w') := Lib.hid fun W => pfact_any _ _ h2 W
 have HP : Hid (placeR s p = if p = true then sqP 63 82 [f1, f2, 1] else sqP 0 82 [f1, f2]) := Lib.hid (by rw [← h1, ← h2]; rfl)
 have HN1 : Hid (∀ A c W, Rd W A (is_ [f1, f2, 1]) → Calls Tryd.prog 30 #[.int .u8 63, .int .u8 82, .slice A 3 c] W (NumR 63 82 [f1, f2, 1] 3 W)) := Lib.hid fun A c W hr => rnum_any 63 82 63 82 rfl rfl _ 3 rfl (by decide) A c W hr
 have HN0 : Hid (∀ A c W, Rd W A (is_ [f1, f2]) → Calls Tryd.prog 30 #[.int .u8 0, .int .u8 82, .slice A 2 c] W (NumR 0 82 [f1, f2] 2 W)) := Lib.hid fun A c W hr => rnum_any 0 82 0 82 rfl rfl _ 2 rfl (by decide) A c W hr
 obtain ⟨R, hR⟩ : ∃ R, placeR s p = R := ⟨_, rfl⟩
 rw [hR] at HP ⊢
 clear h1 h2 hR
 obtain ⟨s0, s1, s2, s3, s4, s5, s6, s7, s8, ⟨s9, s10, s11, s12, s13, s14, s15, s16, s17, s18⟩⟩ := s
 unfold scV
 simp only at HF1 HF2 ⊢
 have kb := (Blk.new w 25 #[.int .i64 s0, .int .i64 s1, .int .i64 s2, .int .i64 s3, .int .i64 s4, .int .i64 s5, .int .i64 s6, .int .i64 s7, .int .i64 s8, .bool s9, .bool s10, .bool s11, .bool s12, .bool s13, .bool s14, .bool s15, .int .i64 s16, .int .i64 s17, .int .i64 s18]).alloc (.cells #[.int .i64 0, .int .u8 0, .slice none 0 0, .string ⟨#[]⟩, .int .u8 0, .string ⟨#[]⟩] 30)
 have z0 := Blk.new (w.alloc (.cells #[.int .i64 s0, .int .i64 s1, .int .i64 s2, .int .i64 s3, .int .i64 s4, .int .i64 s5, .int .i64 s6, .int .i64 s7, .int .i64 s8, .bool s9, .bool s10, .bool s11, .bool s12, .bool s13, .bool s14, .bool s15, .int .i64 s16, .int .i64 s17, .int .i64 s18] 25)) 30 #[.int .i64 0, .int .u8 0, .slice none 0 0, .string ⟨#[]⟩, .int .u8 0, .string ⟨#[]⟩]
 rw [World.size_alloc] at z0
 have hB0 := ((Below.refl w.heap.size w).alloc (Nat.le_refl _) (.cells #[.int .i64 s0, .int .i64 s1, .int .i64 s2, .int .i64 s3, .int .i64 s4, .int .i64 s5, .int .i64 s6, .int .i64 s7, .int .i64 s8, .bool s9, .bool s10, .bool s11, .bool s12, .bool s13, .bool s14, .bool s15, .int .i64 s16, .int .i64 s17, .int .i64 s18] 25)).alloc (by simp) (.cells #[.int .i64 0, .int .u8 0, .slice none 0 0, .string ⟨#[]⟩, .int .u8 0, .string ⟨#[]⟩] 30)
 go_enter Tryd.func11, Tryd.ntmps11
 go_wp2_with fail
 obtain ⟨w1, hw1⟩ : ∃ x, (w.alloc (.cells #[.int .i64 s0, .int .i64 s1, .int .i64 s2, .int .i64 s3, .int .i64 s4, .int .i64 s5, .int .i64 s6, .int .i64 s7, .int .i64 s8, .bool s9, .bool s10, .bool s11, .bool s12, .bool s13, .bool s14, .bool s15, .int .i64 s16, .int .i64 s17, .int .i64 s18] 25)).alloc (.cells #[.int .i64 0, .int .u8 0, .slice none 0 0, .string ⟨#[]⟩, .int .u8 0, .string ⟨#[]⟩] 30) = x := ⟨_, rfl⟩
 rw [hw1] at kb z0 hB0 ⊢
 clear hw1
 have hst : ∀ f ∈ ([] : List Fact), f.ok := fun _ h => by cases h
 refine wp_region_told (w1 := w1) (K := []) (ix := 1000) (R0 := fun _ _ _ => True) (R1 := fun _ _ _ => True) [] (⟨#[.agg #[.int .i64 s0, .int .i64 s1, .int .i64 s2, .int .i64 s3, .int .i64 s4, .int .i64 s5, .int .i64 s6, .int .i64 s7, .int .i64 s8, .bool s9, .bool s10, .bool s11, .bool s12, .bool s13, .bool s14, .bool s15, .int .i64 s16, .int .i64 s17, .int .i64 s18], .bool p, .pointer (some ⟨w.heap.size, 0, none⟩), undef, .pointer (some ⟨(w.heap.size + 1), 0, none⟩), .int .i64 f1, .int .i64 f2, .pointer (some ⟨w.heap.size, 2, none⟩), .int .i64 s2, .int .i64 f1, .pointer (some ⟨w.heap.size, 3, none⟩), .int .i64 s3, .int .i64 f2, undef, undef, undef, undef, undef, undef, undef, undef, undef], []⟩) (fun g => ⟨#[.agg #[.int .i64 s0, .int .i64 s1, .int .i64 s2, .int .i64 s3, .int .i64 s4, .int .i64 s5, .int .i64 s6, .int .i64 s7, .int .i64 s8, .bool s9, .bool s10, .bool s11, .bool s12, .bool s13, .bool s14, .bool s15, .int .i64 s16, .int .i64 s17, .int .i64 s18], .bool p, .pointer (some ⟨w.heap.size, 0, none⟩), undef, .pointer (some ⟨(w.heap.size + 1), 0, none⟩), .int .i64 f1, .int .i64 f2, .pointer (some ⟨w.heap.size, 2, none⟩), .int .i64 s2, .int .i64 f1, .pointer (some ⟨w.heap.size, 3, none⟩), .int .i64 s3, .int .i64 f2, undef, undef, undef, undef, undef, undef, undef, undef, undef], []⟩) [.pointer (some ⟨w.heap.size, 2, none⟩), .int .i64 s2, .int .i64 f1, .pointer (some ⟨w.heap.size, 3, none⟩), .int .i64 s3, .int .i64 f2, .int .i64 f1, .int .i64 f2] (by kernel_rfl) (by kernel_rfl) (by kernel_rfl) (fun g => by kernel_rfl) (by kernel_rfl) (Below.refl _ _).drew (by decide) (by kernel_rfl)
  (goes_cons (gkP (fun _ => .pointer (some ⟨w.heap.size, 2, none⟩)))
  (goes_cons (gkC hst (fun W hW => (kb.below hW kb.lt).cell 2))
  (goes_cons (gkK (fun g => #[.int .i64 s2]) hst (fun g W hW hin => HF1.out W))
  (goes_cons (gkP (fun _ => .pointer (some ⟨w.heap.size, 3, none⟩)))
  (goes_cons (gkC hst (fun W hW => (kb.below hW kb.lt).cell 3))
  (goes_cons (gkK (fun g => #[.int .i64 s3]) hst (fun g W hW hin => HF2.out W))
  (goes_cons (gkP (fun _ => .int .i64 f1))
  (goes_cons (gkP (fun _ => .int .i64 f2)) goes_nil)))))))) ?_
 intro g w3 hW _
 have hB3 := hB0.trans (hW.mono hB0.size)
 have z3 := z0.below hW z0.lt
 clear hW hB0 z0 kb hst HF1 HF2
 cases p with
 | true =>
   have HE := Lib.hid (show R = sqP 63 82 [f1, f2, 1] from HP.out)
   clear HP
   have hr4 : Rd (w3.alloc (.cells #[.int .i64 f1, .int .i64 f2, .int .i64 1] 3)) (some ⟨w3.heap.size, 0, none⟩) (is_ [f1, f2, 1]) := Rd.block (heap_alloc_new w3 _) (by simp [is_])
   have z4 := z3.alloc (.cells #[.int .i64 f1, .int .i64 f2, .int .i64 1] 3)
   have hB4 := hB3.alloc hB3.size (.cells #[.int .i64 f1, .int .i64 f2, .int .i64 1] 3)
   go_wp2_with fail
   refine (HN1.out _ 3 _ hr4).mono ?_
   rintro e w5 ⟨A5, c5, g5, rfl, hr5, hb5⟩
   have hB5 := hB4.trans (hb5.mono hB4.size)
   have z5 := z4.below hb5 z4.lt
   clear hr4 hb5 hB4 z4
   have hr6 := hr5.other z5 (by decide) (by decide) (grown_set6 w5 (w.heap.size + 1) (.int .i64 1) (.int .u8 63) (.slice A5 3 c5) (.string ⟨#[]⟩) (.int .u8 82) (.string ⟨#[]⟩))
   have hB6 := below_set6 hB5 (b := w.heap.size + 1) (Nat.le_succ _) (.int .i64 1) (.int .u8 63) (.slice A5 3 c5) (.string ⟨#[]⟩) (.int .u8 82) (.string ⟨#[]⟩)
   obtain ⟨d0, d1, d2, d3, d4, d5⟩ := Blk.cells6 z5
   have y0 := z5.frozen 0
   have y1 := z5.frozen 1
   have y2 := z5.frozen 2
   have y3 := z5.frozen 3
   have y4 := z5.frozen 4
   have y5 := z5.frozen 5
   go_wp2_with fail
   refine bodyPost_ret (v := .agg #[.int .i64 1, .int .u8 63, .slice A5 3 c5, .string ⟨#[]⟩, .int .u8 82, .string ⟨#[]⟩]) (by simp [results, Tryd.results11, go_sem, d0, d1, d2, d3, d4, d5]) rfl ⟨_, _, by rw [HE.out]; rfl, by rw [HE.out]; exact hr6.rdp, hB6⟩
 | false =>
   have HE := Lib.hid (show R = sqP 0 82 [f1, f2] from HP.out)
   clear HP
   have hr4 : Rd (w3.alloc (.cells #[.int .i64 f1, .int .i64 f2] 3)) (some ⟨w3.heap.size, 0, none⟩) (is_ [f1, f2]) := Rd.block (heap_alloc_new w3 _) (by simp [is_])
   have z4 := z3.alloc (.cells #[.int .i64 f1, .int .i64 f2] 3)
   have hB4 := hB3.alloc hB3.size (.cells #[.int .i64 f1, .int .i64 f2] 3)
   go_wp2_with fail
   refine (HN0.out _ 2 _ hr4).mono ?_
   rintro e w5 ⟨A5, c5, g5, rfl, hr5, hb5⟩
   have hB5 := hB4.trans (hb5.mono hB4.size)
   have z5 := z4.below hb5 z4.lt
   clear hr4 hb5 hB4 z4
   have hr6 := hr5.other z5 (by decide) (by decide) (grown_set6 w5 (w.heap.size + 1) (.int .i64 1) (.int .u8 0) (.slice A5 2 c5) (.string ⟨#[]⟩) (.int .u8 82) (.string ⟨#[]⟩))
   have hB6 := below_set6 hB5 (b := w.heap.size + 1) (Nat.le_succ _) (.int .i64 1) (.int .u8 0) (.slice A5 2 c5) (.string ⟨#[]⟩) (.int .u8 82) (.string ⟨#[]⟩)
   obtain ⟨d0, d1, d2, d3, d4, d5⟩ := Blk.cells6 z5
   have y0 := z5.frozen 0
   have y1 := z5.frozen 1
   have y2 := z5.frozen 2
   have y3 := z5.frozen 3
   have y4 := z5.frozen 4
   have y5 := z5.frozen 5
   go_wp2_with fail
   refine bodyPost_ret (v := .agg #[.int .i64 1, .int .u8 0, .slice A5 2 c5, .string ⟨#[]⟩, .int .u8 82, .string ⟨#[]⟩]) (by simp [results, Tryd.results11, go_sem, d0, d1, d2, d3, d4, d5]) rfl ⟨_, _, by rw [HE.out]; rfl, by rw [HE.out]; exact hr6.rdp, hB6⟩
end Go.Proofs.YtfifeofmfpjgfaaDoor
