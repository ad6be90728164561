/-
  Stage 19, walked: Flags and Mode, the document's and the program's; the document's Place.
-/
import Derived.Test.YtfifeofmfpjgfaaDoorG17
import Derived.Test.YtfifeofmfpjgfaaDoorG35
import Derived.Test.YtfifeofmfpjgfaaDoorG37
import Derived.Test.YtfifeofmfpjgfaaDoorG38
namespace Go.Proofs.YtfifeofmfpjgfaaDoor
open Go.RowKit
def NumF (a f : Int) (l : List Int) (n : Nat) (v : Value) (w : World) : Prop := ∃ A c g, v = .agg #[.int .i64 1, .int .u8 a, .slice A n c, .string ⟨#[]⟩, .int .u8 f, .string ⟨#[]⟩] ∧ RdPN g w A (l.map fun n => [n])
theorem numf_ok (i : Nat) (d : Tmp) (a f : Int) (l : List Int) (n : Nat) : (⟨i, d, NumF a f l n⟩ : Fact).ok := fun _ _ _ ⟨A, c, g, e, h⟩ hb => ⟨A, c, g, e, h.below hb⟩
theorem numf_of {a f : Int} {l : List Int} {n : Nat} {w w' : World} {e : Ending} (h : NumR a f l n w e w') : ∃ v, e = .returned v ∧ NumF a f l n v w' ∧ Below w.heap.size w w' := by
 obtain ⟨A, c, g, rfl, hr, hb⟩ := h
 exact ⟨_, rfl, ⟨A, c, g, rfl, hr⟩, hb⟩
theorem frw_rd {l : List Int} {cs : Array Value} {n : Nat} {v : Value} {w : World} (hc : cs = (is_ l).toArray) (h : FRw cs n v w) : ∃ A, v = .slice A n n ∧ Rd w A (is_ l) := by
 obtain ⟨b, e, hk⟩ := h
 subst hc
 exact ⟨_, e, Rd.block hk (by simp)⟩
set_option maxRecDepth 100000 in
set_option maxHeartbeats 16000000 in
theorem rflags19_any (f : Int) (w : World) : Calls Tryd.prog 20 #[.int .i64 f] w (RepE (flagsR f) w) := by
 obtain ⟨G, hG⟩ : ∃ G, flg f = G := ⟨_, rfl⟩
 have HE := Lib.hid (show flagsR f = sqP 63 117 [G] by rw [← hG]; rfl)
 obtain ⟨R, hR⟩ : ∃ R, flagsR f = R := ⟨_, rfl⟩
 rw [hR] at HE ⊢
 clear hR
 have HF : Hid (∀ W, Calls Tryd.prog 39 #[.int .i64 f] W fun e w' => e = .returned (.int .i64 G) ∧ Below W.heap.size W w') := Lib.hid fun W => hG ▸ rflags_any f W
 clear hG
 have HC : Hid (∀ A c W, Rd W A (is_ [G]) → Calls Tryd.prog 31 #[.int .u8 63, .int .u8 117, .slice A 1 c] W (NumR 63 117 [G] 1 W)) := Lib.hid fun A c W hr => rnums19_any 63 117 A _ 1 c rfl (by decide) W hr
 have z0 := Blk.new w 30 #[.int .i64 0, .int .u8 0, .slice none 0 0, .string ⟨#[]⟩, .int .u8 0, .string ⟨#[]⟩]
 have hB0 := (Below.refl w.heap.size w).alloc (Nat.le_refl _) (.cells #[.int .i64 0, .int .u8 0, .slice none 0 0, .string ⟨#[]⟩, .int .u8 0, .string ⟨#[]⟩] 30)
 go_enter Tryd.func20, Tryd.ntmps20
 go_wp2_with fail
 refine (HF.out _).mono ?_
 rintro e w2 ⟨rfl, hb2⟩
 have hB2 := hB0.trans (hb2.mono hB0.size)
 have z2 := z0.below hb2 z0.lt
 clear hB0 z0 hb2
 have hr4 : Rd (w2.alloc (.cells #[.int .i64 G] 3)) (some ⟨w2.heap.size, 0, none⟩) (is_ [G]) := Rd.block (heap_alloc_new w2 _) (by simp [is_])
 have z4 := z2.alloc (.cells #[.int .i64 G] 3)
 have hB4 := hB2.alloc hB2.size (.cells #[.int .i64 G] 3)
 try simp only [World.size_alloc] at hr4
 go_wp2_with fail
 refine (HC.out _ 1 _ hr4).mono ?_
 rintro e w5 ⟨A5, c5, g5, rfl, hr5, hb5⟩
 have hB5 := hB4.trans (hb5.mono hB4.size)
 have z5 := z4.below hb5 z4.lt
 clear hr4 hb5 hB4 z4
 have hr6 := hr5.other z5 (by decide) (by decide) (grown_set6 w5 (w.heap.size) (.int .i64 1) (.int .u8 63) (.slice A5 1 c5) (.string ⟨#[]⟩) (.int .u8 117) (.string ⟨#[]⟩))
 have hB6 := below_set6 hB5 (b := w.heap.size) (by omega) (.int .i64 1) (.int .u8 63) (.slice A5 1 c5) (.string ⟨#[]⟩) (.int .u8 117) (.string ⟨#[]⟩)
 obtain ⟨d0, d1, d2, d3, d4, d5⟩ := Blk.cells6 z5
 have y0 := z5.frozen 0
 have y1 := z5.frozen 1
 have y2 := z5.frozen 2
 have y3 := z5.frozen 3
 have y4 := z5.frozen 4
 have y5 := z5.frozen 5
 go_wp2_with fail
 refine bodyPost_ret (v := .agg #[.int .i64 1, .int .u8 63, .slice A5 1 c5, .string ⟨#[]⟩, .int .u8 117, .string ⟨#[]⟩]) (by simp [results, Tryd.results20, go_sem, d0, d1, d2, d3, d4, d5]) rfl ⟨_, _, by rw [HE.out]; rfl, by rw [HE.out]; exact hr6.rdp, hB6⟩
set_option maxRecDepth 100000 in
set_option maxHeartbeats 16000000 in
theorem pflags19_any (f : Int) (w : World) : Calls Tryd.prog 19 #[.int .i64 f] w (RepE (flagsR f) w) := by
 obtain ⟨G, hG⟩ : ∃ G, flg f = G := ⟨_, rfl⟩
 have HE := Lib.hid (show flagsR f = sqP 63 117 [G] by rw [← hG]; rfl)
 obtain ⟨R, hR⟩ : ∃ R, flagsR f = R := ⟨_, rfl⟩
 rw [hR] at HE ⊢
 clear hR
 have HF : Hid (∀ W, Calls Tryd.prog 38 #[.agg #[.int .i64 0, .slice none 0 0], .int .i64 f] W fun e w' => ∃ A k c, e = .returned (.agg #[.int .i64 G, .slice A k c]) ∧ Below W.heap.size W w') := Lib.hid fun W => by
  refine (pspush_any (S := fun _ => False) ⟨0, []⟩ none 0 0 f W (fun _ h => h.elim) rfl (by decide) (by decide) (fun h => absurd h (by decide))).mono ?_
  rintro e w' ⟨A, k, c, rfl, _, _, hb⟩
  exact ⟨A, k, c, by rw [← hG]; rfl, hb⟩
 have hfl : ∀ (A : Option Addr) (k c : Nat) (W : World), (Instr.field 64 (.agg #[.int .i64 G, .slice A k c]) 0).run Tryd.prog W = .ok (.int .i64 G) W := fun A k c W => by kernel_rfl
 clear hG
 have HC : Hid (∀ A c W, Rd W A (is_ [G]) → Calls Tryd.prog 30 #[.int .u8 63, .int .u8 117, .slice A 1 c] W (NumR 63 117 [G] 1 W)) := Lib.hid fun A c W hr => rnum_any 63 117 63 117 rfl rfl _ 1 rfl (by decide) A c W hr
 have z0 := Blk.new w 30 #[.int .i64 0, .int .u8 0, .slice none 0 0, .string ⟨#[]⟩, .int .u8 0, .string ⟨#[]⟩]
 have hB0 := (Below.refl w.heap.size w).alloc (Nat.le_refl _) (.cells #[.int .i64 0, .int .u8 0, .slice none 0 0, .string ⟨#[]⟩, .int .u8 0, .string ⟨#[]⟩] 30)
 go_enter Tryd.func19, Tryd.ntmps19
 go_wp2_with fail
 refine (HF.out _).mono ?_
 rintro e w2 ⟨A2, k2, c2, rfl, hb2⟩
 have hB2 := hB0.trans (hb2.mono hB0.size)
 have z2 := z0.below hb2 z0.lt
 clear hB0 z0 hb2
 have hr4 : Rd (w2.alloc (.cells #[.int .i64 G] 3)) (some ⟨w2.heap.size, 0, none⟩) (is_ [G]) := Rd.block (heap_alloc_new w2 _) (by simp [is_])
 have z4 := z2.alloc (.cells #[.int .i64 G] 3)
 have hB4 := hB2.alloc hB2.size (.cells #[.int .i64 G] 3)
 try simp only [World.size_alloc] at hr4
 go_wp2_with fail
 refine (HC.out _ 1 _ hr4).mono ?_
 rintro e w5 ⟨A5, c5, g5, rfl, hr5, hb5⟩
 have hB5 := hB4.trans (hb5.mono hB4.size)
 have z5 := z4.below hb5 z4.lt
 clear hr4 hb5 hB4 z4
 have hr6 := hr5.other z5 (by decide) (by decide) (grown_set6 w5 (w.heap.size) (.int .i64 1) (.int .u8 63) (.slice A5 1 c5) (.string ⟨#[]⟩) (.int .u8 117) (.string ⟨#[]⟩))
 have hB6 := below_set6 hB5 (b := w.heap.size) (by omega) (.int .i64 1) (.int .u8 63) (.slice A5 1 c5) (.string ⟨#[]⟩) (.int .u8 117) (.string ⟨#[]⟩)
 obtain ⟨d0, d1, d2, d3, d4, d5⟩ := Blk.cells6 z5
 have y0 := z5.frozen 0
 have y1 := z5.frozen 1
 have y2 := z5.frozen 2
 have y3 := z5.frozen 3
 have y4 := z5.frozen 4
 have y5 := z5.frozen 5
 go_wp2_with fail
 refine bodyPost_ret (v := .agg #[.int .i64 1, .int .u8 63, .slice A5 1 c5, .string ⟨#[]⟩, .int .u8 117, .string ⟨#[]⟩]) (by simp [results, Tryd.results19, go_sem, d0, d1, d2, d3, d4, d5]) rfl ⟨_, _, by rw [HE.out]; rfl, by rw [HE.out]; exact hr6.rdp, hB6⟩
set_option maxRecDepth 100000 in
set_option maxHeartbeats 16000000 in
theorem rplace19_any (s : Sc) (p : Bool) (w : World) : Calls Tryd.prog 12 #[scV s, .bool p] w (RepE (placeR s p) w) := by
 obtain ⟨f1, h1⟩ : ∃ f, factR s.row = f := ⟨_, rfl⟩
 obtain ⟨f2, h2⟩ : ∃ f, factR s.col = f := ⟨_, rfl⟩
 have HF1 : Hid (∀ W, Calls Tryd.prog 32 #[.int .i64 s.row] W fun e w' => e = .returned (.int .i64 f1) ∧ Below W.heap.size W w') := Lib.hid fun W => rfact19_any _ _ h1 W
 have HF2 : Hid (∀ W, Calls Tryd.prog 32 #[.int .i64 s.col] W fun e w' => e = .returned (.int .i64 f2) ∧ Below W.heap.size W w') := Lib.hid fun W => rfact19_any _ _ h2 W
 have HP : Hid (placeR s p = if p = true then sqP 63 82 [f1, f2, 1] else sqP 0 82 [f1, f2]) := Lib.hid (by rw [← h1, ← h2]; rfl)
 have HN1 : Hid (∀ A c W, Rd W A (is_ [f1, f2, 1]) → Calls Tryd.prog 31 #[.int .u8 63, .int .u8 82, .slice A 3 c] W (NumR 63 82 [f1, f2, 1] 3 W)) := Lib.hid fun A c W hr => rnums19_any 63 82 A _ 3 c rfl (by decide) W hr
 have HN0 : Hid (∀ A c W, Rd W A (is_ [f1, f2]) → Calls Tryd.prog 31 #[.int .u8 0, .int .u8 82, .slice A 2 c] W (NumR 0 82 [f1, f2] 2 W)) := Lib.hid fun A c W hr => rnums19_any 0 82 A _ 2 c rfl (by decide) W hr
 obtain ⟨R, hR⟩ : ∃ R, placeR s p = R := ⟨_, rfl⟩
 rw [hR] at HP ⊢
 clear h1 h2 hR
 obtain ⟨s0, s1, s2, s3, s4, s5, s6, s7, s8, ⟨s9, s10, s11, s12, s13, s14, s15, s16, s17, s18⟩⟩ := s
 unfold scV
 simp only at HF1 HF2 ⊢
 have kb := (Blk.new w 25 #[.int .i64 s0, .int .i64 s1, .int .i64 s2, .int .i64 s3, .int .i64 s4, .int .i64 s5, .int .i64 s6, .int .i64 s7, .int .i64 s8, .bool s9, .bool s10, .bool s11, .bool s12, .bool s13, .bool s14, .bool s15, .int .i64 s16, .int .i64 s17, .int .i64 s18]).alloc (.cells #[.int .i64 0, .int .u8 0, .slice none 0 0, .string ⟨#[]⟩, .int .u8 0, .string ⟨#[]⟩] 30)
 have z0 := Blk.new (w.alloc (.cells #[.int .i64 s0, .int .i64 s1, .int .i64 s2, .int .i64 s3, .int .i64 s4, .int .i64 s5, .int .i64 s6, .int .i64 s7, .int .i64 s8, .bool s9, .bool s10, .bool s11, .bool s12, .bool s13, .bool s14, .bool s15, .int .i64 s16, .int .i64 s17, .int .i64 s18] 25)) 30 #[.int .i64 0, .int .u8 0, .slice none 0 0, .string ⟨#[]⟩, .int .u8 0, .string ⟨#[]⟩]
 rw [World.size_alloc] at z0
 have hB0 := ((Below.refl w.heap.size w).alloc (Nat.le_refl _) (.cells #[.int .i64 s0, .int .i64 s1, .int .i64 s2, .int .i64 s3, .int .i64 s4, .int .i64 s5, .int .i64 s6, .int .i64 s7, .int .i64 s8, .bool s9, .bool s10, .bool s11, .bool s12, .bool s13, .bool s14, .bool s15, .int .i64 s16, .int .i64 s17, .int .i64 s18] 25)).alloc (by simp) (.cells #[.int .i64 0, .int .u8 0, .slice none 0 0, .string ⟨#[]⟩, .int .u8 0, .string ⟨#[]⟩] 30)
 go_enter Tryd.func12, Tryd.ntmps12
 go_upto_region 1 with (fail)
 obtain ⟨w1, hw1⟩ : ∃ x, (w.alloc (.cells #[.int .i64 s0, .int .i64 s1, .int .i64 s2, .int .i64 s3, .int .i64 s4, .int .i64 s5, .int .i64 s6, .int .i64 s7, .int .i64 s8, .bool s9, .bool s10, .bool s11, .bool s12, .bool s13, .bool s14, .bool s15, .int .i64 s16, .int .i64 s17, .int .i64 s18] 25)).alloc (.cells #[.int .i64 0, .int .u8 0, .slice none 0 0, .string ⟨#[]⟩, .int .u8 0, .string ⟨#[]⟩] 30) = x := ⟨_, rfl⟩
 rw [hw1] at kb z0 hB0 ⊢
 clear hw1
 cases p with
 | true =>
   have HE := Lib.hid (show R = sqP 63 82 [f1, f2, 1] from HP.out)
   clear HP
   go_upto_region 2 with (fail)
   have hst : ∀ f ∈ ([⟨6, 12, FRw #[.int .i64 f1, .int .i64 f2, .int .i64 1] 3⟩, ⟨7, 13, NumF 63 82 [f1, f2, 1] 3⟩] : List Fact), f.ok := List.forall_mem_cons.2 ⟨frw_ok _ _ _ _, List.forall_mem_cons.2 ⟨numf_ok _ _ _ _ _ _, fun _ h => by cases h⟩⟩
   refine wp_region_last (w1 := w1) (K := [⟨6, 12, FRw #[.int .i64 f1, .int .i64 f2, .int .i64 1] 3⟩, ⟨7, 13, NumF 63 82 [f1, f2, 1] 3⟩]) (ix := 8) (iz := 8) (R0 := fun _ _ _ => True) (R1 := fun g ws' wz' => ∃ b' es cs, (.pointer (some ⟨(w.heap.size + 1), 0, none⟩) : Value) = .pointer (some ⟨b', 0, none⟩) ∧ Blk ws' b' 30 es ∧ g 13 = .agg cs ∧ Blk wz' b' 30 cs ∧ wz' = ws'.setCells b' 0 cs.toList) [12, 13] (⟨#[.agg #[.int .i64 s0, .int .i64 s1, .int .i64 s2, .int .i64 s3, .int .i64 s4, .int .i64 s5, .int .i64 s6, .int .i64 s7, .int .i64 s8, .bool s9, .bool s10, .bool s11, .bool s12, .bool s13, .bool s14, .bool s15, .int .i64 s16, .int .i64 s17, .int .i64 s18], .bool true, .pointer (some ⟨w.heap.size, 0, none⟩), undef, .pointer (some ⟨(w.heap.size + 1), 0, none⟩), .bool true, .pointer (some ⟨w.heap.size, 2, none⟩), .int .i64 s2, .int .i64 f1, .pointer (some ⟨w.heap.size, 3, none⟩), .int .i64 s3, .int .i64 f2, undef, undef, undef, undef, undef, undef, undef, undef, undef, undef], []⟩) (fun g => ⟨#[.agg #[.int .i64 s0, .int .i64 s1, .int .i64 s2, .int .i64 s3, .int .i64 s4, .int .i64 s5, .int .i64 s6, .int .i64 s7, .int .i64 s8, .bool s9, .bool s10, .bool s11, .bool s12, .bool s13, .bool s14, .bool s15, .int .i64 s16, .int .i64 s17, .int .i64 s18], .bool true, .pointer (some ⟨w.heap.size, 0, none⟩), undef, .pointer (some ⟨(w.heap.size + 1), 0, none⟩), .bool true, .pointer (some ⟨w.heap.size, 2, none⟩), .int .i64 s2, .int .i64 f1, .pointer (some ⟨w.heap.size, 3, none⟩), .int .i64 s3, .int .i64 f2, (g 12), (g 13), undef, undef, undef, undef, undef, undef, undef, undef], []⟩) [.pointer (some ⟨w.heap.size, 2, none⟩), .int .i64 s2, .int .i64 f1, .pointer (some ⟨w.heap.size, 3, none⟩), .int .i64 s3, .int .i64 f2, undef, undef, undef] (by kernel_rfl) (by kernel_rfl) (by kernel_rfl) (fun g => by kernel_rfl) (by kernel_rfl) (Below.refl _ _).drew (by decide)
    (goes_cons (gkP (fun g => .pointer (some ⟨w.heap.size, 2, none⟩)))
    (goes_cons (gkC hst (fun W hW => (kb.below hW kb.lt).cell 2) (hah := ahead_path [7, 6, 2, 1] (by kernel_rfl) (by decide)))
    (goes_cons (gkK (fun g => #[.int .i64 s2]) hst (fun g W hW hin => HF1.out W) (hah := ahead_path [7, 6, 2] (by kernel_rfl) (by decide)))
    (goes_cons (gkP (fun g => .pointer (some ⟨w.heap.size, 3, none⟩)))
    (goes_cons (gkC hst (fun W hW => (kb.below hW kb.lt).cell 3) (hah := ahead_path [7, 6, 5, 4] (by kernel_rfl) (by decide)))
    (goes_cons (gkK (fun g => #[.int .i64 s3]) hst (fun g W hW hin => HF2.out W) (hah := ahead_path [7, 6, 5] (by kernel_rfl) (by decide)))
    (goes_cons (goesK_any hst (ahead_path [7, 6] (by kernel_rfl) (by decide)) rfl (by decide) (by decide) 0 rfl (by kernel_rfl) (fun g => by kernel_rfl) rfl (fun g => by kernel_rfl) (fun g W hW hin => frw_made (cs := #[.int .i64 f1, .int .i64 f2, .int .i64 1]) (n := 3) (by kernel_rfl)))
    (goes_cons (goesK_ghost (args := fun g => #[.int .u8 63, .int .u8 82, (g 12)]) hst (ahead_path [7] (by kernel_rfl) (by decide)) rfl (by decide) (by decide) 1 rfl (by kernel_rfl) (fun g => by kernel_rfl) rfl (fun g => by kernel_rfl) (fun g w => by kernel_rfl) (fun g W hW hin => (by obtain ⟨Ar, er, hr⟩ := frw_rd (l := [f1, f2, 1]) rfl (hin 0 _ rfl (by kernel_rfl)); simp only [er]; exact (HN1.out Ar 3 W hr).mono fun _ _ h => numf_of h)))
    (goes_cons (goesQ_box (K := [⟨6, 12, FRw #[.int .i64 f1, .int .i64 f2, .int .i64 1] 3⟩, ⟨7, 13, NumF 63 82 [f1, f2, 1] 3⟩]) (w1 := w1) (d := 13) (px := fun g => .pointer (some ⟨(w.heap.size + 1), 0, none⟩)) (n := 6) rfl rfl rfl (List.forall_mem_cons.2 ⟨⟨show (6 : Nat) ≠ 8 by decide, [7, 6], by kernel_rfl, show (6 : Nat) ∈ [7, 6] by decide⟩, List.forall_mem_cons.2 ⟨⟨show (7 : Nat) ≠ 8 by decide, [7], by kernel_rfl, show (7 : Nat) ∈ [7] by decide⟩, fun _ h => by cases h⟩⟩) (fun g => by kernel_rfl) rfl rfl (fun g => by kernel_rfl) (fun g => by kernel_rfl) (by kernel_rfl) (fun g W hW hK => (by obtain ⟨A, c, gg, ev, _⟩ := hK 1 _ rfl; exact ⟨_, _, _, rfl, z0.below hW z0.lt, rfl, ev, rfl, rfl⟩))) goes_nil))))))))) ?_
   intro g ws wz hW hK ⟨b, es, cs, e0, _, e1, hk2, ez⟩
   obtain ⟨A, c, gg, ev, hr⟩ := hK 1 _ rfl
   rw [ev] at e1
   cases e1
   cases e0
   have zz := z0.below hW z0.lt
   have hr6 := hr.other zz (by decide) (by decide) (grown_setCells (w.heap.size + 1) [.int .i64 1, .int .u8 63, .slice A 3 c, .string ⟨#[]⟩, .int .u8 82, .string ⟨#[]⟩] 0 ws)
   have hB6 := (hB0.trans (hW.mono hB0.size)).grown (grown_setCells (w.heap.size + 1) [.int .i64 1, .int .u8 63, .slice A 3 c, .string ⟨#[]⟩, .int .u8 82, .string ⟨#[]⟩] 0 ws) (Nat.le_trans (Nat.le_add_right _ _) (Nat.le_of_lt zz.lt)) (fun k e => by cases e; exact Nat.le_succ _)
   rw [← ez] at hr6 hB6
   clear ez hK hW z0 kb hst zz hr hB0
   obtain ⟨d0, d1, d2, d3, d4, d5⟩ := Blk.cells6 hk2
   go_wp2_with fail
   refine bodyPost_ret (v := .agg #[.int .i64 1, .int .u8 63, .slice A 3 c, .string ⟨#[]⟩, .int .u8 82, .string ⟨#[]⟩]) (by simp [results, Tryd.results12, go_sem, d0, d1, d2, d3, d4, d5]) rfl ⟨_, _, by rw [HE.out]; rfl, by rw [HE.out]; exact hr6.rdp, hB6⟩
 | false =>
   have HE := Lib.hid (show R = sqP 0 82 [f1, f2] from HP.out)
   clear HP
   go_upto_region 3 with (fail)
   have hst : ∀ f ∈ ([⟨6, 20, FRw #[.int .i64 f1, .int .i64 f2] 2⟩, ⟨7, 21, NumF 0 82 [f1, f2] 2⟩] : List Fact), f.ok := List.forall_mem_cons.2 ⟨frw_ok _ _ _ _, List.forall_mem_cons.2 ⟨numf_ok _ _ _ _ _ _, fun _ h => by cases h⟩⟩
   refine wp_region_last (w1 := w1) (K := [⟨6, 20, FRw #[.int .i64 f1, .int .i64 f2] 2⟩, ⟨7, 21, NumF 0 82 [f1, f2] 2⟩]) (ix := 8) (iz := 8) (R0 := fun _ _ _ => True) (R1 := fun g ws' wz' => ∃ b' es cs, (.pointer (some ⟨(w.heap.size + 1), 0, none⟩) : Value) = .pointer (some ⟨b', 0, none⟩) ∧ Blk ws' b' 30 es ∧ g 21 = .agg cs ∧ Blk wz' b' 30 cs ∧ wz' = ws'.setCells b' 0 cs.toList) [20, 21] (⟨#[.agg #[.int .i64 s0, .int .i64 s1, .int .i64 s2, .int .i64 s3, .int .i64 s4, .int .i64 s5, .int .i64 s6, .int .i64 s7, .int .i64 s8, .bool s9, .bool s10, .bool s11, .bool s12, .bool s13, .bool s14, .bool s15, .int .i64 s16, .int .i64 s17, .int .i64 s18], .bool false, .pointer (some ⟨w.heap.size, 0, none⟩), undef, .pointer (some ⟨(w.heap.size + 1), 0, none⟩), .bool false, undef, undef, undef, undef, undef, undef, undef, undef, .pointer (some ⟨w.heap.size, 2, none⟩), .int .i64 s2, .int .i64 f1, .pointer (some ⟨w.heap.size, 3, none⟩), .int .i64 s3, .int .i64 f2, undef, undef], []⟩) (fun g => ⟨#[.agg #[.int .i64 s0, .int .i64 s1, .int .i64 s2, .int .i64 s3, .int .i64 s4, .int .i64 s5, .int .i64 s6, .int .i64 s7, .int .i64 s8, .bool s9, .bool s10, .bool s11, .bool s12, .bool s13, .bool s14, .bool s15, .int .i64 s16, .int .i64 s17, .int .i64 s18], .bool false, .pointer (some ⟨w.heap.size, 0, none⟩), undef, .pointer (some ⟨(w.heap.size + 1), 0, none⟩), .bool false, undef, undef, undef, undef, undef, undef, undef, undef, .pointer (some ⟨w.heap.size, 2, none⟩), .int .i64 s2, .int .i64 f1, .pointer (some ⟨w.heap.size, 3, none⟩), .int .i64 s3, .int .i64 f2, (g 20), (g 21)], []⟩) [.pointer (some ⟨w.heap.size, 2, none⟩), .int .i64 s2, .int .i64 f1, .pointer (some ⟨w.heap.size, 3, none⟩), .int .i64 s3, .int .i64 f2, undef, undef, undef] (by kernel_rfl) (by kernel_rfl) (by kernel_rfl) (fun g => by kernel_rfl) (by kernel_rfl) (Below.refl _ _).drew (by decide)
    (goes_cons (gkP (fun g => .pointer (some ⟨w.heap.size, 2, none⟩)))
    (goes_cons (gkC hst (fun W hW => (kb.below hW kb.lt).cell 2) (hah := ahead_path [7, 6, 2, 1] (by kernel_rfl) (by decide)))
    (goes_cons (gkK (fun g => #[.int .i64 s2]) hst (fun g W hW hin => HF1.out W) (hah := ahead_path [7, 6, 2] (by kernel_rfl) (by decide)))
    (goes_cons (gkP (fun g => .pointer (some ⟨w.heap.size, 3, none⟩)))
    (goes_cons (gkC hst (fun W hW => (kb.below hW kb.lt).cell 3) (hah := ahead_path [7, 6, 5, 4] (by kernel_rfl) (by decide)))
    (goes_cons (gkK (fun g => #[.int .i64 s3]) hst (fun g W hW hin => HF2.out W) (hah := ahead_path [7, 6, 5] (by kernel_rfl) (by decide)))
    (goes_cons (goesK_any hst (ahead_path [7, 6] (by kernel_rfl) (by decide)) rfl (by decide) (by decide) 0 rfl (by kernel_rfl) (fun g => by kernel_rfl) rfl (fun g => by kernel_rfl) (fun g W hW hin => frw_made (cs := #[.int .i64 f1, .int .i64 f2]) (n := 2) (by kernel_rfl)))
    (goes_cons (goesK_ghost (args := fun g => #[.int .u8 0, .int .u8 82, (g 20)]) hst (ahead_path [7] (by kernel_rfl) (by decide)) rfl (by decide) (by decide) 1 rfl (by kernel_rfl) (fun g => by kernel_rfl) rfl (fun g => by kernel_rfl) (fun g w => by kernel_rfl) (fun g W hW hin => (by obtain ⟨Ar, er, hr⟩ := frw_rd (l := [f1, f2]) rfl (hin 0 _ rfl (by kernel_rfl)); simp only [er]; exact (HN0.out Ar 2 W hr).mono fun _ _ h => numf_of h)))
    (goes_cons (goesQ_box (K := [⟨6, 20, FRw #[.int .i64 f1, .int .i64 f2] 2⟩, ⟨7, 21, NumF 0 82 [f1, f2] 2⟩]) (w1 := w1) (d := 21) (px := fun g => .pointer (some ⟨(w.heap.size + 1), 0, none⟩)) (n := 6) rfl rfl rfl (List.forall_mem_cons.2 ⟨⟨show (6 : Nat) ≠ 8 by decide, [7, 6], by kernel_rfl, show (6 : Nat) ∈ [7, 6] by decide⟩, List.forall_mem_cons.2 ⟨⟨show (7 : Nat) ≠ 8 by decide, [7], by kernel_rfl, show (7 : Nat) ∈ [7] by decide⟩, fun _ h => by cases h⟩⟩) (fun g => by kernel_rfl) rfl rfl (fun g => by kernel_rfl) (fun g => by kernel_rfl) (by kernel_rfl) (fun g W hW hK => (by obtain ⟨A, c, gg, ev, _⟩ := hK 1 _ rfl; exact ⟨_, _, _, rfl, z0.below hW z0.lt, rfl, ev, rfl, rfl⟩))) goes_nil))))))))) ?_
   intro g ws wz hW hK ⟨b, es, cs, e0, _, e1, hk2, ez⟩
   obtain ⟨A, c, gg, ev, hr⟩ := hK 1 _ rfl
   rw [ev] at e1
   cases e1
   cases e0
   have zz := z0.below hW z0.lt
   have hr6 := hr.other zz (by decide) (by decide) (grown_setCells (w.heap.size + 1) [.int .i64 1, .int .u8 0, .slice A 2 c, .string ⟨#[]⟩, .int .u8 82, .string ⟨#[]⟩] 0 ws)
   have hB6 := (hB0.trans (hW.mono hB0.size)).grown (grown_setCells (w.heap.size + 1) [.int .i64 1, .int .u8 0, .slice A 2 c, .string ⟨#[]⟩, .int .u8 82, .string ⟨#[]⟩] 0 ws) (Nat.le_trans (Nat.le_add_right _ _) (Nat.le_of_lt zz.lt)) (fun k e => by cases e; exact Nat.le_succ _)
   rw [← ez] at hr6 hB6
   clear ez hK hW z0 kb hst zz hr hB0
   obtain ⟨d0, d1, d2, d3, d4, d5⟩ := Blk.cells6 hk2
   go_wp2_with fail
   refine bodyPost_ret (v := .agg #[.int .i64 1, .int .u8 0, .slice A 2 c, .string ⟨#[]⟩, .int .u8 82, .string ⟨#[]⟩]) (by simp [results, Tryd.results12, go_sem, d0, d1, d2, d3, d4, d5]) rfl ⟨_, _, by rw [HE.out]; rfl, by rw [HE.out]; exact hr6.rdp, hB6⟩
set_option maxRecDepth 100000 in
set_option maxHeartbeats 16000000 in
theorem rmode19_any (m : Mo) (p : Bool) (n : Int) (_hn : inI n) (w : World) : Calls Tryd.prog 18 #[moV m, .bool p, .int .i64 n] w (RepE (modeR m p n) w) := by
 obtain ⟨F, hF⟩ : ∃ f, factR n = f := ⟨_, rfl⟩
 obtain ⟨G, hG⟩ : ∃ f, getM m p n = f := ⟨_, rfl⟩
 have HF : Hid (∀ W, Calls Tryd.prog 32 #[.int .i64 n] W fun e w' => e = .returned (.int .i64 F) ∧ Below W.heap.size W w') := Lib.hid fun W => rfact19_any _ _ hF W
 have HG : Hid (∀ W, Calls Tryd.prog 37 #[moV m, .bool p, .int .i64 n] W fun e w' => e = .returned (.int .i64 G) ∧ Below W.heap.size W w') := Lib.hid fun W => hG ▸ rget_any m p n W
 have HE := Lib.hid (show modeR m p n = ⟨1, if p = true then 63 else 0, [[F], [G]], [36], 121, []⟩ by rw [← hF, ← hG]; rfl)
 obtain ⟨R, hR⟩ : ∃ R, modeR m p n = R := ⟨_, rfl⟩
 rw [hR] at HE ⊢
 clear hR hF hG
 obtain ⟨m0, m1, m2, m3, m4, m5, m6, m7, m8, m9⟩ := m
 unfold moV at HG ⊢
 simp only at HG ⊢
 have HC : Hid (∀ A c W, Rd W A (is_ [F, G]) → Calls Tryd.prog 31 #[.int .u8 0, .int .u8 121, .slice A 2 c] W (NumR 0 121 [F, G] 2 W)) := Lib.hid fun A c W hr => rnums19_any 0 121 A _ 2 c rfl (by decide) W hr
 have kb := (Blk.new w 35 #[.bool m0, .bool m1, .bool m2, .bool m3, .bool m4, .bool m5, .bool m6, .int .i64 m7, .int .i64 m8, .int .i64 m9]).alloc (.cells #[.int .i64 0, .int .u8 0, .slice none 0 0, .string ⟨#[]⟩, .int .u8 0, .string ⟨#[]⟩] 30)
 have z0 := Blk.new (w.alloc (.cells #[.bool m0, .bool m1, .bool m2, .bool m3, .bool m4, .bool m5, .bool m6, .int .i64 m7, .int .i64 m8, .int .i64 m9] 35)) 30 #[.int .i64 0, .int .u8 0, .slice none 0 0, .string ⟨#[]⟩, .int .u8 0, .string ⟨#[]⟩]
 rw [World.size_alloc] at z0
 have hB0 := ((Below.refl w.heap.size w).alloc (Nat.le_refl _) (.cells #[.bool m0, .bool m1, .bool m2, .bool m3, .bool m4, .bool m5, .bool m6, .int .i64 m7, .int .i64 m8, .int .i64 m9] 35)).alloc (by simp) (.cells #[.int .i64 0, .int .u8 0, .slice none 0 0, .string ⟨#[]⟩, .int .u8 0, .string ⟨#[]⟩] 30)
 go_enter Tryd.func18, Tryd.ntmps18
 go_upto_region 1 with (fail)
 obtain ⟨w1, hw1⟩ : ∃ x, (w.alloc (.cells #[.bool m0, .bool m1, .bool m2, .bool m3, .bool m4, .bool m5, .bool m6, .int .i64 m7, .int .i64 m8, .int .i64 m9] 35)).alloc (.cells #[.int .i64 0, .int .u8 0, .slice none 0 0, .string ⟨#[]⟩, .int .u8 0, .string ⟨#[]⟩] 30) = x := ⟨_, rfl⟩
 rw [hw1] at kb z0 hB0 ⊢
 clear hw1
 have hst : ∀ f ∈ ([⟨6, 14, FRw #[.int .i64 F, .int .i64 G] 2⟩, ⟨7, 15, NumF 0 121 [F, G] 2⟩, ⟨8, 7, FNew w1 30 #[.int .i64 0, .int .u8 0, .slice none 0 0, .string ⟨#[]⟩, .int .u8 0, .string ⟨#[]⟩]⟩] : List Fact), f.ok := List.forall_mem_cons.2 ⟨frw_ok _ _ _ _, List.forall_mem_cons.2 ⟨numf_ok _ _ _ _ _ _, List.forall_mem_cons.2 ⟨fnew_ok _ _ _ _ _, fun _ h => by cases h⟩⟩⟩
 refine wp_region_last (w1 := w1) (K := [⟨6, 14, FRw #[.int .i64 F, .int .i64 G] 2⟩, ⟨7, 15, NumF 0 121 [F, G] 2⟩, ⟨8, 7, FNew w1 30 #[.int .i64 0, .int .u8 0, .slice none 0 0, .string ⟨#[]⟩, .int .u8 0, .string ⟨#[]⟩]⟩]) (ix := 9) (iz := 9) (R0 := fun _ _ _ => True) (R1 := fun g ws' wz' => ∃ b' es cs, ((g 7) : Value) = .pointer (some ⟨b', 0, none⟩) ∧ Blk ws' b' 30 es ∧ g 15 = .agg cs ∧ Blk wz' b' 30 cs ∧ wz' = ws'.setCells b' 0 cs.toList) [14, 15, 7] (⟨#[.agg #[.bool m0, .bool m1, .bool m2, .bool m3, .bool m4, .bool m5, .bool m6, .int .i64 m7, .int .i64 m8, .int .i64 m9], .bool p, .int .i64 n, .pointer (some ⟨w.heap.size, 0, none⟩), undef, undef, .pointer (some ⟨(w.heap.size + 1), 0, none⟩), undef, .int .i64 n, .int .i64 F, .agg #[.bool m0, .bool m1, .bool m2, .bool m3, .bool m4, .bool m5, .bool m6, .int .i64 m7, .int .i64 m8, .int .i64 m9], .bool p, .int .i64 n, .int .i64 G, undef, undef, undef, undef, undef, undef], []⟩) (fun g => ⟨#[.agg #[.bool m0, .bool m1, .bool m2, .bool m3, .bool m4, .bool m5, .bool m6, .int .i64 m7, .int .i64 m8, .int .i64 m9], .bool p, .int .i64 n, .pointer (some ⟨w.heap.size, 0, none⟩), undef, undef, .pointer (some ⟨(w.heap.size + 1), 0, none⟩), (g 7), .int .i64 n, .int .i64 F, .agg #[.bool m0, .bool m1, .bool m2, .bool m3, .bool m4, .bool m5, .bool m6, .int .i64 m7, .int .i64 m8, .int .i64 m9], .bool p, .int .i64 n, .int .i64 G, (g 14), (g 15), undef, undef, undef, undef], []⟩) [.int .i64 n, .int .i64 F, .agg #[.bool m0, .bool m1, .bool m2, .bool m3, .bool m4, .bool m5, .bool m6, .int .i64 m7, .int .i64 m8, .int .i64 m9], .bool p, .int .i64 n, .int .i64 G, undef, undef, undef, undef] (by kernel_rfl) (by kernel_rfl) (by kernel_rfl) (fun g => by kernel_rfl) (by kernel_rfl) (Below.refl _ _).drew (by decide)
  (goes_cons (gkP (fun g => .int .i64 n))
  (goes_cons (gkK (fun g => #[.int .i64 n]) hst (fun g W hW hin => HF.out W) (hah := ahead_path [7, 6, 1] (by kernel_rfl) (by decide)))
  (goes_cons (gkL hst (fun W hW => kb.below hW kb.lt) Tryd.underlying35 (hah := ahead_path [7, 6, 5, 2] (by kernel_rfl) (by decide)))
  (goes_cons (gkP (fun g => .bool p))
  (goes_cons (gkP (fun g => .int .i64 n))
  (goes_cons (gkK (fun g => #[.agg #[.bool m0, .bool m1, .bool m2, .bool m3, .bool m4, .bool m5, .bool m6, .int .i64 m7, .int .i64 m8, .int .i64 m9], .bool p, .int .i64 n]) hst (fun g W hW hin => HG.out W) (hah := ahead_path [7, 6, 5] (by kernel_rfl) (by decide)))
  (goes_cons (goesK_any hst (ahead_path [7, 6] (by kernel_rfl) (by decide)) rfl (by decide) (by decide) 0 rfl (by kernel_rfl) (fun g => by kernel_rfl) rfl (fun g => by kernel_rfl) (fun g W hW hin => frw_made (cs := #[.int .i64 F, .int .i64 G]) (n := 2) (by kernel_rfl)))
  (goes_cons (goesK_ghost (args := fun g => #[.int .u8 0, .int .u8 121, (g 14)]) hst (ahead_path [7] (by kernel_rfl) (by decide)) rfl (by decide) (by decide) 1 rfl (by kernel_rfl) (fun g => by kernel_rfl) rfl (fun g => by kernel_rfl) (fun g w => by kernel_rfl) (fun g W hW hin => (by obtain ⟨Ar, er, hr⟩ := frw_rd (l := [F, G]) rfl (hin 0 _ rfl (by kernel_rfl)); simp only [er]; exact (HC.out Ar 2 W hr).mono fun _ _ h => numf_of h)))
  (goes_cons (goesK_new hst (ahead_path [8] (by kernel_rfl) (by decide)) rfl (by decide) (by decide) 2 rfl (by kernel_rfl) (fun g => by kernel_rfl) rfl (fun g => by kernel_rfl) (fun g w => by kernel_rfl))
  (goes_cons (goesQ_box (K := [⟨6, 14, FRw #[.int .i64 F, .int .i64 G] 2⟩, ⟨7, 15, NumF 0 121 [F, G] 2⟩, ⟨8, 7, FNew w1 30 #[.int .i64 0, .int .u8 0, .slice none 0 0, .string ⟨#[]⟩, .int .u8 0, .string ⟨#[]⟩]⟩]) (w1 := w1) (d := 15) (px := fun g => (g 7)) (n := 6) rfl rfl rfl (List.forall_mem_cons.2 ⟨⟨show (6 : Nat) ≠ 9 by decide, [7, 6], by kernel_rfl, show (6 : Nat) ∈ [7, 6] by decide⟩, List.forall_mem_cons.2 ⟨⟨show (7 : Nat) ≠ 9 by decide, [7], by kernel_rfl, show (7 : Nat) ∈ [7] by decide⟩, List.forall_mem_cons.2 ⟨⟨show (8 : Nat) ≠ 9 by decide, [8], by kernel_rfl, show (8 : Nat) ∈ [8] by decide⟩, fun _ h => by cases h⟩⟩⟩) (fun g => by kernel_rfl) rfl rfl (fun g => by kernel_rfl) (fun g => by kernel_rfl) (by kernel_rfl) (fun g W hW hK => (by obtain ⟨A, c, gg, ev, _⟩ := hK 1 _ rfl; obtain ⟨b2, e2, _, hb2⟩ := hK 2 _ rfl; exact ⟨b2, _, _, e2, hb2, rfl, ev, rfl, rfl⟩))) goes_nil)))))))))) ?_
 intro g ws wz hW hK ⟨b, es, cs, e0, hkb, e1, hk2, ez⟩
 obtain ⟨A, c, gg, ev, hr⟩ := hK 1 _ rfl
 obtain ⟨b2, e2, hle, _⟩ := hK 2 _ rfl
 have hbb : b = b2 := by
  have e3 := e0.symm.trans e2
  injection e3 with e3
  injection e3 with e3
  injection e3
 subst hbb
 rw [ev] at e1
 cases e1
 have zz := z0.below hW z0.lt
 have hne : w.heap.size + 1 ≠ b := by have := z0.lt; omega
 have hr6 := hr.other hkb (by decide) (by decide) (grown_setCells b [.int .i64 1, .int .u8 0, .slice A 2 c, .string ⟨#[]⟩, .int .u8 121, .string ⟨#[]⟩] 0 ws)
 have hB1 := hB0.trans (hW.mono hB0.size)
 have hle2 : w.heap.size ≤ b := Nat.le_trans hB0.size hle
 have hB6 := hB1.grown (grown_setCells b [.int .i64 1, .int .u8 0, .slice A 2 c, .string ⟨#[]⟩, .int .u8 121, .string ⟨#[]⟩] 0 ws) hB1.size (fun k e => by cases e; exact hle2)
 have z6 := zz.grown (grown_setCells b [.int .i64 1, .int .u8 0, .slice A 2 c, .string ⟨#[]⟩, .int .u8 121, .string ⟨#[]⟩] 0 ws) (by intro h; injection h with h; exact hne h.symm)
 rw [← ez] at hr6 hB6 z6
 rw [e0]
 clear ez hK hW z0 kb hst zz hr hB0 hB1 e0 e2 ev hle hkb
 obtain ⟨g14, _⟩ : ∃ x, g 14 = x := ⟨_, rfl⟩
 have d1 := hk2.cell 1
 have d3 := hk2.cell 3
 have y1 := hk2.frozen 1
 have y3 := hk2.frozen 3
 cases p with
 | true =>
   have k7 : Blk ((wz.setCell ⟨b, 1, none⟩ (.int .u8 63)).setCell ⟨b, 3, none⟩ (.string ⟨#[36]⟩)) b 30 #[.int .i64 1, .int .u8 63, .slice A 2 c, .string ⟨#[36]⟩, .int .u8 121, .string ⟨#[]⟩] := ((hk2).set 1 (.int .u8 63)).set 3 (.string ⟨#[36]⟩)
   have z7 := ((z6.far (a := ⟨b, 1, none⟩) hne (.int .u8 63)).far (a := ⟨b, 3, none⟩) hne (.string ⟨#[36]⟩))
   have hr7 := ((hr6.other (hk2) (by decide) (by decide) (grown_setCell b 1 (.int .u8 63) _)).other ((hk2).set 1 (.int .u8 63)) (by decide) (by decide) (grown_setCell b 3 (.string ⟨#[36]⟩) _))
   have hB7 := ((hB6.setCell (p := ⟨b, 1, none⟩) hle2 (.int .u8 63)).setCell (p := ⟨b, 3, none⟩) hle2 (.string ⟨#[36]⟩))
   go_upto_region 5 with (fail)
   obtain ⟨w6, hw6⟩ : ∃ x, ((wz.setCell ⟨b, 1, none⟩ (.int .u8 63)).setCell ⟨b, 3, none⟩ (.string ⟨#[36]⟩)) = x := ⟨_, rfl⟩
   rw [hw6] at k7 z7 hr7 hB7 ⊢
   clear hw6 d1 d3 y1 y3 hk2 z6 hr6 hB6
   have hr8 := hr7.other z7 (by decide) (by decide) (grown_set6 w6 (w.heap.size + 1) (.int .i64 1) (.int .u8 63) (.slice A 2 c) (.string ⟨#[36]⟩) (.int .u8 121) (.string ⟨#[]⟩))
   have hB8 := below_set6 hB7 (b := w.heap.size + 1) (Nat.le_succ _) (.int .i64 1) (.int .u8 63) (.slice A 2 c) (.string ⟨#[36]⟩) (.int .u8 121) (.string ⟨#[]⟩)
   obtain ⟨d0, d1, d2, d3, d4, d5⟩ := Blk.cells6 k7
   obtain ⟨x0, x1, x2, x3, x4, x5⟩ := Blk.cells6 z7
   have y0 := z7.frozen 0
   have y1 := z7.frozen 1
   have y2 := z7.frozen 2
   have y3 := z7.frozen 3
   have y4 := z7.frozen 4
   have y5 := z7.frozen 5
   go_wp2_with fail
   refine bodyPost_ret (v := .agg #[.int .i64 1, .int .u8 63, .slice A 2 c, .string ⟨#[36]⟩, .int .u8 121, .string ⟨#[]⟩]) (by simp [results, Tryd.results18, go_sem, x0, x1, x2, x3, x4, x5]) rfl ⟨_, _, by rw [HE.out]; rfl, by rw [HE.out]; exact hr8.rdp, hB8⟩
 | false =>
   have k7 : Blk (wz.setCell ⟨b, 3, none⟩ (.string ⟨#[36]⟩)) b 30 #[.int .i64 1, .int .u8 0, .slice A 2 c, .string ⟨#[36]⟩, .int .u8 121, .string ⟨#[]⟩] := (hk2).set 3 (.string ⟨#[36]⟩)
   have z7 := (z6.far (a := ⟨b, 3, none⟩) hne (.string ⟨#[36]⟩))
   have hr7 := (hr6.other (hk2) (by decide) (by decide) (grown_setCell b 3 (.string ⟨#[36]⟩) _))
   have hB7 := (hB6.setCell (p := ⟨b, 3, none⟩) hle2 (.string ⟨#[36]⟩))
   go_upto_region 5 with (fail)
   obtain ⟨w6, hw6⟩ : ∃ x, (wz.setCell ⟨b, 3, none⟩ (.string ⟨#[36]⟩)) = x := ⟨_, rfl⟩
   rw [hw6] at k7 z7 hr7 hB7 ⊢
   clear hw6 d1 d3 y1 y3 hk2 z6 hr6 hB6
   have hr8 := hr7.other z7 (by decide) (by decide) (grown_set6 w6 (w.heap.size + 1) (.int .i64 1) (.int .u8 0) (.slice A 2 c) (.string ⟨#[36]⟩) (.int .u8 121) (.string ⟨#[]⟩))
   have hB8 := below_set6 hB7 (b := w.heap.size + 1) (Nat.le_succ _) (.int .i64 1) (.int .u8 0) (.slice A 2 c) (.string ⟨#[36]⟩) (.int .u8 121) (.string ⟨#[]⟩)
   obtain ⟨d0, d1, d2, d3, d4, d5⟩ := Blk.cells6 k7
   obtain ⟨x0, x1, x2, x3, x4, x5⟩ := Blk.cells6 z7
   have y0 := z7.frozen 0
   have y1 := z7.frozen 1
   have y2 := z7.frozen 2
   have y3 := z7.frozen 3
   have y4 := z7.frozen 4
   have y5 := z7.frozen 5
   go_wp2_with fail
   refine bodyPost_ret (v := .agg #[.int .i64 1, .int .u8 0, .slice A 2 c, .string ⟨#[36]⟩, .int .u8 121, .string ⟨#[]⟩]) (by simp [results, Tryd.results18, go_sem, x0, x1, x2, x3, x4, x5]) rfl ⟨_, _, by rw [HE.out]; rfl, by rw [HE.out]; exact hr8.rdp, hB8⟩
set_option maxRecDepth 100000 in
set_option maxHeartbeats 16000000 in
theorem pmode19_any (m : Mo) (p : Bool) (n : Int) (hn : inI n) (w : World) : Calls Tryd.prog 17 #[moV m, .bool p, .int .i64 n] w (RepE (modeR m p n) w) := by
 obtain ⟨F, hF⟩ : ∃ f, factR n = f := ⟨_, rfl⟩
 obtain ⟨G, hG⟩ : ∃ f, getM m p n = f := ⟨_, rfl⟩
 have HF : Hid (∀ W, Calls Tryd.prog 29 #[.int .i64 n] W fun e w' => e = .returned (.int .i64 F) ∧ Below W.heap.size W w') := Lib.hid fun W => pfact_any _ _ hF W
 have HG : Hid (∀ W, Calls Tryd.prog 36 #[moV m, .bool p, .int .i64 n] W fun e w' => e = .returned (.int .i64 G) ∧ Below W.heap.size W w') := Lib.hid fun W => hG ▸ pget_any m p n W hn
 have HE := Lib.hid (show modeR m p n = ⟨1, if p = true then 63 else 0, [[F], [G]], [36], 121, []⟩ by rw [← hF, ← hG]; rfl)
 obtain ⟨R, hR⟩ : ∃ R, modeR m p n = R := ⟨_, rfl⟩
 rw [hR] at HE ⊢
 clear hR hF hG
 obtain ⟨m0, m1, m2, m3, m4, m5, m6, m7, m8, m9⟩ := m
 unfold moV at HG ⊢
 simp only at HG ⊢
 have HC : Hid (∀ A c W, Rd W A (is_ [F, G]) → Calls Tryd.prog 30 #[.int .u8 0, .int .u8 121, .slice A 2 c] W (NumR 0 121 [F, G] 2 W)) := Lib.hid fun A c W hr => rnum_any 0 121 0 121 rfl rfl _ 2 rfl (by decide) A c W hr
 have kb := (Blk.new w 35 #[.bool m0, .bool m1, .bool m2, .bool m3, .bool m4, .bool m5, .bool m6, .int .i64 m7, .int .i64 m8, .int .i64 m9]).alloc (.cells #[.int .i64 0, .int .u8 0, .slice none 0 0, .string ⟨#[]⟩, .int .u8 0, .string ⟨#[]⟩] 30)
 have z0 := Blk.new (w.alloc (.cells #[.bool m0, .bool m1, .bool m2, .bool m3, .bool m4, .bool m5, .bool m6, .int .i64 m7, .int .i64 m8, .int .i64 m9] 35)) 30 #[.int .i64 0, .int .u8 0, .slice none 0 0, .string ⟨#[]⟩, .int .u8 0, .string ⟨#[]⟩]
 rw [World.size_alloc] at z0
 have hB0 := ((Below.refl w.heap.size w).alloc (Nat.le_refl _) (.cells #[.bool m0, .bool m1, .bool m2, .bool m3, .bool m4, .bool m5, .bool m6, .int .i64 m7, .int .i64 m8, .int .i64 m9] 35)).alloc (by simp) (.cells #[.int .i64 0, .int .u8 0, .slice none 0 0, .string ⟨#[]⟩, .int .u8 0, .string ⟨#[]⟩] 30)
 go_enter Tryd.func17, Tryd.ntmps17
 go_upto_region 1 with (fail)
 obtain ⟨w1, hw1⟩ : ∃ x, (w.alloc (.cells #[.bool m0, .bool m1, .bool m2, .bool m3, .bool m4, .bool m5, .bool m6, .int .i64 m7, .int .i64 m8, .int .i64 m9] 35)).alloc (.cells #[.int .i64 0, .int .u8 0, .slice none 0 0, .string ⟨#[]⟩, .int .u8 0, .string ⟨#[]⟩] 30) = x := ⟨_, rfl⟩
 rw [hw1] at kb z0 hB0 ⊢
 clear hw1
 have hst : ∀ f ∈ ([⟨6, 14, FRw #[.int .i64 F, .int .i64 G] 2⟩, ⟨7, 15, NumF 0 121 [F, G] 2⟩, ⟨8, 7, FNew w1 30 #[.int .i64 0, .int .u8 0, .slice none 0 0, .string ⟨#[]⟩, .int .u8 0, .string ⟨#[]⟩]⟩] : List Fact), f.ok := List.forall_mem_cons.2 ⟨frw_ok _ _ _ _, List.forall_mem_cons.2 ⟨numf_ok _ _ _ _ _ _, List.forall_mem_cons.2 ⟨fnew_ok _ _ _ _ _, fun _ h => by cases h⟩⟩⟩
 refine wp_region_last (w1 := w1) (K := [⟨6, 14, FRw #[.int .i64 F, .int .i64 G] 2⟩, ⟨7, 15, NumF 0 121 [F, G] 2⟩, ⟨8, 7, FNew w1 30 #[.int .i64 0, .int .u8 0, .slice none 0 0, .string ⟨#[]⟩, .int .u8 0, .string ⟨#[]⟩]⟩]) (ix := 9) (iz := 9) (R0 := fun _ _ _ => True) (R1 := fun g ws' wz' => ∃ b' es cs, ((g 7) : Value) = .pointer (some ⟨b', 0, none⟩) ∧ Blk ws' b' 30 es ∧ g 15 = .agg cs ∧ Blk wz' b' 30 cs ∧ wz' = ws'.setCells b' 0 cs.toList) [14, 15, 7] (⟨#[.agg #[.bool m0, .bool m1, .bool m2, .bool m3, .bool m4, .bool m5, .bool m6, .int .i64 m7, .int .i64 m8, .int .i64 m9], .bool p, .int .i64 n, .pointer (some ⟨w.heap.size, 0, none⟩), undef, undef, .pointer (some ⟨(w.heap.size + 1), 0, none⟩), undef, .int .i64 n, .int .i64 F, .agg #[.bool m0, .bool m1, .bool m2, .bool m3, .bool m4, .bool m5, .bool m6, .int .i64 m7, .int .i64 m8, .int .i64 m9], .bool p, .int .i64 n, .int .i64 G, undef, undef, undef, undef, undef, undef], []⟩) (fun g => ⟨#[.agg #[.bool m0, .bool m1, .bool m2, .bool m3, .bool m4, .bool m5, .bool m6, .int .i64 m7, .int .i64 m8, .int .i64 m9], .bool p, .int .i64 n, .pointer (some ⟨w.heap.size, 0, none⟩), undef, undef, .pointer (some ⟨(w.heap.size + 1), 0, none⟩), (g 7), .int .i64 n, .int .i64 F, .agg #[.bool m0, .bool m1, .bool m2, .bool m3, .bool m4, .bool m5, .bool m6, .int .i64 m7, .int .i64 m8, .int .i64 m9], .bool p, .int .i64 n, .int .i64 G, (g 14), (g 15), undef, undef, undef, undef], []⟩) [.int .i64 n, .int .i64 F, .agg #[.bool m0, .bool m1, .bool m2, .bool m3, .bool m4, .bool m5, .bool m6, .int .i64 m7, .int .i64 m8, .int .i64 m9], .bool p, .int .i64 n, .int .i64 G, undef, undef, undef, undef] (by kernel_rfl) (by kernel_rfl) (by kernel_rfl) (fun g => by kernel_rfl) (by kernel_rfl) (Below.refl _ _).drew (by decide)
  (goes_cons (gkP (fun g => .int .i64 n))
  (goes_cons (gkK (fun g => #[.int .i64 n]) hst (fun g W hW hin => HF.out W) (hah := ahead_path [7, 6, 1] (by kernel_rfl) (by decide)))
  (goes_cons (gkL hst (fun W hW => kb.below hW kb.lt) Tryd.underlying35 (hah := ahead_path [7, 6, 5, 2] (by kernel_rfl) (by decide)))
  (goes_cons (gkP (fun g => .bool p))
  (goes_cons (gkP (fun g => .int .i64 n))
  (goes_cons (gkK (fun g => #[.agg #[.bool m0, .bool m1, .bool m2, .bool m3, .bool m4, .bool m5, .bool m6, .int .i64 m7, .int .i64 m8, .int .i64 m9], .bool p, .int .i64 n]) hst (fun g W hW hin => HG.out W) (hah := ahead_path [7, 6, 5] (by kernel_rfl) (by decide)))
  (goes_cons (goesK_any hst (ahead_path [7, 6] (by kernel_rfl) (by decide)) rfl (by decide) (by decide) 0 rfl (by kernel_rfl) (fun g => by kernel_rfl) rfl (fun g => by kernel_rfl) (fun g W hW hin => frw_made (cs := #[.int .i64 F, .int .i64 G]) (n := 2) (by kernel_rfl)))
  (goes_cons (goesK_ghost (args := fun g => #[.int .u8 0, .int .u8 121, (g 14)]) hst (ahead_path [7] (by kernel_rfl) (by decide)) rfl (by decide) (by decide) 1 rfl (by kernel_rfl) (fun g => by kernel_rfl) rfl (fun g => by kernel_rfl) (fun g w => by kernel_rfl) (fun g W hW hin => (by obtain ⟨Ar, er, hr⟩ := frw_rd (l := [F, G]) rfl (hin 0 _ rfl (by kernel_rfl)); simp only [er]; exact (HC.out Ar 2 W hr).mono fun _ _ h => numf_of h)))
  (goes_cons (goesK_new hst (ahead_path [8] (by kernel_rfl) (by decide)) rfl (by decide) (by decide) 2 rfl (by kernel_rfl) (fun g => by kernel_rfl) rfl (fun g => by kernel_rfl) (fun g w => by kernel_rfl))
  (goes_cons (goesQ_box (K := [⟨6, 14, FRw #[.int .i64 F, .int .i64 G] 2⟩, ⟨7, 15, NumF 0 121 [F, G] 2⟩, ⟨8, 7, FNew w1 30 #[.int .i64 0, .int .u8 0, .slice none 0 0, .string ⟨#[]⟩, .int .u8 0, .string ⟨#[]⟩]⟩]) (w1 := w1) (d := 15) (px := fun g => (g 7)) (n := 6) rfl rfl rfl (List.forall_mem_cons.2 ⟨⟨show (6 : Nat) ≠ 9 by decide, [7, 6], by kernel_rfl, show (6 : Nat) ∈ [7, 6] by decide⟩, List.forall_mem_cons.2 ⟨⟨show (7 : Nat) ≠ 9 by decide, [7], by kernel_rfl, show (7 : Nat) ∈ [7] by decide⟩, List.forall_mem_cons.2 ⟨⟨show (8 : Nat) ≠ 9 by decide, [8], by kernel_rfl, show (8 : Nat) ∈ [8] by decide⟩, fun _ h => by cases h⟩⟩⟩) (fun g => by kernel_rfl) rfl rfl (fun g => by kernel_rfl) (fun g => by kernel_rfl) (by kernel_rfl) (fun g W hW hK => (by obtain ⟨A, c, gg, ev, _⟩ := hK 1 _ rfl; obtain ⟨b2, e2, _, hb2⟩ := hK 2 _ rfl; exact ⟨b2, _, _, e2, hb2, rfl, ev, rfl, rfl⟩))) goes_nil)))))))))) ?_
 intro g ws wz hW hK ⟨b, es, cs, e0, hkb, e1, hk2, ez⟩
 obtain ⟨A, c, gg, ev, hr⟩ := hK 1 _ rfl
 obtain ⟨b2, e2, hle, _⟩ := hK 2 _ rfl
 have hbb : b = b2 := by
  have e3 := e0.symm.trans e2
  injection e3 with e3
  injection e3 with e3
  injection e3
 subst hbb
 rw [ev] at e1
 cases e1
 have zz := z0.below hW z0.lt
 have hne : w.heap.size + 1 ≠ b := by have := z0.lt; omega
 have hr6 := hr.other hkb (by decide) (by decide) (grown_setCells b [.int .i64 1, .int .u8 0, .slice A 2 c, .string ⟨#[]⟩, .int .u8 121, .string ⟨#[]⟩] 0 ws)
 have hB1 := hB0.trans (hW.mono hB0.size)
 have hle2 : w.heap.size ≤ b := Nat.le_trans hB0.size hle
 have hB6 := hB1.grown (grown_setCells b [.int .i64 1, .int .u8 0, .slice A 2 c, .string ⟨#[]⟩, .int .u8 121, .string ⟨#[]⟩] 0 ws) hB1.size (fun k e => by cases e; exact hle2)
 have z6 := zz.grown (grown_setCells b [.int .i64 1, .int .u8 0, .slice A 2 c, .string ⟨#[]⟩, .int .u8 121, .string ⟨#[]⟩] 0 ws) (by intro h; injection h with h; exact hne h.symm)
 rw [← ez] at hr6 hB6 z6
 rw [e0]
 clear ez hK hW z0 kb hst zz hr hB0 hB1 e0 e2 ev hle hkb
 obtain ⟨g14, _⟩ : ∃ x, g 14 = x := ⟨_, rfl⟩
 have d1 := hk2.cell 1
 have d3 := hk2.cell 3
 have y1 := hk2.frozen 1
 have y3 := hk2.frozen 3
 cases p with
 | true =>
   have k7 : Blk ((wz.setCell ⟨b, 3, none⟩ (.string ⟨#[36]⟩)).setCell ⟨b, 1, none⟩ (.int .u8 63)) b 30 #[.int .i64 1, .int .u8 63, .slice A 2 c, .string ⟨#[36]⟩, .int .u8 121, .string ⟨#[]⟩] := ((hk2).set 3 (.string ⟨#[36]⟩)).set 1 (.int .u8 63)
   have z7 := ((z6.far (a := ⟨b, 3, none⟩) hne (.string ⟨#[36]⟩)).far (a := ⟨b, 1, none⟩) hne (.int .u8 63))
   have hr7 := ((hr6.other (hk2) (by decide) (by decide) (grown_setCell b 3 (.string ⟨#[36]⟩) _)).other ((hk2).set 3 (.string ⟨#[36]⟩)) (by decide) (by decide) (grown_setCell b 1 (.int .u8 63) _))
   have hB7 := ((hB6.setCell (p := ⟨b, 3, none⟩) hle2 (.string ⟨#[36]⟩)).setCell (p := ⟨b, 1, none⟩) hle2 (.int .u8 63))
   go_upto_region 5 with (fail)
   obtain ⟨w6, hw6⟩ : ∃ x, ((wz.setCell ⟨b, 3, none⟩ (.string ⟨#[36]⟩)).setCell ⟨b, 1, none⟩ (.int .u8 63)) = x := ⟨_, rfl⟩
   rw [hw6] at k7 z7 hr7 hB7 ⊢
   clear hw6 d1 d3 y1 y3 hk2 z6 hr6 hB6
   have hr8 := hr7.other z7 (by decide) (by decide) (grown_set6 w6 (w.heap.size + 1) (.int .i64 1) (.int .u8 63) (.slice A 2 c) (.string ⟨#[36]⟩) (.int .u8 121) (.string ⟨#[]⟩))
   have hB8 := below_set6 hB7 (b := w.heap.size + 1) (Nat.le_succ _) (.int .i64 1) (.int .u8 63) (.slice A 2 c) (.string ⟨#[36]⟩) (.int .u8 121) (.string ⟨#[]⟩)
   obtain ⟨d0, d1, d2, d3, d4, d5⟩ := Blk.cells6 k7
   obtain ⟨x0, x1, x2, x3, x4, x5⟩ := Blk.cells6 z7
   have y0 := z7.frozen 0
   have y1 := z7.frozen 1
   have y2 := z7.frozen 2
   have y3 := z7.frozen 3
   have y4 := z7.frozen 4
   have y5 := z7.frozen 5
   go_wp2_with fail
   refine bodyPost_ret (v := .agg #[.int .i64 1, .int .u8 63, .slice A 2 c, .string ⟨#[36]⟩, .int .u8 121, .string ⟨#[]⟩]) (by simp [results, Tryd.results17, go_sem, x0, x1, x2, x3, x4, x5]) rfl ⟨_, _, by rw [HE.out]; rfl, by rw [HE.out]; exact hr8.rdp, hB8⟩
 | false =>
   have k7 : Blk (wz.setCell ⟨b, 3, none⟩ (.string ⟨#[36]⟩)) b 30 #[.int .i64 1, .int .u8 0, .slice A 2 c, .string ⟨#[36]⟩, .int .u8 121, .string ⟨#[]⟩] := (hk2).set 3 (.string ⟨#[36]⟩)
   have z7 := (z6.far (a := ⟨b, 3, none⟩) hne (.string ⟨#[36]⟩))
   have hr7 := (hr6.other (hk2) (by decide) (by decide) (grown_setCell b 3 (.string ⟨#[36]⟩) _))
   have hB7 := (hB6.setCell (p := ⟨b, 3, none⟩) hle2 (.string ⟨#[36]⟩))
   go_upto_region 5 with (fail)
   obtain ⟨w6, hw6⟩ : ∃ x, (wz.setCell ⟨b, 3, none⟩ (.string ⟨#[36]⟩)) = x := ⟨_, rfl⟩
   rw [hw6] at k7 z7 hr7 hB7 ⊢
   clear hw6 d1 d3 y1 y3 hk2 z6 hr6 hB6
   have hr8 := hr7.other z7 (by decide) (by decide) (grown_set6 w6 (w.heap.size + 1) (.int .i64 1) (.int .u8 0) (.slice A 2 c) (.string ⟨#[36]⟩) (.int .u8 121) (.string ⟨#[]⟩))
   have hB8 := below_set6 hB7 (b := w.heap.size + 1) (Nat.le_succ _) (.int .i64 1) (.int .u8 0) (.slice A 2 c) (.string ⟨#[36]⟩) (.int .u8 121) (.string ⟨#[]⟩)
   obtain ⟨d0, d1, d2, d3, d4, d5⟩ := Blk.cells6 k7
   obtain ⟨x0, x1, x2, x3, x4, x5⟩ := Blk.cells6 z7
   have y0 := z7.frozen 0
   have y1 := z7.frozen 1
   have y2 := z7.frozen 2
   have y3 := z7.frozen 3
   have y4 := z7.frozen 4
   have y5 := z7.frozen 5
   go_wp2_with fail
   refine bodyPost_ret (v := .agg #[.int .i64 1, .int .u8 0, .slice A 2 c, .string ⟨#[36]⟩, .int .u8 121, .string ⟨#[]⟩]) (by simp [results, Tryd.results17, go_sem, x0, x1, x2, x3, x4, x5]) rfl ⟨_, _, by rw [HE.out]; rfl, by rw [HE.out]; exact hr8.rdp, hB8⟩
end Go.Proofs.YtfifeofmfpjgfaaDoor
