/-
  Stage 19's laws, walked: ReportTells.
-/
import Derived.Test.YtfifeofmfpjgfaaDoorG40
import Derived.Deep.Cut
namespace Go.Proofs.YtfifeofmfpjgfaaDoor
open Go.RowKit
set_option maxRecDepth 100000 in
set_option maxHeartbeats 16000000 in
theorem reportTells_walk (s : Sc) (hs : okSc s) (a : ByteArray) (ha : a.size ≤ maxLen) (p : Bool) (w : World) (ht : Tab w) : Calls Tryd.prog 3 #[scV s, .string a, .bool p] w fun e w' => e = .returned (.bool true) ∧ Below w.heap.size w w' := by
 obtain ⟨⟨ask⟩⟩ := a
 have hal : ask.length ≤ maxLen := ha
 show Calls Tryd.prog 3 #[scV s, .string ⟨ask.toArray⟩, .bool p] w _
 obtain ⟨q1, hq1⟩ : ∃ q, placeR s p = q := ⟨_, rfl⟩
 obtain ⟨q2, hq2⟩ : ∃ q, setR s ask = q := ⟨_, rfl⟩
 have m1 : Sml q1 := hq1 ▸ sml_place s p
 have m2 : Sml q2 := hq2 ▸ sml_set s ask
 have HP : Hid (∀ W, Calls Tryd.prog 11 #[scV s, .bool p] W fun e w' => ∃ v, e = .returned v ∧ FSq q1 v w' ∧ Below W.heap.size W w') := Lib.hid fun W => fsq_of (hq1 ▸ pplace_any s p W)
 have HQ : Hid (∀ W, Calls Tryd.prog 12 #[scV s, .bool p] W fun e w' => ∃ v, e = .returned v ∧ FSq q1 v w' ∧ Below W.heap.size W w') := Lib.hid fun W => fsq_of (hq1 ▸ rplace19_any s p W)
 have HS : Hid (∀ W, Below w.heap.size w W → Calls Tryd.prog 13 #[scV s, .string ⟨ask.toArray⟩] W fun e w' => ∃ v, e = .returned v ∧ FSq q2 v w' ∧ Below W.heap.size W w') := Lib.hid fun W hW => fsq_of (hq2 ▸ pSetting_any s hs.2.2.2.2.2.2.2.2.2 ask hal W (ht.below hW))
 have HT : Hid (∀ W, Calls Tryd.prog 14 #[scV s, .string ⟨ask.toArray⟩] W fun e w' => ∃ v, e = .returned v ∧ FSq q2 v w' ∧ Below W.heap.size W w') := Lib.hid fun W => fsq_of (hq2 ▸ rSetting19_any s ask W)
 have HE1 : Hid (∀ (W : World) {u v : Value}, FSq q1 u W → FSq q1 v W → Calls Tryd.prog 10 #[u, v] W fun e w' => e = .returned (.bool true) ∧ Below W.heap.size W w') := Lib.hid fun W _ _ hu hv => same19 (sameB_self q1) m1 m1 hu hv
 have HE2 : Hid (∀ (W : World) {u v : Value}, FSq q2 u W → FSq q2 v W → Calls Tryd.prog 10 #[u, v] W fun e w' => e = .returned (.bool true) ∧ Below W.heap.size W w') := Lib.hid fun W _ _ hu hv => same19 (sameB_self q2) m2 m2 hu hv
 clear hq1 hq2 m1 m2 hs
 obtain ⟨s0, s1, s2, s3, s4, s5, s6, s7, s8, ⟨s9, s10, s11, s12, s13, s14, s15, s16, s17, s18⟩⟩ := s
 unfold scV at HP HQ HS HT ⊢
 simp only at HP HQ HS HT ⊢
 have kb := Blk.new w 25 #[.int .i64 s0, .int .i64 s1, .int .i64 s2, .int .i64 s3, .int .i64 s4, .int .i64 s5, .int .i64 s6, .int .i64 s7, .int .i64 s8, .bool s9, .bool s10, .bool s11, .bool s12, .bool s13, .bool s14, .bool s15, .int .i64 s16, .int .i64 s17, .int .i64 s18]
 have hB := (Below.refl w.heap.size w).alloc (Nat.le_refl _) (.cells #[.int .i64 s0, .int .i64 s1, .int .i64 s2, .int .i64 s3, .int .i64 s4, .int .i64 s5, .int .i64 s6, .int .i64 s7, .int .i64 s8, .bool s9, .bool s10, .bool s11, .bool s12, .bool s13, .bool s14, .bool s15, .int .i64 s16, .int .i64 s17, .int .i64 s18] 25)
 go_enter Tryd.func3, Tryd.ntmps3
 go_upto_region 1 with (fail)
 obtain ⟨w1, hw1⟩ : ∃ x, w.alloc (.cells #[.int .i64 s0, .int .i64 s1, .int .i64 s2, .int .i64 s3, .int .i64 s4, .int .i64 s5, .int .i64 s6, .int .i64 s7, .int .i64 s8, .bool s9, .bool s10, .bool s11, .bool s12, .bool s13, .bool s14, .bool s15, .int .i64 s16, .int .i64 s17, .int .i64 s18] 25) = x := ⟨_, rfl⟩
 rw [hw1] at kb hB ⊢
 clear hw1
 go_wp2_with fail
 refine (repAwake _ (ht.below hB)).mono ?_
 rintro e w2 ⟨rfl, hb2⟩
 replace kb := kb.below hb2 kb.lt
 replace hB := hB.trans (hb2.mono hB.size)
 clear hb2
 by_cases hl : (ask.length : Int) > 100
 ·go_wp2_with fail
  go_ret
  exact ⟨rfl, hB⟩
 go_upto_region 4 with (fail)
 have hst : ∀ f ∈ ([⟨4, 17, FSq q1⟩, ⟨7, 20, FSq q1⟩, ⟨13, 26, FSq q2⟩, ⟨16, 29, FSq q2⟩] : List Fact), f.ok := List.forall_mem_cons.2 ⟨fsq_ok _ _ _, List.forall_mem_cons.2 ⟨fsq_ok _ _ _, List.forall_mem_cons.2 ⟨fsq_ok _ _ _, List.forall_mem_cons.2 ⟨fsq_ok _ _ _, fun _ h => by cases h⟩⟩⟩⟩
 refine wp_region_told (w1 := w2) (K := [⟨4, 17, FSq q1⟩, ⟨7, 20, FSq q1⟩, ⟨13, 26, FSq q2⟩, ⟨16, 29, FSq q2⟩]) (ix := 1000) (R0 := fun _ _ _ => True) (R1 := fun _ _ _ => True) [17, 20, 26, 29] (⟨#[.agg #[.int .i64 s0, .int .i64 s1, .int .i64 s2, .int .i64 s3, .int .i64 s4, .int .i64 s5, .int .i64 s6, .int .i64 s7, .int .i64 s8, .bool s9, .bool s10, .bool s11, .bool s12, .bool s13, .bool s14, .bool s15, .int .i64 s16, .int .i64 s17, .int .i64 s18], .string ⟨ask.toArray⟩, .bool p, .pointer (some ⟨w.heap.size, 0, none⟩), undef, undef, .bool true, .bool true, .bool true, .string ⟨ask.toArray⟩, .int .i64 (ask.length : Int), .bool (decide ((100 : Int) < (ask.length : Int))), undef, .bool true, .bool true, .agg #[.int .i64 s0, .int .i64 s1, .int .i64 s2, .int .i64 s3, .int .i64 s4, .int .i64 s5, .int .i64 s6, .int .i64 s7, .int .i64 s8, .bool s9, .bool s10, .bool s11, .bool s12, .bool s13, .bool s14, .bool s15, .int .i64 s16, .int .i64 s17, .int .i64 s18], .bool p, undef, .agg #[.int .i64 s0, .int .i64 s1, .int .i64 s2, .int .i64 s3, .int .i64 s4, .int .i64 s5, .int .i64 s6, .int .i64 s7, .int .i64 s8, .bool s9, .bool s10, .bool s11, .bool s12, .bool s13, .bool s14, .bool s15, .int .i64 s16, .int .i64 s17, .int .i64 s18], .bool p, undef, .bool true, .bool true, .bool true, .agg #[.int .i64 s0, .int .i64 s1, .int .i64 s2, .int .i64 s3, .int .i64 s4, .int .i64 s5, .int .i64 s6, .int .i64 s7, .int .i64 s8, .bool s9, .bool s10, .bool s11, .bool s12, .bool s13, .bool s14, .bool s15, .int .i64 s16, .int .i64 s17, .int .i64 s18], .string ⟨ask.toArray⟩, undef, .agg #[.int .i64 s0, .int .i64 s1, .int .i64 s2, .int .i64 s3, .int .i64 s4, .int .i64 s5, .int .i64 s6, .int .i64 s7, .int .i64 s8, .bool s9, .bool s10, .bool s11, .bool s12, .bool s13, .bool s14, .bool s15, .int .i64 s16, .int .i64 s17, .int .i64 s18], .string ⟨ask.toArray⟩, undef, .bool true, .bool true], []⟩) (fun g => ⟨#[.agg #[.int .i64 s0, .int .i64 s1, .int .i64 s2, .int .i64 s3, .int .i64 s4, .int .i64 s5, .int .i64 s6, .int .i64 s7, .int .i64 s8, .bool s9, .bool s10, .bool s11, .bool s12, .bool s13, .bool s14, .bool s15, .int .i64 s16, .int .i64 s17, .int .i64 s18], .string ⟨ask.toArray⟩, .bool p, .pointer (some ⟨w.heap.size, 0, none⟩), undef, undef, .bool true, .bool true, .bool true, .string ⟨ask.toArray⟩, .int .i64 (ask.length : Int), .bool (decide ((100 : Int) < (ask.length : Int))), undef, .bool true, .bool true, .agg #[.int .i64 s0, .int .i64 s1, .int .i64 s2, .int .i64 s3, .int .i64 s4, .int .i64 s5, .int .i64 s6, .int .i64 s7, .int .i64 s8, .bool s9, .bool s10, .bool s11, .bool s12, .bool s13, .bool s14, .bool s15, .int .i64 s16, .int .i64 s17, .int .i64 s18], .bool p, (g 17), .agg #[.int .i64 s0, .int .i64 s1, .int .i64 s2, .int .i64 s3, .int .i64 s4, .int .i64 s5, .int .i64 s6, .int .i64 s7, .int .i64 s8, .bool s9, .bool s10, .bool s11, .bool s12, .bool s13, .bool s14, .bool s15, .int .i64 s16, .int .i64 s17, .int .i64 s18], .bool p, (g 20), .bool true, .bool true, .bool true, .agg #[.int .i64 s0, .int .i64 s1, .int .i64 s2, .int .i64 s3, .int .i64 s4, .int .i64 s5, .int .i64 s6, .int .i64 s7, .int .i64 s8, .bool s9, .bool s10, .bool s11, .bool s12, .bool s13, .bool s14, .bool s15, .int .i64 s16, .int .i64 s17, .int .i64 s18], .string ⟨ask.toArray⟩, (g 26), .agg #[.int .i64 s0, .int .i64 s1, .int .i64 s2, .int .i64 s3, .int .i64 s4, .int .i64 s5, .int .i64 s6, .int .i64 s7, .int .i64 s8, .bool s9, .bool s10, .bool s11, .bool s12, .bool s13, .bool s14, .bool s15, .int .i64 s16, .int .i64 s17, .int .i64 s18], .string ⟨ask.toArray⟩, (g 29), .bool true, .bool true], []⟩) [.bool true, .bool true, .agg #[.int .i64 s0, .int .i64 s1, .int .i64 s2, .int .i64 s3, .int .i64 s4, .int .i64 s5, .int .i64 s6, .int .i64 s7, .int .i64 s8, .bool s9, .bool s10, .bool s11, .bool s12, .bool s13, .bool s14, .bool s15, .int .i64 s16, .int .i64 s17, .int .i64 s18], .bool p, undef, .agg #[.int .i64 s0, .int .i64 s1, .int .i64 s2, .int .i64 s3, .int .i64 s4, .int .i64 s5, .int .i64 s6, .int .i64 s7, .int .i64 s8, .bool s9, .bool s10, .bool s11, .bool s12, .bool s13, .bool s14, .bool s15, .int .i64 s16, .int .i64 s17, .int .i64 s18], .bool p, undef, .bool true, .bool true, .bool true, .agg #[.int .i64 s0, .int .i64 s1, .int .i64 s2, .int .i64 s3, .int .i64 s4, .int .i64 s5, .int .i64 s6, .int .i64 s7, .int .i64 s8, .bool s9, .bool s10, .bool s11, .bool s12, .bool s13, .bool s14, .bool s15, .int .i64 s16, .int .i64 s17, .int .i64 s18], .string ⟨ask.toArray⟩, undef, .agg #[.int .i64 s0, .int .i64 s1, .int .i64 s2, .int .i64 s3, .int .i64 s4, .int .i64 s5, .int .i64 s6, .int .i64 s7, .int .i64 s8, .bool s9, .bool s10, .bool s11, .bool s12, .bool s13, .bool s14, .bool s15, .int .i64 s16, .int .i64 s17, .int .i64 s18], .string ⟨ask.toArray⟩, undef, .bool true, .bool true, .bool true] (by kernel_rfl) (by kernel_rfl) (by kernel_rfl) (fun g => by kernel_rfl) (by kernel_rfl) (Below.refl _ _).drew (by decide) (by kernel_rfl)
  (goes_cons (gkP (fun _ => .bool true))
  (goes_cons (gkP (fun _ => .bool true))
  (goes_cons (gkL hst (fun W hW => kb.below hW kb.lt) Tryd.underlying25)
  (goes_cons (gkP (fun _ => .bool p))
  (goes_cons (gkG (fun g => #[.agg #[.int .i64 s0, .int .i64 s1, .int .i64 s2, .int .i64 s3, .int .i64 s4, .int .i64 s5, .int .i64 s6, .int .i64 s7, .int .i64 s8, .bool s9, .bool s10, .bool s11, .bool s12, .bool s13, .bool s14, .bool s15, .int .i64 s16, .int .i64 s17, .int .i64 s18], .bool p]) hst 0 (fun g W hW hin => HP.out W))
  (goes_cons (gkL hst (fun W hW => kb.below hW kb.lt) Tryd.underlying25)
  (goes_cons (gkP (fun _ => .bool p))
  (goes_cons (gkG (fun g => #[.agg #[.int .i64 s0, .int .i64 s1, .int .i64 s2, .int .i64 s3, .int .i64 s4, .int .i64 s5, .int .i64 s6, .int .i64 s7, .int .i64 s8, .bool s9, .bool s10, .bool s11, .bool s12, .bool s13, .bool s14, .bool s15, .int .i64 s16, .int .i64 s17, .int .i64 s18], .bool p]) hst 1 (fun g W hW hin => HQ.out W))
  (goes_cons (gkK (fun g => #[(g 17), (g 20)]) hst (fun g W hW hin => HE1.out W (hin 0 _ rfl (by kernel_rfl)) (hin 1 _ rfl (by kernel_rfl))))
  (goes_cons (gkP (fun _ => .bool true))
  (goes_cons (gkP (fun _ => .bool true))
  (goes_cons (gkL hst (fun W hW => kb.below hW kb.lt) Tryd.underlying25)
  (goes_cons (gkP (fun _ => .string ⟨ask.toArray⟩))
  (goes_cons (gkG (fun g => #[.agg #[.int .i64 s0, .int .i64 s1, .int .i64 s2, .int .i64 s3, .int .i64 s4, .int .i64 s5, .int .i64 s6, .int .i64 s7, .int .i64 s8, .bool s9, .bool s10, .bool s11, .bool s12, .bool s13, .bool s14, .bool s15, .int .i64 s16, .int .i64 s17, .int .i64 s18], .string ⟨ask.toArray⟩]) hst 2 (fun g W hW hin => HS.out W (hB.trans (hW.mono hB.size))))
  (goes_cons (gkL hst (fun W hW => kb.below hW kb.lt) Tryd.underlying25)
  (goes_cons (gkP (fun _ => .string ⟨ask.toArray⟩))
  (goes_cons (gkG (fun g => #[.agg #[.int .i64 s0, .int .i64 s1, .int .i64 s2, .int .i64 s3, .int .i64 s4, .int .i64 s5, .int .i64 s6, .int .i64 s7, .int .i64 s8, .bool s9, .bool s10, .bool s11, .bool s12, .bool s13, .bool s14, .bool s15, .int .i64 s16, .int .i64 s17, .int .i64 s18], .string ⟨ask.toArray⟩]) hst 3 (fun g W hW hin => HT.out W))
  (goes_cons (gkK (fun g => #[(g 26), (g 29)]) hst (fun g W hW hin => HE2.out W (hin 2 _ rfl (by kernel_rfl)) (hin 3 _ rfl (by kernel_rfl))))
  (goes_cons (gkP (fun _ => .bool true))
  (goes_cons (gkP (fun _ => .bool true)) goes_nil)))))))))))))))))))) ?_
 intro g w3 hW _
 have hB3 := hB.trans (hW.mono hB.size)
 clear hW hB hst HP HQ HS HT HE1 HE2
 go_wp2_with fail
 go_ret
 exact ⟨rfl, hB3⟩
end Go.Proofs.YtfifeofmfpjgfaaDoor
