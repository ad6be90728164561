/-
  Stage 19's laws, walked: ReportAsked.
-/
import Derived.Test.YtfifeofmfpjgfaaDoorG40
import Derived.Deep.Cut
namespace Go.Proofs.YtfifeofmfpjgfaaDoor
open Go.RowKit
set_option maxRecDepth 100000 in
set_option maxHeartbeats 16000000 in
theorem reportAsked_walk (s : Sc) (hs : okSc s) (a0 : ByteArray) (ha : a0.size ≤ maxLen) (b0 : ByteArray) (hb : b0.size ≤ maxLen) (w : World) (ht : Tab w) : Calls Tryd.prog 6 #[scV s, .string a0, .string b0] w fun e w' => e = .returned (.bool true) ∧ Below w.heap.size w w' := by
 obtain ⟨⟨ask⟩⟩ := a0
 obtain ⟨⟨oth⟩⟩ := b0
 have hal : ask.length ≤ maxLen := ha
 have hbl : oth.length ≤ maxLen := hb
 show Calls Tryd.prog 6 #[scV s, .string ⟨ask.toArray⟩, .string ⟨oth.toArray⟩] w _
 obtain ⟨q1, hq1⟩ : ∃ q, setR s ask = q := ⟨_, rfl⟩
 obtain ⟨q2, hq2⟩ : ∃ q, setR s oth = q := ⟨_, rfl⟩
 have m1 : Sml q1 := hq1 ▸ sml_set s ask
 have m2 : Sml q2 := hq2 ▸ sml_set s oth
 have e1 : saidR s ask = q1.data := by rw [← hq1]; rfl
 have e2 : saidR s oth = q2.data := by rw [← hq2]; rfl
 have hun : (ask ≠ [109] ∧ ask ≠ [114] ∧ ask ≠ [115] ∧ ask ≠ [32, 113] ∧ ask ≠ [34, 112]) → q1.data = [] := fun h => e1 ▸ said_known s h
 obtain ⟨r1, h1⟩ : ∃ r, (q1.data == []) = r := ⟨_, rfl⟩
 obtain ⟨r2, h2⟩ : ∃ r, (q2.data == []) = r := ⟨_, rfl⟩
 have hsm : r1 = true → r2 = true → sameB q1 q2 = true := fun a b => by
  rw [a] at h1
  rw [b] at h2
  rw [sameB_iff, ← hq1, ← hq2]
  exact set_refused s (by rw [e1]; exact eq_of_beq h1) (by rw [e2]; exact eq_of_beq h2)
 have HP1 : Hid (∀ W, Below w.heap.size w W → Calls Tryd.prog 13 #[scV s, .string ⟨ask.toArray⟩] W fun e w' => ∃ v, e = .returned v ∧ FSq q1 v w' ∧ Below W.heap.size W w') := Lib.hid fun W hW => fsq_of (hq1 ▸ pSetting_any s hs.2.2.2.2.2.2.2.2.2 ask hal W (ht.below hW))
 have HP2 : Hid (∀ W, Below w.heap.size w W → Calls Tryd.prog 13 #[scV s, .string ⟨oth.toArray⟩] W fun e w' => ∃ v, e = .returned v ∧ FSq q2 v w' ∧ Below W.heap.size W w') := Lib.hid fun W hW => fsq_of (hq2 ▸ pSetting_any s hs.2.2.2.2.2.2.2.2.2 oth hbl W (ht.below hW))
 have HE : Hid (r1 = true → r2 = true → ∀ (W : World) {u v : Value}, FSq q1 u W → FSq q2 v W → Calls Tryd.prog 10 #[u, v] W fun e w' => e = .returned (.bool true) ∧ Below W.heap.size W w') := Lib.hid fun a b W _ _ hu hv => same19 (hsm a b) m1 m2 hu hv
 have HUN : Hid ((ask ≠ [109] ∧ ask ≠ [114] ∧ ask ≠ [115] ∧ ask ≠ [32, 113] ∧ ask ≠ [34, 112]) → r1 = true) := Lib.hid fun h => by rw [← h1, hun h]; rfl
 clear hq1 hq2 m1 m2 e1 e2 hun hsm hs
 obtain ⟨s0, s1, s2, s3, s4, s5, s6, s7, s8, ⟨s9, s10, s11, s12, s13, s14, s15, s16, s17, s18⟩⟩ := s
 unfold scV at HP1 HP2 ⊢
 simp only at HP1 HP2 ⊢
 have kb := Blk.new w 25 #[.int .i64 s0, .int .i64 s1, .int .i64 s2, .int .i64 s3, .int .i64 s4, .int .i64 s5, .int .i64 s6, .int .i64 s7, .int .i64 s8, .bool s9, .bool s10, .bool s11, .bool s12, .bool s13, .bool s14, .bool s15, .int .i64 s16, .int .i64 s17, .int .i64 s18]
 have hB := (Below.refl w.heap.size w).alloc (Nat.le_refl _) (.cells #[.int .i64 s0, .int .i64 s1, .int .i64 s2, .int .i64 s3, .int .i64 s4, .int .i64 s5, .int .i64 s6, .int .i64 s7, .int .i64 s8, .bool s9, .bool s10, .bool s11, .bool s12, .bool s13, .bool s14, .bool s15, .int .i64 s16, .int .i64 s17, .int .i64 s18] 25)
 go_enter Tryd.func6, Tryd.ntmps6
 go_upto_region 1 with (fail)
 obtain ⟨w1, hw1⟩ : ∃ x, w.alloc (.cells #[.int .i64 s0, .int .i64 s1, .int .i64 s2, .int .i64 s3, .int .i64 s4, .int .i64 s5, .int .i64 s6, .int .i64 s7, .int .i64 s8, .bool s9, .bool s10, .bool s11, .bool s12, .bool s13, .bool s14, .bool s15, .int .i64 s16, .int .i64 s17, .int .i64 s18] 25) = x := ⟨_, rfl⟩
 rw [hw1] at kb hB ⊢
 clear hw1
 go_wp2_with fail
 refine (repAwake _ (ht.below hB)).mono ?_
 rintro e w2 ⟨rfl, hb2⟩
 replace kb := kb.below hb2 kb.lt
 replace hB := hB.trans (hb2.mono hB.size)
 clear hb2
 by_cases hl : (ask.length : Int) > 100
 ·go_wp2_with fail
  go_ret
  exact ⟨rfl, hB⟩
 by_cases hl2 : (oth.length : Int) > 100
 ·go_wp2_with fail
  go_ret
  exact ⟨rfl, hB⟩
 go_upto_region 4 with (fail)
 clear hl hl2
 go_wp2_with (with_reducible refine Blk.wp_get kb Tryd.underlying25 rfl (by kernel_rfl) rfl (.tmp 3) rfl rfl ?_)
 refine (HP1.out _ hB).mono ?_
 rintro e w3 ⟨v, rfl, ⟨A1, c1, rfl, ra⟩, hb⟩
 unfold sqV
 have kA := Blk.new w3 30 #[.int .i64 q1.kind, .int .u8 (q1.priv.toNat : Int), .slice A1 q1.params.length c1, .string ⟨q1.inter.toArray⟩, .int .u8 (q1.final.toNat : Int), .string ⟨q1.data.toArray⟩]
 replace ra := ra.below ((Below.refl _ _).alloc (Nat.le_refl _) (.cells #[.int .i64 q1.kind, .int .u8 (q1.priv.toNat : Int), .slice A1 q1.params.length c1, .string ⟨q1.inter.toArray⟩, .int .u8 (q1.final.toNat : Int), .string ⟨q1.data.toArray⟩] 30))
 replace kb := (kb.below hb kb.lt).alloc (.cells #[.int .i64 q1.kind, .int .u8 (q1.priv.toNat : Int), .slice A1 q1.params.length c1, .string ⟨q1.inter.toArray⟩, .int .u8 (q1.final.toNat : Int), .string ⟨q1.data.toArray⟩] 30)
 replace hB := (hB.trans (hb.mono hB.size)).alloc (Nat.le_trans hB.size hb.size) (.cells #[.int .i64 q1.kind, .int .u8 (q1.priv.toNat : Int), .slice A1 q1.params.length c1, .string ⟨q1.inter.toArray⟩, .int .u8 (q1.final.toNat : Int), .string ⟨q1.data.toArray⟩] 30)
 clear hb
 go_upto_region 5 with (fail)
 obtain ⟨w4, hw⟩ : ∃ x, w3.alloc (.cells #[.int .i64 q1.kind, .int .u8 (q1.priv.toNat : Int), .slice A1 q1.params.length c1, .string ⟨q1.inter.toArray⟩, .int .u8 (q1.final.toNat : Int), .string ⟨q1.data.toArray⟩] 30) = x := ⟨_, rfl⟩
 rw [hw] at kA ra hB kb ⊢
 clear hw
 go_wp2_with (with_reducible refine Blk.wp_get kb Tryd.underlying25 rfl (by kernel_rfl) rfl (.tmp 3) rfl rfl ?_)
 refine (HP2.out _ hB).mono ?_
 rintro e w5 ⟨v, rfl, ⟨A2, c2, rfl, rb⟩, hb⟩
 unfold sqV
 have kB := Blk.new w5 30 #[.int .i64 q2.kind, .int .u8 (q2.priv.toNat : Int), .slice A2 q2.params.length c2, .string ⟨q2.inter.toArray⟩, .int .u8 (q2.final.toNat : Int), .string ⟨q2.data.toArray⟩]
 replace rb := rb.below ((Below.refl _ _).alloc (Nat.le_refl _) (.cells #[.int .i64 q2.kind, .int .u8 (q2.priv.toNat : Int), .slice A2 q2.params.length c2, .string ⟨q2.inter.toArray⟩, .int .u8 (q2.final.toNat : Int), .string ⟨q2.data.toArray⟩] 30))
 replace kb := (kb.below hb kb.lt).alloc (.cells #[.int .i64 q2.kind, .int .u8 (q2.priv.toNat : Int), .slice A2 q2.params.length c2, .string ⟨q2.inter.toArray⟩, .int .u8 (q2.final.toNat : Int), .string ⟨q2.data.toArray⟩] 30)
 replace kA := (kA.below hb kA.lt).alloc (.cells #[.int .i64 q2.kind, .int .u8 (q2.priv.toNat : Int), .slice A2 q2.params.length c2, .string ⟨q2.inter.toArray⟩, .int .u8 (q2.final.toNat : Int), .string ⟨q2.data.toArray⟩] 30)
 replace ra := (ra.below hb).below ((Below.refl _ _).alloc (Nat.le_refl _) (.cells #[.int .i64 q2.kind, .int .u8 (q2.priv.toNat : Int), .slice A2 q2.params.length c2, .string ⟨q2.inter.toArray⟩, .int .u8 (q2.final.toNat : Int), .string ⟨q2.data.toArray⟩] 30))
 replace hB := (hB.trans (hb.mono hB.size)).alloc (Nat.le_trans hB.size hb.size) (.cells #[.int .i64 q2.kind, .int .u8 (q2.priv.toNat : Int), .slice A2 q2.params.length c2, .string ⟨q2.inter.toArray⟩, .int .u8 (q2.final.toNat : Int), .string ⟨q2.data.toArray⟩] 30)
 clear hb
 go_upto_region 6 with (fail)
 obtain ⟨w6, hw⟩ : ∃ x, w5.alloc (.cells #[.int .i64 q2.kind, .int .u8 (q2.priv.toNat : Int), .slice A2 q2.params.length c2, .string ⟨q2.inter.toArray⟩, .int .u8 (q2.final.toNat : Int), .string ⟨q2.data.toArray⟩] 30) = x := ⟨_, rfl⟩
 rw [hw] at kB rb hB kb kA ra ⊢
 clear hw
 clear HP1 HP2 kb
 obtain ⟨a0, a1, a2, a3, a4, a5⟩ := Blk.cells6 kA
 obtain ⟨b0, b1, b2, b3, b4, b5⟩ := Blk.cells6 kB
 have HF := Lib.hid (fun (x : r1 = true) (y : r2 = true) => HE.out x y w6 ⟨A1, c1, rfl, ra⟩ ⟨A2, c2, rfl, rb⟩)
 clear kA kB ra rb HE
 by_cases h10 : ask = [109]
 ·subst h10
  clear HUN
  cases r1 <;> cases r2
  ·go_wp2_with fail
   go_ret
   exact ⟨rfl, hB⟩
  ·go_wp2_with fail
   go_ret
   exact ⟨rfl, hB⟩
  ·go_wp2_with fail
   go_ret
   exact ⟨rfl, hB⟩
  ·go_wp2_with fail
   refine (HF.out (by trivial) (by trivial)).mono ?_
   rintro e w7 ⟨rfl, hb7⟩
   have hB7 := hB.trans (hb7.mono hB.size)
   clear hb7 hB
   go_wp2_with fail
   go_ret
   exact ⟨rfl, hB7⟩
 have n0 : (ask == [109]) = false := beq_eq_false_iff_ne.2 h10
 by_cases h11 : ask = [114]
 ·subst h11
  clear HUN
  cases r1 <;> cases r2
  ·go_wp2_with fail
   go_ret
   exact ⟨rfl, hB⟩
  ·go_wp2_with fail
   go_ret
   exact ⟨rfl, hB⟩
  ·go_wp2_with fail
   go_ret
   exact ⟨rfl, hB⟩
  ·go_wp2_with fail
   refine (HF.out (by trivial) (by trivial)).mono ?_
   rintro e w7 ⟨rfl, hb7⟩
   have hB7 := hB.trans (hb7.mono hB.size)
   clear hb7 hB
   go_wp2_with fail
   go_ret
   exact ⟨rfl, hB7⟩
 have n1 : (ask == [114]) = false := beq_eq_false_iff_ne.2 h11
 by_cases h12 : ask = [115]
 ·subst h12
  clear HUN
  cases r1 <;> cases r2
  ·go_wp2_with fail
   go_ret
   exact ⟨rfl, hB⟩
  ·go_wp2_with fail
   go_ret
   exact ⟨rfl, hB⟩
  ·go_wp2_with fail
   go_ret
   exact ⟨rfl, hB⟩
  ·go_wp2_with fail
   refine (HF.out (by trivial) (by trivial)).mono ?_
   rintro e w7 ⟨rfl, hb7⟩
   have hB7 := hB.trans (hb7.mono hB.size)
   clear hb7 hB
   go_wp2_with fail
   go_ret
   exact ⟨rfl, hB7⟩
 have n2 : (ask == [115]) = false := beq_eq_false_iff_ne.2 h12
 by_cases h13 : ask = [32, 113]
 ·subst h13
  clear HUN
  cases r1 <;> cases r2
  ·go_wp2_with fail
   go_ret
   exact ⟨rfl, hB⟩
  ·go_wp2_with fail
   go_ret
   exact ⟨rfl, hB⟩
  ·go_wp2_with fail
   go_ret
   exact ⟨rfl, hB⟩
  ·go_wp2_with fail
   refine (HF.out (by trivial) (by trivial)).mono ?_
   rintro e w7 ⟨rfl, hb7⟩
   have hB7 := hB.trans (hb7.mono hB.size)
   clear hb7 hB
   go_wp2_with fail
   go_ret
   exact ⟨rfl, hB7⟩
 have n3 : (ask == [32, 113]) = false := beq_eq_false_iff_ne.2 h13
 by_cases h14 : ask = [34, 112]
 ·subst h14
  clear HUN
  cases r1 <;> cases r2
  ·go_wp2_with fail
   go_ret
   exact ⟨rfl, hB⟩
  ·go_wp2_with fail
   go_ret
   exact ⟨rfl, hB⟩
  ·go_wp2_with fail
   go_ret
   exact ⟨rfl, hB⟩
  ·go_wp2_with fail
   refine (HF.out (by trivial) (by trivial)).mono ?_
   rintro e w7 ⟨rfl, hb7⟩
   have hB7 := hB.trans (hb7.mono hB.size)
   clear hb7 hB
   go_wp2_with fail
   go_ret
   exact ⟨rfl, hB7⟩
 have n4 : (ask == [34, 112]) = false := beq_eq_false_iff_ne.2 h14
 obtain rfl : r1 = true := HUN.out ⟨h10, h11, h12, h13, h14⟩
 clear HUN h10 h11 h12 h13 h14
 cases r2
 ·go_wp2_with fail
  go_ret
  exact ⟨rfl, hB⟩
 ·go_wp2_with fail
  refine (HF.out (by trivial) (by trivial)).mono ?_
  rintro e w7 ⟨rfl, hb7⟩
  have hB7 := hB.trans (hb7.mono hB.size)
  clear hb7 hB
  go_wp2_with fail
  go_ret
  exact ⟨rfl, hB7⟩
end Go.Proofs.YtfifeofmfpjgfaaDoor
