/-
  Stage 19's laws, walked: ReportModes.
-/
import Derived.Test.YtfifeofmfpjgfaaDoorG40
import Derived.Deep.Cut
namespace Go.Proofs.YtfifeofmfpjgfaaDoor
open Go.RowKit
set_option maxRecDepth 100000 in
set_option maxHeartbeats 16000000 in
theorem reportModes_walk (m : Mo) (_hm : okM m) (p : Bool) (n : Int) (lo : -9223372036854775808 ≤ n) (hi : n ≤ 9223372036854775807) (w : World) (ht : Tab w) : Calls Tryd.prog 4 #[moV m, .bool p, .int .i64 n] w fun e w' => e = .returned (.bool true) ∧ Below w.heap.size w w' := by
 obtain ⟨q1, hq1⟩ : ∃ q, modeR m p n = q := ⟨_, rfl⟩
 obtain ⟨q2, hq2⟩ : ∃ q, flagsR n = q := ⟨_, rfl⟩
 obtain ⟨q3, hq3⟩ : ∃ q, fineR = q := ⟨_, rfl⟩
 obtain ⟨q4, hq4⟩ : ∃ q, versR = q := ⟨_, rfl⟩
 have m1 : Sml q1 := hq1 ▸ sml_mode m p n
 have m2 : Sml q2 := hq2 ▸ sml_flags n
 have m3 : Sml q3 := hq3 ▸ sml_fine
 have m4 : Sml q4 := hq4 ▸ sml_vers
 have HP1 : Hid (∀ W, Calls Tryd.prog 17 #[moV m, .bool p, .int .i64 n] W fun e w' => ∃ v, e = .returned v ∧ FSq q1 v w' ∧ Below W.heap.size W w') := Lib.hid fun W => fsq_of (hq1 ▸ pmode19_any m p n ⟨lo, hi⟩ W)
 have HR1 : Hid (∀ W, Calls Tryd.prog 18 #[moV m, .bool p, .int .i64 n] W fun e w' => ∃ v, e = .returned v ∧ FSq q1 v w' ∧ Below W.heap.size W w') := Lib.hid fun W => fsq_of (hq1 ▸ rmode19_any m p n ⟨lo, hi⟩ W)
 have HP2 : Hid (∀ W, Calls Tryd.prog 19 #[.int .i64 n] W fun e w' => ∃ v, e = .returned v ∧ FSq q2 v w' ∧ Below W.heap.size W w') := Lib.hid fun W => fsq_of (hq2 ▸ pflags19_any n W)
 have HR2 : Hid (∀ W, Calls Tryd.prog 20 #[.int .i64 n] W fun e w' => ∃ v, e = .returned v ∧ FSq q2 v w' ∧ Below W.heap.size W w') := Lib.hid fun W => fsq_of (hq2 ▸ rflags19_any n W)
 have HP3 : Hid (∀ W, Calls Tryd.prog 21 #[] W fun e w' => ∃ v, e = .returned v ∧ FSq q3 v w' ∧ Below W.heap.size W w') := Lib.hid fun W => fsq_of (hq3 ▸ pfine_any W)
 have HR3 : Hid (∀ W, Calls Tryd.prog 22 #[] W fun e w' => ∃ v, e = .returned v ∧ FSq q3 v w' ∧ Below W.heap.size W w') := Lib.hid fun W => fsq_of (hq3 ▸ rfine19_any W)
 have HP4 : Hid (∀ W, Calls Tryd.prog 23 #[] W fun e w' => ∃ v, e = .returned v ∧ FSq q4 v w' ∧ Below W.heap.size W w') := Lib.hid fun W => fsq_of (hq4 ▸ (pversion_any W).mono fun _ _ ⟨h, hb⟩ => ⟨none, 0, h, fun h => absurd h (by decide), hb⟩)
 have HR4 : Hid (∀ W, Calls Tryd.prog 24 #[] W fun e w' => ∃ v, e = .returned v ∧ FSq q4 v w' ∧ Below W.heap.size W w') := Lib.hid fun W => fsq_of (hq4 ▸ (rversion19_any W).mono fun _ _ ⟨h, hb⟩ => ⟨none, 0, h, fun h => absurd h (by decide), hb⟩)
 have HE1 : Hid (∀ (W : World) {u v : Value}, FSq q1 u W → FSq q1 v W → Calls Tryd.prog 10 #[u, v] W fun e w' => e = .returned (.bool true) ∧ Below W.heap.size W w') := Lib.hid fun W _ _ hu hv => same19 (sameB_self q1) m1 m1 hu hv
 have HE2 : Hid (∀ (W : World) {u v : Value}, FSq q2 u W → FSq q2 v W → Calls Tryd.prog 10 #[u, v] W fun e w' => e = .returned (.bool true) ∧ Below W.heap.size W w') := Lib.hid fun W _ _ hu hv => same19 (sameB_self q2) m2 m2 hu hv
 have HE3 : Hid (∀ (W : World) {u v : Value}, FSq q3 u W → FSq q3 v W → Calls Tryd.prog 10 #[u, v] W fun e w' => e = .returned (.bool true) ∧ Below W.heap.size W w') := Lib.hid fun W _ _ hu hv => same19 (sameB_self q3) m3 m3 hu hv
 have HE4 : Hid (∀ (W : World) {u v : Value}, FSq q4 u W → FSq q4 v W → Calls Tryd.prog 10 #[u, v] W fun e w' => e = .returned (.bool true) ∧ Below W.heap.size W w') := Lib.hid fun W _ _ hu hv => same19 (sameB_self q4) m4 m4 hu hv
 clear hq1 hq2 hq3 hq4 m1 m2 m3 m4
 obtain ⟨m0, m1, m2, m3, m4, m5, m6, m7, m8, m9⟩ := m
 unfold moV at HP1 HR1 ⊢
 simp only at HP1 HR1 ⊢
 have kb := Blk.new w 35 #[.bool m0, .bool m1, .bool m2, .bool m3, .bool m4, .bool m5, .bool m6, .int .i64 m7, .int .i64 m8, .int .i64 m9]
 have hB := (Below.refl w.heap.size w).alloc (Nat.le_refl _) (.cells #[.bool m0, .bool m1, .bool m2, .bool m3, .bool m4, .bool m5, .bool m6, .int .i64 m7, .int .i64 m8, .int .i64 m9] 35)
 go_enter Tryd.func4, Tryd.ntmps4
 go_upto_region 1 with (fail)
 obtain ⟨w1, hw1⟩ : ∃ x, w.alloc (.cells #[.bool m0, .bool m1, .bool m2, .bool m3, .bool m4, .bool m5, .bool m6, .int .i64 m7, .int .i64 m8, .int .i64 m9] 35) = x := ⟨_, rfl⟩
 rw [hw1] at kb hB ⊢
 clear hw1
 go_wp2_with fail
 refine (repAwake _ (ht.below hB)).mono ?_
 rintro e w2 ⟨rfl, hb2⟩
 replace kb := kb.below hb2 kb.lt
 replace hB := hB.trans (hb2.mono hB.size)
 clear hb2
 go_wp2_with fail
 go_loopw [8] (fun z wr => ∃ j : Nat, j ≤ 256 ∧ z = .int .i64 j ∧ Blk wr w.heap.size 35 #[.bool m0, .bool m1, .bool m2, .bool m3, .bool m4, .bool m5, .bool m6, .int .i64 m7, .int .i64 m8, .int .i64 m9] ∧ Below w.heap.size w wr) (fun z _ => 256 - (intOf z).toNat)
 case atStart => exact ⟨0, Nat.zero_le _, rfl, kb, hB⟩
 case round =>
  obtain ⟨j, hj, rfl, kj, hbj⟩ := hrel
  clear kb hB
  by_cases hlt : j < 256
  ·have v1 : (j : Int) < 256 := by omega
   have v2 : IntKind.i64.wrap ((j : Int) + 1) = (j : Int) + 1 := by rw [IntKind.wrap_i64]; omega
   obtain ⟨C, hC⟩ : ∃ C : UInt8, C.toNat = j := ⟨UInt8.ofNat j, by simp; omega⟩
   have v3 : IntKind.u8.wrap (j : Int) = (C.toNat : Int) := by rw [hC]; have := IntKind.wrap_u8 (j : Int); omega
   clear hC
   go_wp2_with fail
   refine (fsq_of (pattr_any C _)).mono ?_
   rintro e w3 ⟨v, rfl, hv, hb3⟩
   have k3 := kj.below hb3 kj.lt
   have hB3 := hbj.trans (hb3.mono hbj.size)
   clear hb3 kj hbj
   go_wp2_with fail
   refine (fsq_of (rattr19_any C _)).mono ?_
   rintro e w4 ⟨u, rfl, hu, hb4⟩
   have k4 := k3.below hb4 k3.lt
   have hB4 := hB3.trans (hb4.mono hB3.size)
   have hv4 := hv.below hb4
   clear hb4 k3 hB3 hv
   go_wp2_with fail
   refine (same19 (sameB_self (attrR C)) (sml_attr C) (sml_attr C) hv4 hu).mono ?_
   rintro e w5 ⟨rfl, hb5⟩
   have k5 := k4.below hb5 k4.lt
   have hB5 := hB4.trans (hb5.mono hB4.size)
   clear hb5 k4 hB4 hv4 hu
   go_wp2_with fail
   go_roundw
   case rel => exact ⟨j + 1, by omega, by go_num, k5, hB5⟩
   case measure => simp [intOf]; omega
  ·have v1 : ¬ ((j : Int) < 256) := by omega
   obtain rfl : j = 256 := by omega
   go_upto_region 7 with (fail)
   have hst : ∀ f ∈ ([⟨5, 27, FSq q1⟩, ⟨9, 31, FSq q1⟩, ⟨14, 36, FSq q2⟩, ⟨16, 38, FSq q2⟩, ⟨20, 42, FSq q3⟩, ⟨21, 43, FSq q3⟩, ⟨25, 47, FSq q4⟩, ⟨26, 48, FSq q4⟩] : List Fact), f.ok := List.forall_mem_cons.2 ⟨fsq_ok _ _ _, List.forall_mem_cons.2 ⟨fsq_ok _ _ _, List.forall_mem_cons.2 ⟨fsq_ok _ _ _, List.forall_mem_cons.2 ⟨fsq_ok _ _ _, List.forall_mem_cons.2 ⟨fsq_ok _ _ _, List.forall_mem_cons.2 ⟨fsq_ok _ _ _, List.forall_mem_cons.2 ⟨fsq_ok _ _ _, List.forall_mem_cons.2 ⟨fsq_ok _ _ _, fun _ h => by cases h⟩⟩⟩⟩⟩⟩⟩⟩
   refine wp_region_told (w1 := wr) (K := [⟨5, 27, FSq q1⟩, ⟨9, 31, FSq q1⟩, ⟨14, 36, FSq q2⟩, ⟨16, 38, FSq q2⟩, ⟨20, 42, FSq q3⟩, ⟨21, 43, FSq q3⟩, ⟨25, 47, FSq q4⟩, ⟨26, 48, FSq q4⟩]) (ix := 1000) (R0 := fun _ _ _ => True) (R1 := fun _ _ _ => True) [27, 31, 36, 38, 42, 43, 47, 48] (⟨#[.agg #[.bool m0, .bool m1, .bool m2, .bool m3, .bool m4, .bool m5, .bool m6, .int .i64 m7, .int .i64 m8, .int .i64 m9], .bool p, .int .i64 n, .pointer (some ⟨w.heap.size, 0, none⟩), undef, undef, .bool true, .bool true, .int .i64 ((256 : Nat) : Int), .bool true, .int .i64 ((256 : Nat) : Int), .bool false, u12, u13, u14, u15, u16, u17, u18, u19, u20, u21, .bool true, .bool true, .agg #[.bool m0, .bool m1, .bool m2, .bool m3, .bool m4, .bool m5, .bool m6, .int .i64 m7, .int .i64 m8, .int .i64 m9], .bool p, .int .i64 n, undef, .agg #[.bool m0, .bool m1, .bool m2, .bool m3, .bool m4, .bool m5, .bool m6, .int .i64 m7, .int .i64 m8, .int .i64 m9], .bool p, .int .i64 n, undef, .bool true, .bool true, .bool true, .int .i64 n, undef, .int .i64 n, undef, .bool true, .bool true, .bool true, undef, undef, .bool true, .bool true, .bool true, undef, undef, .bool true, .bool true], []⟩) (fun g => ⟨#[.agg #[.bool m0, .bool m1, .bool m2, .bool m3, .bool m4, .bool m5, .bool m6, .int .i64 m7, .int .i64 m8, .int .i64 m9], .bool p, .int .i64 n, .pointer (some ⟨w.heap.size, 0, none⟩), undef, undef, .bool true, .bool true, .int .i64 ((256 : Nat) : Int), .bool true, .int .i64 ((256 : Nat) : Int), .bool false, u12, u13, u14, u15, u16, u17, u18, u19, u20, u21, .bool true, .bool true, .agg #[.bool m0, .bool m1, .bool m2, .bool m3, .bool m4, .bool m5, .bool m6, .int .i64 m7, .int .i64 m8, .int .i64 m9], .bool p, .int .i64 n, (g 27), .agg #[.bool m0, .bool m1, .bool m2, .bool m3, .bool m4, .bool m5, .bool m6, .int .i64 m7, .int .i64 m8, .int .i64 m9], .bool p, .int .i64 n, (g 31), .bool true, .bool true, .bool true, .int .i64 n, (g 36), .int .i64 n, (g 38), .bool true, .bool true, .bool true, (g 42), (g 43), .bool true, .bool true, .bool true, (g 47), (g 48), .bool true, .bool true], []⟩) [.bool true, .bool true, .agg #[.bool m0, .bool m1, .bool m2, .bool m3, .bool m4, .bool m5, .bool m6, .int .i64 m7, .int .i64 m8, .int .i64 m9], .bool p, .int .i64 n, undef, .agg #[.bool m0, .bool m1, .bool m2, .bool m3, .bool m4, .bool m5, .bool m6, .int .i64 m7, .int .i64 m8, .int .i64 m9], .bool p, .int .i64 n, undef, .bool true, .bool true, .bool true, .int .i64 n, undef, .int .i64 n, undef, .bool true, .bool true, .bool true, undef, undef, .bool true, .bool true, .bool true, undef, undef, .bool true, .bool true, .bool true] (by kernel_rfl) (by kernel_rfl) (by kernel_rfl) (fun g => by kernel_rfl) (by kernel_rfl) (Below.refl _ _).drew (by decide) (by kernel_rfl)
    (goes_cons (gkP (fun _ => .bool true))
    (goes_cons (gkP (fun _ => .bool true))
    (goes_cons (gkL hst (fun W hW => kj.below hW kj.lt) Tryd.underlying35)
    (goes_cons (gkP (fun _ => .bool p))
    (goes_cons (gkP (fun _ => .int .i64 n))
    (goes_cons (gkG (fun g => #[.agg #[.bool m0, .bool m1, .bool m2, .bool m3, .bool m4, .bool m5, .bool m6, .int .i64 m7, .int .i64 m8, .int .i64 m9], .bool p, .int .i64 n]) hst 0 (fun g W hW hin => HP1.out W))
    (goes_cons (gkL hst (fun W hW => kj.below hW kj.lt) Tryd.underlying35)
    (goes_cons (gkP (fun _ => .bool p))
    (goes_cons (gkP (fun _ => .int .i64 n))
    (goes_cons (gkG (fun g => #[.agg #[.bool m0, .bool m1, .bool m2, .bool m3, .bool m4, .bool m5, .bool m6, .int .i64 m7, .int .i64 m8, .int .i64 m9], .bool p, .int .i64 n]) hst 1 (fun g W hW hin => HR1.out W))
    (goes_cons (gkK (fun g => #[(g 27), (g 31)]) hst (fun g W hW hin => HE1.out W (hin 0 _ rfl (by kernel_rfl)) (hin 1 _ rfl (by kernel_rfl))))
    (goes_cons (gkP (fun _ => .bool true))
    (goes_cons (gkP (fun _ => .bool true))
    (goes_cons (gkP (fun _ => .int .i64 n))
    (goes_cons (gkG (fun g => #[.int .i64 n]) hst 2 (fun g W hW hin => HP2.out W))
    (goes_cons (gkP (fun _ => .int .i64 n))
    (goes_cons (gkG (fun g => #[.int .i64 n]) hst 3 (fun g W hW hin => HR2.out W))
    (goes_cons (gkK (fun g => #[(g 36), (g 38)]) hst (fun g W hW hin => HE2.out W (hin 2 _ rfl (by kernel_rfl)) (hin 3 _ rfl (by kernel_rfl))))
    (goes_cons (gkP (fun _ => .bool true))
    (goes_cons (gkP (fun _ => .bool true))
    (goes_cons (gkG (fun g => #[]) hst 4 (fun g W hW hin => HP3.out W))
    (goes_cons (gkG (fun g => #[]) hst 5 (fun g W hW hin => HR3.out W))
    (goes_cons (gkK (fun g => #[(g 42), (g 43)]) hst (fun g W hW hin => HE3.out W (hin 4 _ rfl (by kernel_rfl)) (hin 5 _ rfl (by kernel_rfl))))
    (goes_cons (gkP (fun _ => .bool true))
    (goes_cons (gkP (fun _ => .bool true))
    (goes_cons (gkG (fun g => #[]) hst 6 (fun g W hW hin => HP4.out W))
    (goes_cons (gkG (fun g => #[]) hst 7 (fun g W hW hin => HR4.out W))
    (goes_cons (gkK (fun g => #[(g 47), (g 48)]) hst (fun g W hW hin => HE4.out W (hin 6 _ rfl (by kernel_rfl)) (hin 7 _ rfl (by kernel_rfl))))
    (goes_cons (gkP (fun _ => .bool true))
    (goes_cons (gkP (fun _ => .bool true)) goes_nil)))))))))))))))))))))))))))))) ?_
   intro g w3 hW _
   have hB3 := hbj.trans (hW.mono hbj.size)
   clear hW hbj kj hst HP1 HP2 HP3 HP4 HR1 HR2 HR3 HR4 HE1 HE2 HE3 HE4
   go_wp2_with fail
   go_ret
   exact ⟨rfl, hB3⟩
end Go.Proofs.YtfifeofmfpjgfaaDoor
