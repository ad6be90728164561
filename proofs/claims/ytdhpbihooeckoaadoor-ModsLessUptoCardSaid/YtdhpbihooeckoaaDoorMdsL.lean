/-
  Layer 10, the laws' walks over the bundle.
-/
import Derived.Test.YtdhpbihooeckoaaDoorMdsC
import Derived.Test.YtdhpbihooeckoaaDoorRegK
namespace Go.Proofs.YtdhpbihooeckoaaDoor
open Go.RowKit

variable {Inv : World → Prop}
theorem nofact : ∀ f ∈ ([] : List Fact), f.ok := fun f h => by cases h
set_option maxRecDepth 100000 in
set_option maxHeartbeats 8000000 in
theorem modsMay_walk (H : MdsC Inv) (k : Ky) (hk : okK k) (hs : k.text.size ≤ maxLen) (w : World) (hv : Inv w) : Calls Tryd.prog 3 #[kyV k] w fun e w' => e = .returned (.bool true) ∧ Below w.heap.size w w' := by
  obtain ⟨code, mods, typ, shift, base, text⟩ := k
  have HK := Lib.hid hk
  clear hk
  have hB : Below w.heap.size w (w.alloc (.cells #[.int .i64 code, .int .i64 mods, .int .i64 typ, .int .i64 shift, .int .i64 base, .string text] 23)) := (Below.refl _ w).alloc (Nat.le_refl _) _
  have k0 := Blk.new w 23 #[.int .i64 code, .int .i64 mods, .int .i64 typ, .int .i64 shift, .int .i64 base, .string text]
  have hv0 := H.invB hv hB
  have HSZ := Lib.hid hs
  rw [kyV]
  clear hs
  go_enter Tryd.func3, Tryd.ntmps3
  go_wp2_with fail
  refine (mdsAwake H _ hv0).mono ?_
  rintro e w1 ⟨rfl, hb1⟩
  have k1 := k0.below hb1 k0.lt
  have hB1 := hB.trans (hb1.mono hB.size)
  have hv1 := H.invB hv hB1
  clear hv0 k0 hB hb1
  have c5 := k1.cell 5
  have hsz : (text.size : Int) ≤ 9223372036854775807 := by
    have := HSZ.out
    simp only [maxLen] at this
    omega
  by_cases h : 100 < text.size
  · have t1 : decide (100 < (text.size : Int)) = true := decide_eq_true (by omega)
    clear h
    go_wp2_with fail
    go_ret
    exact ⟨rfl, hB1⟩
  · have t1 : decide (100 < (text.size : Int)) = false := decide_eq_false (by omega)
    have HS := Lib.hid (show text.size ≤ 4294967296 by omega)
    clear h
    obtain ⟨m, hm⟩ : ∃ m, mayK ⟨code, mods, typ, shift, base, text⟩ = m := ⟨_, rfl⟩
    obtain ⟨z, hz⟩ : ∃ z, shownK ⟨code, mods, typ, shift, base, text⟩ = z := ⟨_, rfl⟩
    have HMA : Hid (∀ W, Inv W → Calls Tryd.prog 10 #[.agg #[.int .i64 code, .int .i64 mods, .int .i64 typ, .int .i64 shift, .int .i64 base, .string text]] W fun e w' => e = .returned (.bool m) ∧ Below W.heap.size W w') := Lib.hid fun W hW => H.may_at W hW HK.out HS.out hm
    have HMB : Hid (∀ W, Calls Tryd.prog 11 #[.agg #[.int .i64 code, .int .i64 mods, .int .i64 typ, .int .i64 shift, .int .i64 base, .string text]] W fun e w' => e = .returned (.bool m) ∧ Below W.heap.size W w') := Lib.hid fun W => rmay_at10 W HS.out hm
    have HSA : Hid (∀ W, Inv W → Calls Tryd.prog 12 #[.agg #[.int .i64 code, .int .i64 mods, .int .i64 typ, .int .i64 shift, .int .i64 base, .string text]] W fun e w' => e = .returned (.int .i64 z) ∧ Below W.heap.size W w') := Lib.hid fun W hW => H.shown_at W hW HK.out hz
    have HSB : Hid (∀ W, Calls Tryd.prog 13 #[.agg #[.int .i64 code, .int .i64 mods, .int .i64 typ, .int .i64 shift, .int .i64 base, .string text]] W fun e w' => e = .returned (.int .i64 z) ∧ Below W.heap.size W w') := Lib.hid fun W => rshown_at10 W HK.out hz
    have HV : Hid (∀ W, Below w1.heap.size w1 W → Inv W) := Lib.hid fun W hW => H.invB hv1 hW
    have lk : ∀ W, Below w1.heap.size w1 W → Blk W w.heap.size 23 #[.int .i64 code, .int .i64 mods, .int .i64 typ, .int .i64 shift, .int .i64 base, .string text] := fun W hW => k1.below hW k1.lt
    have hst := nofact
    clear hm hz
    go_wp2_with fail
    refine wp_region_told (w1 := w1) (K := []) (ix := 1000) (R0 := fun _ _ _ => True) (R1 := fun _ _ _ => True) [] (⟨#[.agg #[.int .i64 code, .int .i64 mods, .int .i64 typ, .int .i64 shift, .int .i64 base, .string text], .pointer (some ⟨w.heap.size, 0, none⟩), .bool true, .bool true, .bool true, .pointer (some ⟨w.heap.size, 5, none⟩), .string text, .int .i64 (text.size : Int), .bool false, undef, .bool true, .bool true, .agg #[.int .i64 code, .int .i64 mods, .int .i64 typ, .int .i64 shift, .int .i64 base, .string text], .bool m, .agg #[.int .i64 code, .int .i64 mods, .int .i64 typ, .int .i64 shift, .int .i64 base, .string text], .bool m, .bool true, .bool true, .bool true, .agg #[.int .i64 code, .int .i64 mods, .int .i64 typ, .int .i64 shift, .int .i64 base, .string text], .int .i64 z, .agg #[.int .i64 code, .int .i64 mods, .int .i64 typ, .int .i64 shift, .int .i64 base, .string text], .int .i64 z, .bool true, .bool true], []⟩) (fun g => ⟨#[.agg #[.int .i64 code, .int .i64 mods, .int .i64 typ, .int .i64 shift, .int .i64 base, .string text], .pointer (some ⟨w.heap.size, 0, none⟩), .bool true, .bool true, .bool true, .pointer (some ⟨w.heap.size, 5, none⟩), .string text, .int .i64 (text.size : Int), .bool false, undef, .bool true, .bool true, .agg #[.int .i64 code, .int .i64 mods, .int .i64 typ, .int .i64 shift, .int .i64 base, .string text], .bool m, .agg #[.int .i64 code, .int .i64 mods, .int .i64 typ, .int .i64 shift, .int .i64 base, .string text], .bool m, .bool true, .bool true, .bool true, .agg #[.int .i64 code, .int .i64 mods, .int .i64 typ, .int .i64 shift, .int .i64 base, .string text], .int .i64 z, .agg #[.int .i64 code, .int .i64 mods, .int .i64 typ, .int .i64 shift, .int .i64 base, .string text], .int .i64 z, .bool true, .bool true], []⟩) [.bool true, .bool true, .agg #[.int .i64 code, .int .i64 mods, .int .i64 typ, .int .i64 shift, .int .i64 base, .string text], .bool m, .agg #[.int .i64 code, .int .i64 mods, .int .i64 typ, .int .i64 shift, .int .i64 base, .string text], .bool m, .bool true, .bool true, .bool true, .agg #[.int .i64 code, .int .i64 mods, .int .i64 typ, .int .i64 shift, .int .i64 base, .string text], .int .i64 z, .agg #[.int .i64 code, .int .i64 mods, .int .i64 typ, .int .i64 shift, .int .i64 base, .string text], .int .i64 z, .bool true, .bool true, .bool true] (by kernel_rfl) (by kernel_rfl) (by kernel_rfl) (fun g => by kernel_rfl) (by kernel_rfl) (Below.refl _ _).drew (by decide) (by kernel_rfl)
      (goes_cons (goesK_pure (fun _ => .bool true) rfl (by decide) (by decide) (by kernel_rfl) (fun g => by kernel_rfl) rfl (fun g => by kernel_rfl) (fun g w => by kernel_rfl)) 
      (goes_cons (goesK_pure (fun _ => .bool true) rfl (by decide) (by decide) (by kernel_rfl) (fun g => by kernel_rfl) rfl (fun g => by kernel_rfl) (fun g w => by kernel_rfl)) 
      (goes_cons (goesK_load hst (ahead_none (by decide)) rfl (by decide) (by decide) (by kernel_rfl) (fun g => by kernel_rfl) rfl (fun g => by kernel_rfl) rfl (fun g => by kernel_rfl) lk Tryd.underlying23 rfl (by kernel_rfl)) 
      (goes_cons (goesK_call (args := fun g => #[.agg #[.int .i64 code, .int .i64 mods, .int .i64 typ, .int .i64 shift, .int .i64 base, .string text]]) hst (ahead_none (by decide)) rfl (by decide) (by decide) (by kernel_rfl) (fun g => by kernel_rfl) rfl (fun g => by kernel_rfl) (fun g w => by kernel_rfl) (fun g W hW hin => HMA.out W (HV.out W hW))) 
      (goes_cons (goesK_load hst (ahead_none (by decide)) rfl (by decide) (by decide) (by kernel_rfl) (fun g => by kernel_rfl) rfl (fun g => by kernel_rfl) rfl (fun g => by kernel_rfl) lk Tryd.underlying23 rfl (by kernel_rfl)) 
      (goes_cons (goesK_call (args := fun g => #[.agg #[.int .i64 code, .int .i64 mods, .int .i64 typ, .int .i64 shift, .int .i64 base, .string text]]) hst (ahead_none (by decide)) rfl (by decide) (by decide) (by kernel_rfl) (fun g => by kernel_rfl) rfl (fun g => by kernel_rfl) (fun g w => by kernel_rfl) (fun g W hW hin => HMB.out W)) 
      (goes_cons (goesK_bin (v := .bool true) (xv := .bool m) (yv := .bool m) rfl (by decide) (by decide) (by kernel_rfl) (fun g => by kernel_rfl) rfl (fun g => by kernel_rfl) rfl (fun g => by kernel_rfl) (fun g => by kernel_rfl) (fun w => by cases m <;> kernel_rfl)) 
      (goes_cons (goesK_pure (fun _ => .bool true) rfl (by decide) (by decide) (by kernel_rfl) (fun g => by kernel_rfl) rfl (fun g => by kernel_rfl) (fun g w => by kernel_rfl)) 
      (goes_cons (goesK_pure (fun _ => .bool true) rfl (by decide) (by decide) (by kernel_rfl) (fun g => by kernel_rfl) rfl (fun g => by kernel_rfl) (fun g w => by kernel_rfl)) 
      (goes_cons (goesK_load hst (ahead_none (by decide)) rfl (by decide) (by decide) (by kernel_rfl) (fun g => by kernel_rfl) rfl (fun g => by kernel_rfl) rfl (fun g => by kernel_rfl) lk Tryd.underlying23 rfl (by kernel_rfl)) 
      (goes_cons (goesK_call (args := fun g => #[.agg #[.int .i64 code, .int .i64 mods, .int .i64 typ, .int .i64 shift, .int .i64 base, .string text]]) hst (ahead_none (by decide)) rfl (by decide) (by decide) (by kernel_rfl) (fun g => by kernel_rfl) rfl (fun g => by kernel_rfl) (fun g w => by kernel_rfl) (fun g W hW hin => HSA.out W (HV.out W hW))) 
      (goes_cons (goesK_load hst (ahead_none (by decide)) rfl (by decide) (by decide) (by kernel_rfl) (fun g => by kernel_rfl) rfl (fun g => by kernel_rfl) rfl (fun g => by kernel_rfl) lk Tryd.underlying23 rfl (by kernel_rfl)) 
      (goes_cons (goesK_call (args := fun g => #[.agg #[.int .i64 code, .int .i64 mods, .int .i64 typ, .int .i64 shift, .int .i64 base, .string text]]) hst (ahead_none (by decide)) rfl (by decide) (by decide) (by kernel_rfl) (fun g => by kernel_rfl) rfl (fun g => by kernel_rfl) (fun g w => by kernel_rfl) (fun g W hW hin => HSB.out W)) 
      (goes_cons (goesK_bin (v := .bool true) (xv := .int .i64 z) (yv := .int .i64 z) rfl (by decide) (by decide) (by kernel_rfl) (fun g => by kernel_rfl) rfl (fun g => by kernel_rfl) rfl (fun g => by kernel_rfl) (fun g => by kernel_rfl) (fun w => by go_simp)) 
      (goes_cons (goesK_pure (fun _ => .bool true) rfl (by decide) (by decide) (by kernel_rfl) (fun g => by kernel_rfl) rfl (fun g => by kernel_rfl) (fun g w => by kernel_rfl)) 
      (goes_cons (goesK_pure (fun _ => .bool true) rfl (by decide) (by decide) (by kernel_rfl) (fun g => by kernel_rfl) rfl (fun g => by kernel_rfl) (fun g w => by kernel_rfl)) goes_nil)))))))))))))))) ?_
    intro g W hW _
    go_wp2_with fail
    go_ret
    exact ⟨rfl, hB1.trans (hW.mono hB1.size)⟩
set_option maxRecDepth 100000 in
set_option maxHeartbeats 8000000 in
theorem modsNums_walk (H : MdsC Inv) (n : Int) (lo : -9223372036854775808 ≤ n) (hi : n ≤ 9223372036854775807) (w : World) (hv : Inv w) : Calls Tryd.prog 4 #[.int .i64 n] w fun e w' => e = .returned (.bool true) ∧ Below w.heap.size w w' := by
  have hn : in10 n := ⟨lo, hi⟩
  obtain ⟨a, b, ho⟩ : ∃ a b, ofN n = (a, b) := ⟨_, _, rfl⟩
  obtain ⟨p, hp⟩ : ∃ p, paramN n = p := ⟨_, rfl⟩
  obtain ⟨o, hol⟩ : ∃ o, oldN n = o := ⟨_, rfl⟩
  have HN := Lib.hid hn
  have HO := Lib.hid ho
  have HP := Lib.hid hp
  have HL := Lib.hid hol
  have HRO : Hid (∀ W, Calls Tryd.prog 17 #[.int .i64 n] W fun e w' => e = .returned (.int .i64 o) ∧ Below W.heap.size W w') := Lib.hid fun W => by
    have := rold_any n W
    rwa [hol] at this
  have HRP : Hid (∀ W, Calls Tryd.prog 19 #[.int .i64 n] W fun e w' => e = .returned (.int .i64 p) ∧ Below W.heap.size W w') := Lib.hid fun W => by
    have := rparam_any n W
    rwa [hp] at this
  clear hn ho hp hol lo hi
  go_enter Tryd.func4, Tryd.ntmps4
  go_wp2_with fail
  refine (mdsAwake H _ hv).mono ?_
  rintro e w1 ⟨rfl, hB1⟩
  have hv1 := H.invB hv hB1
  go_wp2_with fail
  refine (H.of_at _ hv1 HN.out HO.out).mono ?_
  rintro e w2 ⟨rfl, hb2⟩
  have hv2 := H.invB hv1 hb2
  have hB2 := hB1.trans (hb2.mono hB1.size)
  clear hv1 hB1 hb2
  go_wp2_with fail
  refine (rof_at _ HO.out).mono ?_
  rintro e w3 ⟨rfl, hb3⟩
  have hv3 := H.invB hv2 hb3
  have hB3 := hB2.trans (hb3.mono hB2.size)
  clear hv2 hB2 hb3
  go_wp2_with fail
  refine (H.old_at _ hv3 HN.out HL.out).mono ?_
  rintro e w4 ⟨rfl, hb4⟩
  have hv4 := H.invB hv3 hb4
  have hB4 := hB3.trans (hb4.mono hB3.size)
  clear hv3 hB3 hb4
  go_wp2_with fail
  refine (HRO.out _).mono ?_
  rintro e w5 ⟨rfl, hb5⟩
  have hv5 := H.invB hv4 hb5
  have hB5 := hB4.trans (hb5.mono hB4.size)
  clear hv4 hB4 hb5
  go_wp2_with fail
  refine (H.param_at _ hv5 HN.out HP.out).mono ?_
  rintro e w6 ⟨rfl, hb6⟩
  have hv6 := H.invB hv5 hb6
  have hB6 := hB5.trans (hb6.mono hB5.size)
  clear hv5 hB5 hb6
  go_wp2_with fail
  refine (HRP.out _).mono ?_
  rintro e w7 ⟨rfl, hb7⟩
  have hv7 := H.invB hv6 hb7
  have hB7 := hB6.trans (hb7.mono hB6.size)
  clear hv6 hB6 hb7
  cases b with
  | true =>
    go_wp2_with fail
    go_ret
    exact ⟨by simp, hB7⟩
  | false =>
    go_wp2_with fail
    go_ret
    exact ⟨by simp, hB7⟩
set_option maxRecDepth 100000 in
set_option maxHeartbeats 8000000 in
theorem modsFold_walk (H : MdsC Inv) (c : Int) (lo : -9223372036854775808 ≤ c) (hi : c ≤ 9223372036854775807) (w : World) (hv : Inv w) : Calls Tryd.prog 5 #[.int .i64 c] w fun e w' => e = .returned (.bool true) ∧ Below w.heap.size w w' := by
  obtain ⟨a, b, ho⟩ : ∃ a b, foldN c = (a, b) := ⟨_, _, rfl⟩
  have HN := Lib.hid (show in10 c from ⟨lo, hi⟩)
  have HO := Lib.hid ho
  clear ho lo hi
  go_enter Tryd.func5, Tryd.ntmps5
  go_wp2_with fail
  refine (mdsAwake H _ hv).mono ?_
  rintro e w1 ⟨rfl, hB1⟩
  have hv1 := H.invB hv hB1
  go_wp2_with fail
  refine (H.fold_at _ hv1 HN.out HO.out).mono ?_
  rintro e w2 ⟨rfl, hb2⟩
  have hv2 := H.invB hv1 hb2
  have hB2 := hB1.trans (hb2.mono hB1.size)
  clear hv1 hB1 hb2
  go_wp2_with fail
  refine (rfold_at _ HO.out).mono ?_
  rintro e w3 ⟨rfl, hb3⟩
  have hv3 := H.invB hv2 hb3
  have hB3 := hB2.trans (hb3.mono hB2.size)
  clear hv2 hB2 hb3
  go_wp2_with fail
  go_loopw [8, 9, 10, 11, 12] (fun z _ _ _ _ wr => ∃ i : Nat, i ≤ 201 ∧ z = .int .i64 i ∧ Below w.heap.size w wr) (fun z _ _ _ _ _ => 201 - (intOf z).toNat)
  case atStart => exact ⟨0, by omega, rfl, hB3⟩
  case round =>
    obtain ⟨i, hi, rfl, hbw⟩ := hrel
    clear hB3 hv3
    by_cases hlt : i ≤ 200
    · obtain ⟨x, q, hx⟩ : ∃ x q, foldN (i : Int) = (x, q) := ⟨_, _, rfl⟩
      have HX := Lib.hid hx
      have HI := Lib.hid (show in10 (i : Int) from ⟨by omega, by omega⟩)
      have t1 : decide ((i : Int) ≤ 200) = true := decide_eq_true (by omega)
      have t2 : (i : Int) ≤ 200 := by omega
      have hvr := H.invB hv hbw
      have hu : q = true ∨ q = false := by cases q <;> simp
      clear hx
      go_wp2_with fail
      refine (H.fold_at _ hvr HI.out HX.out).mono ?_
      rintro e w4 ⟨rfl, hb4⟩
      have hB4 := hbw.trans (hb4.mono hbw.size)
      go_wp2_with fail
      refine (rfold_at _ HX.out).mono ?_
      rintro e w5 ⟨rfl, hb5⟩
      have hB5 := hB4.trans (hb5.mono hB4.size)
      clear hbw hb4 hvr hB4 hb5
      rcases hu with rfl | rfl
      all_goals
        go_wp2_with fail
        go_roundw
        case rel => exact ⟨i + 1, by omega, by go_num, hB5⟩
        case measure => simp [intOf]; omega
    · have t1 : decide ((i : Int) ≤ 200) = false := decide_eq_false (by omega)
      have t2 : 200 < (i : Int) := by omega
      have hu : b = true ∨ b = false := by cases b <;> simp
      clear hlt
      rcases hu with rfl | rfl
      all_goals
        go_wp2_with fail
        go_ret
        exact ⟨by simp, hbw⟩
set_option maxRecDepth 100000 in
set_option maxHeartbeats 8000000 in
theorem modsBack_walk (H : MdsC Inv) (a : Int) (alo : 0 ≤ a) (ahi : a ≤ 255) (b : Int) (blo : 0 ≤ b) (bhi : b ≤ 255) (w : World) (hv : Inv w) : Calls Tryd.prog 6 #[.int .u8 a, .int .u8 b] w fun e w' => e = .returned (.bool true) ∧ Below w.heap.size w w' := by
  have HA := Lib.hid (show in10 a from ⟨by omega, by omega⟩)
  have HBb := Lib.hid (show in10 b from ⟨by omega, by omega⟩)
  obtain ⟨p, hp⟩ : ∃ p, paramN a = p := ⟨_, rfl⟩
  obtain ⟨q, hq⟩ : ∃ q, paramN b = q := ⟨_, rfl⟩
  have HP := Lib.hid hp
  have HQ := Lib.hid hq
  have hpa : a + 1 = p := by rw [← hp]; exact (param_at alo ahi).symm
  have hqb : b + 1 = q := by rw [← hq]; exact (param_at blo bhi).symm
  have HPI := Lib.hid (show in10 p from ⟨by omega, by omega⟩)
  have HOF := Lib.hid (show ofN p = (a, true) by rw [← hp]; exact of_param alo ahi)
  obtain ⟨o, ho⟩ : ∃ o, oldN a = o := ⟨_, rfl⟩
  have HO := Lib.hid ho
  have hao : Int.tmod a 8 = o := by rw [Int.tmod_eq_emod_of_nonneg alo, ← ho]; exact (old_at alo).symm
  have wa : IntKind.i64.wrap a = a := IntWalk.i64_in a ⟨by omega, by omega⟩
  have wb : IntKind.i64.wrap b = b := IntWalk.i64_in b ⟨by omega, by omega⟩
  obtain ⟨u, hu1⟩ : ∃ u, (a == b) = u := ⟨_, rfl⟩
  have hu2 : (p == q) = u := by
    rw [← hu1]
    by_cases h : a = b
    · rw [h, ← hpa, ← hqb, h]; simp
    · have h2 : ¬ p = q := by omega
      rw [beq_false_of_ne h, beq_false_of_ne h2]
  have huu : (u == u) = true := by cases u <;> rfl
  clear hp hq hpa hqb ho alo ahi blo bhi
  go_enter Tryd.func6, Tryd.ntmps6
  go_wp2_with fail
  refine (mdsAwake H _ hv).mono ?_
  rintro e w1 ⟨rfl, hB1⟩
  have hv1 := H.invB hv hB1
  go_wp2_with fail
  refine (H.param_at _ hv1 HA.out HP.out).mono ?_
  rintro e w2 ⟨rfl, hb2⟩
  have hv2 := H.invB hv1 hb2
  have hB2 := hB1.trans (hb2.mono hB1.size)
  clear hv1 hB1 hb2
  go_wp2_with fail
  refine (H.of_at _ hv2 HPI.out HOF.out).mono ?_
  rintro e w3 ⟨rfl, hb3⟩
  have hv3 := H.invB hv2 hb3
  have hB3 := hB2.trans (hb3.mono hB2.size)
  clear hv2 hB2 hb3
  go_wp2_with fail
  refine (H.param_at _ hv3 HA.out HP.out).mono ?_
  rintro e w4 ⟨rfl, hb4⟩
  have hv4 := H.invB hv3 hb4
  have hB4 := hB3.trans (hb4.mono hB3.size)
  clear hv3 hB3 hb4
  go_wp2_with fail
  refine (H.param_at _ hv4 HBb.out HQ.out).mono ?_
  rintro e w5 ⟨rfl, hb5⟩
  have hv5 := H.invB hv4 hb5
  have hB5 := hB4.trans (hb5.mono hB4.size)
  clear hv4 hB4 hb5
  go_wp2_with fail
  refine (H.old_at _ hv5 HA.out HO.out).mono ?_
  rintro e w6 ⟨rfl, hb6⟩
  have hv6 := H.invB hv5 hb6
  have hB6 := hB5.trans (hb6.mono hB5.size)
  clear hv5 hB5 hb6
  go_wp2_with fail
  go_ret
  exact ⟨by simp, hB6⟩
set_option maxRecDepth 100000 in
set_option maxHeartbeats 16000000 in
theorem modsCase_no (H : MdsC Inv) (k : Ky) (hk : okK k) (c : Int) (clo : 0 ≤ c) (hfo : foldN k.code = (0, false))  (w : World) (hv : Inv w) : Calls Tryd.prog 7 #[kyV k, .int .u8 c] w fun e w' => e = .returned (.bool true) ∧ Below w.heap.size w w' := by
  obtain ⟨code, mods, typ, shift, base, text⟩ := k
  simp only at hfo
  obtain ⟨q, hq⟩ : ∃ q, c % 26 = q := ⟨_, rfl⟩
  have hq0 : 0 ≤ q := by omega
  have hq1 : q < 26 := by omega
  have htm : Int.tmod c 26 = q := by rw [Int.tmod_eq_emod_of_nonneg clo, hq]
  have wq : IntKind.i64.wrap q = q := IntWalk.i64_in q ⟨by omega, by omega⟩
  have wq8 : IntKind.u8.wrap q = q := IntWalk.u8_in q ⟨by omega, by omega⟩
  have wq1 : IntKind.i64.wrap (97 + q) = 97 + q := IntWalk.i64_in _ ⟨by omega, by omega⟩
  have wq2 : IntKind.i64.wrap (97 + q - 32) = 97 + q - 32 := IntWalk.i64_in _ ⟨by omega, by omega⟩
  have wq3 : IntKind.i64.wrap (q + 1) = q + 1 := IntWalk.i64_in _ ⟨by omega, by omega⟩
  have HTM : Hid (∀ W : World, (do eqGuard .rem 5 (.tmp 56) (.const (.int .u8 26)) (.int .u8 c) (.int .u8 26); binOp .rem 5 (.int .u8 c) (.int .u8 26) : Sem Value).run Tryd.prog W = .ok (.int .u8 q) W) := Lib.hid fun W => by go_simp
  have HCV : Hid (∀ (g : Tmp → Value) (W : World), ((do let r ← convert 5 3 (.int .u8 q); pure (.value r)) : Sem Next).run Tryd.prog W = .ok (.value (.int .i64 q)) W) := Lib.hid fun g W => by go_simp
  have HAD : Hid (∀ W : World, (do eqGuard .add 3 (.tmp 58) (.const (.int .i64 1)) (.int .i64 q) (.int .i64 1); binOp .add 3 (.int .i64 q) (.int .i64 1) : Sem Value).run Tryd.prog W = .ok (.int .i64 (q + 1)) W) := Lib.hid fun W => by go_simp
  obtain ⟨r2, hr2⟩ : ∃ r, Int.tmod mods 2 = r := ⟨_, rfl⟩
  obtain ⟨m2, hm2⟩ : ∃ m, mods - r2 = m := ⟨_, rfl⟩
  have hr2b : -1 ≤ r2 ∧ r2 ≤ 1 ∧ (mods < 0 → r2 ≤ 0) ∧ (0 ≤ mods → 0 ≤ r2) ∧ (mods - r2) % 2 = 0 := by
    rw [← hr2]
    rcases Int.lt_or_le mods 0 with h | h
    · have e : Int.tmod mods 2 = -((-mods) % 2) := by
        have h1 : Int.tmod (-mods) 2 = (-mods) % 2 := Int.tmod_eq_emod_of_nonneg (by omega)
        rw [Int.neg_tmod] at h1
        omega
      omega
    · rw [Int.tmod_eq_emod_of_nonneg h]
      omega
  have hmm1 : -9223372036854775808 ≤ mods := hk.mods.1
  have hmm2 : mods ≤ 9223372036854775807 := hk.mods.2
  have wm : IntKind.i64.wrap (mods - r2) = m2 := by
    rw [hm2]
    exact IntWalk.i64_in _ ⟨by omega, by omega⟩
  have HKM := Lib.hid (show okK ⟨code, m2, typ, shift, base, text⟩ from ⟨hk.code, show in10 m2 from ⟨by omega, by omega⟩, hk.typ, hk.shift, hk.base⟩)
  have hshow : shownK ⟨code, m2, typ, shift, base, text⟩ = code := shown_even (k := ⟨code, mods, typ, shift, base, text⟩) (by rw [← hm2]; exact hr2b.2.2.2.2)
  have HSH : Hid (∀ W, Inv W → Calls Tryd.prog 12 #[.agg #[.int .i64 code, .int .i64 m2, .int .i64 typ, .int .i64 shift, .int .i64 base, .string text]] W fun e w' => e = .returned (.int .i64 code) ∧ Below W.heap.size W w') := Lib.hid fun W hW => H.shown_at W hW HKM.out hshow
  have HS1 := Lib.hid (fold_small hq0 hq1)
  have HS2 := Lib.hid (fold_large hq0 hq1)
  have HI1 := Lib.hid (show in10 (97 + q) from ⟨by omega, by omega⟩)
  have HI2 := Lib.hid (show in10 (97 + q - 32) from ⟨by omega, by omega⟩)
  have HI3 := Lib.hid hk.code
  have HFO := Lib.hid hfo
  have hB : Below w.heap.size w (w.alloc (.cells #[.int .i64 code, .int .i64 mods, .int .i64 typ, .int .i64 shift, .int .i64 base, .string text] 23)) := (Below.refl _ w).alloc (Nat.le_refl _) _
  have k0 := Blk.new w 23 #[.int .i64 code, .int .i64 mods, .int .i64 typ, .int .i64 shift, .int .i64 base, .string text]
  have hv0 := H.invB hv hB
  rw [kyV]
  clear hq hm2 hr2b hmm1 hmm2 hk hshow hfo
  go_enter Tryd.func7, Tryd.ntmps7
  go_wp2_with fail
  refine (mdsAwake H _ hv0).mono ?_
  rintro e w1 ⟨rfl, hb1⟩
  have k1 := k0.below hb1 k0.lt
  have hB1 := hB.trans (hb1.mono hB.size)
  have hv1 := H.invB hv hB1
  clear hv0 k0 hB hb1
  go_wp2_with fail
  refine (H.fold_at _ hv1 HI1.out HS1.out).mono ?_
  rintro e w2 ⟨rfl, hb2⟩
  have k2 := k1.below hb2 k1.lt
  have hB2 := hB1.trans (hb2.mono hB1.size)
  have hv2 := H.invB hv hB2
  clear hv1 k1 hB1 hb2
  go_wp2_with fail
  refine (H.fold_at _ hv2 HI2.out HS2.out).mono ?_
  rintro e w3 ⟨rfl, hb3⟩
  have k3 := k2.below hb3 k2.lt
  have hB3 := hB2.trans (hb3.mono hB2.size)
  have hv3 := H.invB hv hB3
  clear hv2 k2 hB2 hb3
  have c0 := k3.cell 0
  go_wp2_with fail
  refine (H.fold_at _ hv3 HI3.out HFO.out).mono ?_
  rintro e w4 ⟨rfl, hb4⟩
  have k4 := k3.below hb4 k3.lt
  have hB4 := hB3.trans (hb4.mono hB3.size)
  clear hv3 k3 hB3 hb4 c0
  have c1 := k4.cell 1
  have f1 := k4.frozen 1
  have k5 := k4.set 1 (.int .i64 m2)
  have hB5 := hB4.setCell (p := ⟨w.heap.size, 1, none⟩) (Nat.le_refl _) (.int .i64 m2)
  have hv5 := H.invB hv hB5
  go_wp2_with fail
  clear c1 f1 k4 hB4
  obtain ⟨w5, hw5⟩ : ∃ w5, w4.setCell ⟨w.heap.size, 1, none⟩ (.int .i64 m2) = w5 := ⟨_, rfl⟩
  rw [hw5] at k5 hB5 hv5 ⊢
  clear hw5
  have HV : Hid (∀ W, Below w5.heap.size w5 W → Inv W) := Lib.hid fun W hW => H.invB hv5 hW
  have lk : ∀ W, Below w5.heap.size w5 W → Blk W w.heap.size 23 #[.int .i64 code, .int .i64 m2, .int .i64 typ, .int .i64 shift, .int .i64 base, .string text] := fun W hW => k5.below hW k5.lt
  have l0 : ∀ W, Below w5.heap.size w5 W → W.cell? ⟨w.heap.size, 0, none⟩ = some (.int .i64 code) := fun W hW => (k5.below hW k5.lt).cell 0
  have hst := nofact
  refine wp_region_told (w1 := w5) (K := []) (ix := 1000) (R0 := fun _ _ _ => True) (R1 := fun _ _ _ => True) [] (⟨#[.agg #[.int .i64 code, .int .i64 mods, .int .i64 typ, .int .i64 shift, .int .i64 base, .string text], .int .u8 c, .pointer (some ⟨w.heap.size, 0, none⟩), undef, .bool true, .bool true, .int .i64 (97 + q), .int .i64 (q + 1), .bool true, .int .i64 (q + 1), .bool true, .int .i64 0, .bool false, .bool true, .int .u8 c, .int .u8 q, .int .i64 q, .int .i64 (97 + q), .tuple #[.int .i64 (q + 1), .bool true], .int .i64 (97 + q), .tuple #[.int .i64 (q + 1), .bool true], .int .i64 (q + 1), .bool true, .tuple #[.int .i64 (q + 1), .bool true], .int .i64 (97 + q), .int .i64 (97 + q - 32), .tuple #[.int .i64 (q + 1), .bool true], .int .i64 (q + 1), .bool true, .tuple #[.int .i64 0, .bool false], .pointer (some ⟨w.heap.size, 0, none⟩), .int .i64 code, .tuple #[.int .i64 0, .bool false], .int .i64 0, .bool false, .pointer (some ⟨w.heap.size, 1, none⟩), .int .i64 mods, .pointer (some ⟨w.heap.size, 1, none⟩), .int .i64 mods, .int .i64 r2, .int .i64 m2, .pointer (some ⟨w.heap.size, 1, none⟩), .bool true, .bool true, .bool true, .bool true, .bool true, .bool true, .bool true, .bool true, .int .i64 (q + 1), .int .i64 (q + 1), .bool true, .bool true, .bool true, .int .i64 (q + 1), .int .u8 c, .int .u8 q, .int .i64 q, .int .i64 (q + 1), .bool true, .bool true, .bool true, .bool false, .bool true, .bool true, undef, undef, undef, undef, undef, undef, undef, undef, undef, undef, .bool true, .bool true, .bool true, .bool false, .bool false, .int .i64 0, .bool true, .bool true, .bool true, .bool true, .agg #[.int .i64 code, .int .i64 m2, .int .i64 typ, .int .i64 shift, .int .i64 base, .string text], .int .i64 code, .pointer (some ⟨w.heap.size, 0, none⟩), .int .i64 code, .bool true, .bool true], []⟩) (fun g => ⟨#[.agg #[.int .i64 code, .int .i64 mods, .int .i64 typ, .int .i64 shift, .int .i64 base, .string text], .int .u8 c, .pointer (some ⟨w.heap.size, 0, none⟩), undef, .bool true, .bool true, .int .i64 (97 + q), .int .i64 (q + 1), .bool true, .int .i64 (q + 1), .bool true, .int .i64 0, .bool false, .bool true, .int .u8 c, .int .u8 q, .int .i64 q, .int .i64 (97 + q), .tuple #[.int .i64 (q + 1), .bool true], .int .i64 (97 + q), .tuple #[.int .i64 (q + 1), .bool true], .int .i64 (q + 1), .bool true, .tuple #[.int .i64 (q + 1), .bool true], .int .i64 (97 + q), .int .i64 (97 + q - 32), .tuple #[.int .i64 (q + 1), .bool true], .int .i64 (q + 1), .bool true, .tuple #[.int .i64 0, .bool false], .pointer (some ⟨w.heap.size, 0, none⟩), .int .i64 code, .tuple #[.int .i64 0, .bool false], .int .i64 0, .bool false, .pointer (some ⟨w.heap.size, 1, none⟩), .int .i64 mods, .pointer (some ⟨w.heap.size, 1, none⟩), .int .i64 mods, .int .i64 r2, .int .i64 m2, .pointer (some ⟨w.heap.size, 1, none⟩), .bool true, .bool true, .bool true, .bool true, .bool true, .bool true, .bool true, .bool true, .int .i64 (q + 1), .int .i64 (q + 1), .bool true, .bool true, .bool true, .int .i64 (q + 1), .int .u8 c, .int .u8 q, .int .i64 q, .int .i64 (q + 1), .bool true, .bool true, .bool true, .bool false, .bool true, .bool true, undef, undef, undef, undef, undef, undef, undef, undef, undef, undef, .bool true, .bool true, .bool true, .bool false, .bool false, .int .i64 0, .bool true, .bool true, .bool true, .bool true, .agg #[.int .i64 code, .int .i64 m2, .int .i64 typ, .int .i64 shift, .int .i64 base, .string text], .int .i64 code, .pointer (some ⟨w.heap.size, 0, none⟩), .int .i64 code, .bool true, .bool true], []⟩) [.bool true, .bool true, .bool true, .bool true, .bool true, .bool true, .bool true, .bool true, .int .i64 (q + 1), .int .i64 (q + 1), .bool true, .bool true, .bool true, .int .i64 (q + 1), .int .u8 c, .int .u8 q, .int .i64 q, .int .i64 (q + 1), .bool true, .bool true, .bool true, .bool false, .bool true, .bool true, undef, undef, undef, undef, undef, undef, undef, undef, undef, undef, .bool true, .bool true, .bool true, .bool false, .bool false, .int .i64 0, .bool true, .bool true, .bool true, .bool true, .agg #[.int .i64 code, .int .i64 m2, .int .i64 typ, .int .i64 shift, .int .i64 base, .string text], .int .i64 code, .pointer (some ⟨w.heap.size, 0, none⟩), .int .i64 code, .bool true, .bool true, .bool true] (by kernel_rfl) (by kernel_rfl) (by kernel_rfl) (fun g => by kernel_rfl) (by kernel_rfl) (Below.refl _ _).drew (by decide) (by kernel_rfl)
    (goes_cons (goesK_pure (fun _ => .bool true) rfl (by decide) (by decide) (by kernel_rfl) (fun g => by kernel_rfl) rfl (fun g => by kernel_rfl) (fun g w => by kernel_rfl)) 
    (goes_cons (goesK_pure (fun _ => .bool true) rfl (by decide) (by decide) (by kernel_rfl) (fun g => by kernel_rfl) rfl (fun g => by kernel_rfl) (fun g w => by kernel_rfl)) 
    (goes_cons (goesK_pure (fun _ => .bool true) rfl (by decide) (by decide) (by kernel_rfl) (fun g => by kernel_rfl) rfl (fun g => by kernel_rfl) (fun g w => by kernel_rfl)) 
    (goes_cons (goesK_pure (fun _ => .bool true) rfl (by decide) (by decide) (by kernel_rfl) (fun g => by kernel_rfl) rfl (fun g => by kernel_rfl) (fun g w => by kernel_rfl)) 
    (goes_cons (goesK_pure (fun _ => .bool true) rfl (by decide) (by decide) (by kernel_rfl) (fun g => by kernel_rfl) rfl (fun g => by kernel_rfl) (fun g w => by kernel_rfl)) 
    (goes_cons (goesK_pure (fun _ => .bool true) rfl (by decide) (by decide) (by kernel_rfl) (fun g => by kernel_rfl) rfl (fun g => by kernel_rfl) (fun g w => by kernel_rfl)) 
    (goes_cons (goesK_pure (fun _ => .bool true) rfl (by decide) (by decide) (by kernel_rfl) (fun g => by kernel_rfl) rfl (fun g => by kernel_rfl) (fun g w => by kernel_rfl)) 
    (goes_cons (goesK_pure (fun _ => .bool true) rfl (by decide) (by decide) (by kernel_rfl) (fun g => by kernel_rfl) rfl (fun g => by kernel_rfl) (fun g w => by kernel_rfl)) 
    (goes_cons (goesK_pure (fun _ => .int .i64 (q + 1)) rfl (by decide) (by decide) (by kernel_rfl) (fun g => by kernel_rfl) rfl (fun g => by kernel_rfl) (fun g w => by kernel_rfl)) 
    (goes_cons (goesK_pure (fun _ => .int .i64 (q + 1)) rfl (by decide) (by decide) (by kernel_rfl) (fun g => by kernel_rfl) rfl (fun g => by kernel_rfl) (fun g w => by kernel_rfl)) 
    (goes_cons (goesK_bin (v := .bool true) (xv := .int .i64 (q + 1)) (yv := .int .i64 (q + 1)) rfl (by decide) (by decide) (by kernel_rfl) (fun g => by kernel_rfl) rfl (fun g => by kernel_rfl) rfl (fun g => by kernel_rfl) (fun g => by kernel_rfl) (fun w => by go_simp)) 
    (goes_cons (goesK_pure (fun _ => .bool true) rfl (by decide) (by decide) (by kernel_rfl) (fun g => by kernel_rfl) rfl (fun g => by kernel_rfl) (fun g w => by kernel_rfl)) 
    (goes_cons (goesK_pure (fun _ => .bool true) rfl (by decide) (by decide) (by kernel_rfl) (fun g => by kernel_rfl) rfl (fun g => by kernel_rfl) (fun g w => by kernel_rfl)) 
    (goes_cons (goesK_pure (fun _ => .int .i64 (q + 1)) rfl (by decide) (by decide) (by kernel_rfl) (fun g => by kernel_rfl) rfl (fun g => by kernel_rfl) (fun g w => by kernel_rfl)) 
    (goes_cons (goesK_pure (fun _ => .int .u8 c) rfl (by decide) (by decide) (by kernel_rfl) (fun g => by kernel_rfl) rfl (fun g => by kernel_rfl) (fun g w => by kernel_rfl)) 
    (goes_cons (goesK_bin (v := .int .u8 q) (xv := .int .u8 c) (yv := .int .u8 26) rfl (by decide) (by decide) (by kernel_rfl) (fun g => by kernel_rfl) rfl (fun g => by kernel_rfl) rfl (fun g => by kernel_rfl) (fun g => by kernel_rfl) (fun w => HTM.out w)) 
    (goes_cons (goesK_pure (fun _ => .int .i64 q) rfl (by decide) (by decide) (by kernel_rfl) (fun g => by kernel_rfl) rfl (fun g => by kernel_rfl) (fun g w => HCV.out g w)) 
    (goes_cons (goesK_bin (v := .int .i64 (q + 1)) (xv := .int .i64 q) (yv := .int .i64 1) rfl (by decide) (by decide) (by kernel_rfl) (fun g => by kernel_rfl) rfl (fun g => by kernel_rfl) rfl (fun g => by kernel_rfl) (fun g => by kernel_rfl) (fun w => HAD.out w)) 
    (goes_cons (goesK_bin (v := .bool true) (xv := .int .i64 (q + 1)) (yv := .int .i64 (q + 1)) rfl (by decide) (by decide) (by kernel_rfl) (fun g => by kernel_rfl) rfl (fun g => by kernel_rfl) rfl (fun g => by kernel_rfl) (fun g => by kernel_rfl) (fun w => by go_simp)) 
    (goes_cons (goesK_pure (fun _ => .bool true) rfl (by decide) (by decide) (by kernel_rfl) (fun g => by kernel_rfl) rfl (fun g => by kernel_rfl) (fun g w => by kernel_rfl)) 
    (goes_cons (goesK_pure (fun _ => .bool true) rfl (by decide) (by decide) (by kernel_rfl) (fun g => by kernel_rfl) rfl (fun g => by kernel_rfl) (fun g w => by kernel_rfl)) 
    (goes_cons (goesK_pure (fun _ => .bool false) rfl (by decide) (by decide) (by kernel_rfl) (fun g => by kernel_rfl) rfl (fun g => by kernel_rfl) (fun g w => by kernel_rfl)) 
    (goes_cons (goesK_pure (fun _ => .bool true) rfl (by decide) (by decide) (by kernel_rfl) (fun g => by kernel_rfl) rfl (fun g => by kernel_rfl) (fun g w => by kernel_rfl)) 
    (goes_cons (goesK_pure (fun _ => .bool true) rfl (by decide) (by decide) (by kernel_rfl) (fun g => by kernel_rfl) rfl (fun g => by kernel_rfl) (fun g w => by kernel_rfl)) 
    (goes_cons (goesK_off rfl (by decide) (by decide) (by kernel_rfl) (fun g => by kernel_rfl) rfl (fun g => by kernel_rfl)) 
    (goes_cons (goesK_off rfl (by decide) (by decide) (by kernel_rfl) (fun g => by kernel_rfl) rfl (fun g => by kernel_rfl)) 
    (goes_cons (goesK_off rfl (by decide) (by decide) (by kernel_rfl) (fun g => by kernel_rfl) rfl (fun g => by kernel_rfl)) 
    (goes_cons (goesK_off rfl (by decide) (by decide) (by kernel_rfl) (fun g => by kernel_rfl) rfl (fun g => by kernel_rfl)) 
    (goes_cons (goesK_off rfl (by decide) (by decide) (by kernel_rfl) (fun g => by kernel_rfl) rfl (fun g => by kernel_rfl)) 
    (goes_cons (goesK_off rfl (by decide) (by decide) (by kernel_rfl) (fun g => by kernel_rfl) rfl (fun g => by kernel_rfl)) 
    (goes_cons (goesK_off rfl (by decide) (by decide) (by kernel_rfl) (fun g => by kernel_rfl) rfl (fun g => by kernel_rfl)) 
    (goes_cons (goesK_off rfl (by decide) (by decide) (by kernel_rfl) (fun g => by kernel_rfl) rfl (fun g => by kernel_rfl)) 
    (goes_cons (goesK_off rfl (by decide) (by decide) (by kernel_rfl) (fun g => by kernel_rfl) rfl (fun g => by kernel_rfl)) 
    (goes_cons (goesK_off rfl (by decide) (by decide) (by kernel_rfl) (fun g => by kernel_rfl) rfl (fun g => by kernel_rfl)) 
    (goes_cons (goesK_pure (fun _ => .bool true) rfl (by decide) (by decide) (by kernel_rfl) (fun g => by kernel_rfl) rfl (fun g => by kernel_rfl) (fun g w => by kernel_rfl)) 
    (goes_cons (goesK_pure (fun _ => .bool true) rfl (by decide) (by decide) (by kernel_rfl) (fun g => by kernel_rfl) rfl (fun g => by kernel_rfl) (fun g w => by kernel_rfl)) 
    (goes_cons (goesK_pure (fun _ => .bool true) rfl (by decide) (by decide) (by kernel_rfl) (fun g => by kernel_rfl) rfl (fun g => by kernel_rfl) (fun g w => by kernel_rfl)) 
    (goes_cons (goesK_pure (fun _ => .bool false) rfl (by decide) (by decide) (by kernel_rfl) (fun g => by kernel_rfl) rfl (fun g => by kernel_rfl) (fun g w => by kernel_rfl)) 
    (goes_cons (goesK_pure (fun _ => .bool false) rfl (by decide) (by decide) (by kernel_rfl) (fun g => by kernel_rfl) rfl (fun g => by kernel_rfl) (fun g w => by kernel_rfl)) 
    (goes_cons (goesK_pure (fun _ => .int .i64 0) rfl (by decide) (by decide) (by kernel_rfl) (fun g => by kernel_rfl) rfl (fun g => by kernel_rfl) (fun g w => by kernel_rfl)) 
    (goes_cons (goesK_pure (fun _ => .bool true) rfl (by decide) (by decide) (by kernel_rfl) (fun g => by kernel_rfl) rfl (fun g => by kernel_rfl) (fun g w => by kernel_rfl)) 
    (goes_cons (goesK_pure (fun _ => .bool true) rfl (by decide) (by decide) (by kernel_rfl) (fun g => by kernel_rfl) rfl (fun g => by kernel_rfl) (fun g w => by kernel_rfl)) 
    (goes_cons (goesK_pure (fun _ => .bool true) rfl (by decide) (by decide) (by kernel_rfl) (fun g => by kernel_rfl) rfl (fun g => by kernel_rfl) (fun g w => by kernel_rfl)) 
    (goes_cons (goesK_pure (fun _ => .bool true) rfl (by decide) (by decide) (by kernel_rfl) (fun g => by kernel_rfl) rfl (fun g => by kernel_rfl) (fun g w => by kernel_rfl)) 
    (goes_cons (goesK_load hst (ahead_none (by decide)) rfl (by decide) (by decide) (by kernel_rfl) (fun g => by kernel_rfl) rfl (fun g => by kernel_rfl) rfl (fun g => by kernel_rfl) lk Tryd.underlying23 rfl (by kernel_rfl)) 
    (goes_cons (goesK_call (args := fun g => #[.agg #[.int .i64 code, .int .i64 m2, .int .i64 typ, .int .i64 shift, .int .i64 base, .string text]]) hst (ahead_none (by decide)) rfl (by decide) (by decide) (by kernel_rfl) (fun g => by kernel_rfl) rfl (fun g => by kernel_rfl) (fun g w => by kernel_rfl) (fun g W hW hin => HSH.out W (HV.out W hW))) 
    (goes_cons (goesK_pure (fun _ => .pointer (some ⟨w.heap.size, 0, none⟩)) rfl (by decide) (by decide) (by kernel_rfl) (fun g => by kernel_rfl) rfl (fun g => by kernel_rfl) (fun g w => by kernel_rfl)) 
    (goes_cons (goesK_cell hst (ahead_none (by decide)) rfl (by decide) (by decide) (by kernel_rfl) (fun g => by kernel_rfl) rfl (fun g => by kernel_rfl) rfl (fun g => by kernel_rfl) l0 (fun w => by kernel_rfl)) 
    (goes_cons (goesK_bin (v := .bool true) (xv := .int .i64 code) (yv := .int .i64 code) rfl (by decide) (by decide) (by kernel_rfl) (fun g => by kernel_rfl) rfl (fun g => by kernel_rfl) rfl (fun g => by kernel_rfl) (fun g => by kernel_rfl) (fun w => by go_simp)) 
    (goes_cons (goesK_pure (fun _ => .bool true) rfl (by decide) (by decide) (by kernel_rfl) (fun g => by kernel_rfl) rfl (fun g => by kernel_rfl) (fun g w => by kernel_rfl)) 
    (goes_cons (goesK_pure (fun _ => .bool true) rfl (by decide) (by decide) (by kernel_rfl) (fun g => by kernel_rfl) rfl (fun g => by kernel_rfl) (fun g w => by kernel_rfl)) goes_nil))))))))))))))))))))))))))))))))))))))))))))))))))) ?_
  intro g W hW _
  go_wp2_with fail
  go_ret
  exact ⟨rfl, hB5.trans (hW.mono hB5.size)⟩
set_option maxRecDepth 100000 in
set_option maxHeartbeats 16000000 in
theorem modsCase_low (H : MdsC Inv) (k : Ky) (hk : okK k) (c : Int) (clo : 0 ≤ c) (f : Int) (hfo : foldN k.code = (f, true)) (h0 : 0 ≤ f) (h32 : f < 32) (w : World) (hv : Inv w) : Calls Tryd.prog 7 #[kyV k, .int .u8 c] w fun e w' => e = .returned (.bool true) ∧ Below w.heap.size w w' := by
  obtain ⟨code, mods, typ, shift, base, text⟩ := k
  simp only at hfo
  obtain ⟨q, hq⟩ : ∃ q, c % 26 = q := ⟨_, rfl⟩
  have hq0 : 0 ≤ q := by omega
  have hq1 : q < 26 := by omega
  have htm : Int.tmod c 26 = q := by rw [Int.tmod_eq_emod_of_nonneg clo, hq]
  have wq : IntKind.i64.wrap q = q := IntWalk.i64_in q ⟨by omega, by omega⟩
  have wq8 : IntKind.u8.wrap q = q := IntWalk.u8_in q ⟨by omega, by omega⟩
  have wq1 : IntKind.i64.wrap (97 + q) = 97 + q := IntWalk.i64_in _ ⟨by omega, by omega⟩
  have wq2 : IntKind.i64.wrap (97 + q - 32) = 97 + q - 32 := IntWalk.i64_in _ ⟨by omega, by omega⟩
  have wq3 : IntKind.i64.wrap (q + 1) = q + 1 := IntWalk.i64_in _ ⟨by omega, by omega⟩
  have HTM : Hid (∀ W : World, (do eqGuard .rem 5 (.tmp 56) (.const (.int .u8 26)) (.int .u8 c) (.int .u8 26); binOp .rem 5 (.int .u8 c) (.int .u8 26) : Sem Value).run Tryd.prog W = .ok (.int .u8 q) W) := Lib.hid fun W => by go_simp
  have HCV : Hid (∀ (g : Tmp → Value) (W : World), ((do let r ← convert 5 3 (.int .u8 q); pure (.value r)) : Sem Next).run Tryd.prog W = .ok (.value (.int .i64 q)) W) := Lib.hid fun g W => by go_simp
  have HAD : Hid (∀ W : World, (do eqGuard .add 3 (.tmp 58) (.const (.int .i64 1)) (.int .i64 q) (.int .i64 1); binOp .add 3 (.int .i64 q) (.int .i64 1) : Sem Value).run Tryd.prog W = .ok (.int .i64 (q + 1)) W) := Lib.hid fun W => by go_simp
  have hge0 : (f ≥ (0 : Int)) := by omega
  have hd1 : decide ((0 : Int) ≤ f) = true := by simp; try omega
  have hd2 : decide (f < (32 : Int)) = true := by simp; try omega
  have HGE : Hid (∀ W : World, (do eqGuard .geq 3 (.tmp 66) (.const (.int .i64 0)) (.int .i64 f) (.int .i64 0); binOp .geq 3 (.int .i64 f) (.int .i64 0) : Sem Value).run Tryd.prog W = .ok (.bool true) W) := Lib.hid fun W => by go_simp
  have HLT : Hid (∀ W : World, (do eqGuard .lss 3 (.tmp 69) (.const (.int .i64 32)) (.int .i64 f) (.int .i64 32); binOp .lss 3 (.int .i64 f) (.int .i64 32) : Sem Value).run Tryd.prog W = .ok (.bool true) W) := Lib.hid fun W => by go_simp
  clear hge0 hd1 hd2
  obtain ⟨r2, hr2⟩ : ∃ r, Int.tmod mods 2 = r := ⟨_, rfl⟩
  obtain ⟨m2, hm2⟩ : ∃ m, mods - r2 = m := ⟨_, rfl⟩
  have hr2b : -1 ≤ r2 ∧ r2 ≤ 1 ∧ (mods < 0 → r2 ≤ 0) ∧ (0 ≤ mods → 0 ≤ r2) ∧ (mods - r2) % 2 = 0 := by
    rw [← hr2]
    rcases Int.lt_or_le mods 0 with h | h
    · have e : Int.tmod mods 2 = -((-mods) % 2) := by
        have h1 : Int.tmod (-mods) 2 = (-mods) % 2 := Int.tmod_eq_emod_of_nonneg (by omega)
        rw [Int.neg_tmod] at h1
        omega
      omega
    · rw [Int.tmod_eq_emod_of_nonneg h]
      omega
  have hmm1 : -9223372036854775808 ≤ mods := hk.mods.1
  have hmm2 : mods ≤ 9223372036854775807 := hk.mods.2
  have wm : IntKind.i64.wrap (mods - r2) = m2 := by
    rw [hm2]
    exact IntWalk.i64_in _ ⟨by omega, by omega⟩
  have HKM := Lib.hid (show okK ⟨code, m2, typ, shift, base, text⟩ from ⟨hk.code, show in10 m2 from ⟨by omega, by omega⟩, hk.typ, hk.shift, hk.base⟩)
  have hshow : shownK ⟨code, m2, typ, shift, base, text⟩ = code := shown_even (k := ⟨code, mods, typ, shift, base, text⟩) (by rw [← hm2]; exact hr2b.2.2.2.2)
  have HSH : Hid (∀ W, Inv W → Calls Tryd.prog 12 #[.agg #[.int .i64 code, .int .i64 m2, .int .i64 typ, .int .i64 shift, .int .i64 base, .string text]] W fun e w' => e = .returned (.int .i64 code) ∧ Below W.heap.size W w') := Lib.hid fun W hW => H.shown_at W hW HKM.out hshow
  have HS1 := Lib.hid (fold_small hq0 hq1)
  have HS2 := Lib.hid (fold_large hq0 hq1)
  have HI1 := Lib.hid (show in10 (97 + q) from ⟨by omega, by omega⟩)
  have HI2 := Lib.hid (show in10 (97 + q - 32) from ⟨by omega, by omega⟩)
  have HI3 := Lib.hid hk.code
  have HFO := Lib.hid hfo
  have hB : Below w.heap.size w (w.alloc (.cells #[.int .i64 code, .int .i64 mods, .int .i64 typ, .int .i64 shift, .int .i64 base, .string text] 23)) := (Below.refl _ w).alloc (Nat.le_refl _) _
  have k0 := Blk.new w 23 #[.int .i64 code, .int .i64 mods, .int .i64 typ, .int .i64 shift, .int .i64 base, .string text]
  have hv0 := H.invB hv hB
  rw [kyV]
  clear hq hm2 hr2b hmm1 hmm2 hk hshow hfo h0 h32
  go_enter Tryd.func7, Tryd.ntmps7
  go_wp2_with fail
  refine (mdsAwake H _ hv0).mono ?_
  rintro e w1 ⟨rfl, hb1⟩
  have k1 := k0.below hb1 k0.lt
  have hB1 := hB.trans (hb1.mono hB.size)
  have hv1 := H.invB hv hB1
  clear hv0 k0 hB hb1
  go_wp2_with fail
  refine (H.fold_at _ hv1 HI1.out HS1.out).mono ?_
  rintro e w2 ⟨rfl, hb2⟩
  have k2 := k1.below hb2 k1.lt
  have hB2 := hB1.trans (hb2.mono hB1.size)
  have hv2 := H.invB hv hB2
  clear hv1 k1 hB1 hb2
  go_wp2_with fail
  refine (H.fold_at _ hv2 HI2.out HS2.out).mono ?_
  rintro e w3 ⟨rfl, hb3⟩
  have k3 := k2.below hb3 k2.lt
  have hB3 := hB2.trans (hb3.mono hB2.size)
  have hv3 := H.invB hv hB3
  clear hv2 k2 hB2 hb3
  have c0 := k3.cell 0
  go_wp2_with fail
  refine (H.fold_at _ hv3 HI3.out HFO.out).mono ?_
  rintro e w4 ⟨rfl, hb4⟩
  have k4 := k3.below hb4 k3.lt
  have hB4 := hB3.trans (hb4.mono hB3.size)
  clear hv3 k3 hB3 hb4 c0
  have c1 := k4.cell 1
  have f1 := k4.frozen 1
  have k5 := k4.set 1 (.int .i64 m2)
  have hB5 := hB4.setCell (p := ⟨w.heap.size, 1, none⟩) (Nat.le_refl _) (.int .i64 m2)
  have hv5 := H.invB hv hB5
  go_wp2_with fail
  clear c1 f1 k4 hB4
  obtain ⟨w5, hw5⟩ : ∃ w5, w4.setCell ⟨w.heap.size, 1, none⟩ (.int .i64 m2) = w5 := ⟨_, rfl⟩
  rw [hw5] at k5 hB5 hv5 ⊢
  clear hw5
  have HV : Hid (∀ W, Below w5.heap.size w5 W → Inv W) := Lib.hid fun W hW => H.invB hv5 hW
  have lk : ∀ W, Below w5.heap.size w5 W → Blk W w.heap.size 23 #[.int .i64 code, .int .i64 m2, .int .i64 typ, .int .i64 shift, .int .i64 base, .string text] := fun W hW => k5.below hW k5.lt
  have l0 : ∀ W, Below w5.heap.size w5 W → W.cell? ⟨w.heap.size, 0, none⟩ = some (.int .i64 code) := fun W hW => (k5.below hW k5.lt).cell 0
  have hst := nofact
  refine wp_region_told (w1 := w5) (K := []) (ix := 1000) (R0 := fun _ _ _ => True) (R1 := fun _ _ _ => True) [] (⟨#[.agg #[.int .i64 code, .int .i64 mods, .int .i64 typ, .int .i64 shift, .int .i64 base, .string text], .int .u8 c, .pointer (some ⟨w.heap.size, 0, none⟩), undef, .bool true, .bool true, .int .i64 (97 + q), .int .i64 (q + 1), .bool true, .int .i64 (q + 1), .bool true, .int .i64 f, .bool true, .bool true, .int .u8 c, .int .u8 q, .int .i64 q, .int .i64 (97 + q), .tuple #[.int .i64 (q + 1), .bool true], .int .i64 (97 + q), .tuple #[.int .i64 (q + 1), .bool true], .int .i64 (q + 1), .bool true, .tuple #[.int .i64 (q + 1), .bool true], .int .i64 (97 + q), .int .i64 (97 + q - 32), .tuple #[.int .i64 (q + 1), .bool true], .int .i64 (q + 1), .bool true, .tuple #[.int .i64 f, .bool true], .pointer (some ⟨w.heap.size, 0, none⟩), .int .i64 code, .tuple #[.int .i64 f, .bool true], .int .i64 f, .bool true, .pointer (some ⟨w.heap.size, 1, none⟩), .int .i64 mods, .pointer (some ⟨w.heap.size, 1, none⟩), .int .i64 mods, .int .i64 r2, .int .i64 m2, .pointer (some ⟨w.heap.size, 1, none⟩), .bool true, .bool true, .bool true, .bool true, .bool true, .bool true, .bool true, .bool true, .int .i64 (q + 1), .int .i64 (q + 1), .bool true, .bool true, .bool true, .int .i64 (q + 1), .int .u8 c, .int .u8 q, .int .i64 q, .int .i64 (q + 1), .bool true, .bool true, .bool true, .bool true, .bool false, .bool false, .int .i64 f, .bool true, .bool true, .int .i64 f, .bool true, .bool true, undef, undef, .bool true, .bool true, .bool true, .bool true, .bool true, .bool true, .bool true, undef, undef, .bool true, .bool true, .bool true, .agg #[.int .i64 code, .int .i64 m2, .int .i64 typ, .int .i64 shift, .int .i64 base, .string text], .int .i64 code, .pointer (some ⟨w.heap.size, 0, none⟩), .int .i64 code, .bool true, .bool true], []⟩) (fun g => ⟨#[.agg #[.int .i64 code, .int .i64 mods, .int .i64 typ, .int .i64 shift, .int .i64 base, .string text], .int .u8 c, .pointer (some ⟨w.heap.size, 0, none⟩), undef, .bool true, .bool true, .int .i64 (97 + q), .int .i64 (q + 1), .bool true, .int .i64 (q + 1), .bool true, .int .i64 f, .bool true, .bool true, .int .u8 c, .int .u8 q, .int .i64 q, .int .i64 (97 + q), .tuple #[.int .i64 (q + 1), .bool true], .int .i64 (97 + q), .tuple #[.int .i64 (q + 1), .bool true], .int .i64 (q + 1), .bool true, .tuple #[.int .i64 (q + 1), .bool true], .int .i64 (97 + q), .int .i64 (97 + q - 32), .tuple #[.int .i64 (q + 1), .bool true], .int .i64 (q + 1), .bool true, .tuple #[.int .i64 f, .bool true], .pointer (some ⟨w.heap.size, 0, none⟩), .int .i64 code, .tuple #[.int .i64 f, .bool true], .int .i64 f, .bool true, .pointer (some ⟨w.heap.size, 1, none⟩), .int .i64 mods, .pointer (some ⟨w.heap.size, 1, none⟩), .int .i64 mods, .int .i64 r2, .int .i64 m2, .pointer (some ⟨w.heap.size, 1, none⟩), .bool true, .bool true, .bool true, .bool true, .bool true, .bool true, .bool true, .bool true, .int .i64 (q + 1), .int .i64 (q + 1), .bool true, .bool true, .bool true, .int .i64 (q + 1), .int .u8 c, .int .u8 q, .int .i64 q, .int .i64 (q + 1), .bool true, .bool true, .bool true, .bool true, .bool false, .bool false, .int .i64 f, .bool true, .bool true, .int .i64 f, .bool true, .bool true, undef, undef, .bool true, .bool true, .bool true, .bool true, .bool true, .bool true, .bool true, undef, undef, .bool true, .bool true, .bool true, .agg #[.int .i64 code, .int .i64 m2, .int .i64 typ, .int .i64 shift, .int .i64 base, .string text], .int .i64 code, .pointer (some ⟨w.heap.size, 0, none⟩), .int .i64 code, .bool true, .bool true], []⟩) [.bool true, .bool true, .bool true, .bool true, .bool true, .bool true, .bool true, .bool true, .int .i64 (q + 1), .int .i64 (q + 1), .bool true, .bool true, .bool true, .int .i64 (q + 1), .int .u8 c, .int .u8 q, .int .i64 q, .int .i64 (q + 1), .bool true, .bool true, .bool true, .bool true, .bool false, .bool false, .int .i64 f, .bool true, .bool true, .int .i64 f, .bool true, .bool true, undef, undef, .bool true, .bool true, .bool true, .bool true, .bool true, .bool true, .bool true, undef, undef, .bool true, .bool true, .bool true, .agg #[.int .i64 code, .int .i64 m2, .int .i64 typ, .int .i64 shift, .int .i64 base, .string text], .int .i64 code, .pointer (some ⟨w.heap.size, 0, none⟩), .int .i64 code, .bool true, .bool true, .bool true] (by kernel_rfl) (by kernel_rfl) (by kernel_rfl) (fun g => by kernel_rfl) (by kernel_rfl) (Below.refl _ _).drew (by decide) (by kernel_rfl)
    (goes_cons (goesK_pure (fun _ => .bool true) rfl (by decide) (by decide) (by kernel_rfl) (fun g => by kernel_rfl) rfl (fun g => by kernel_rfl) (fun g w => by kernel_rfl)) 
    (goes_cons (goesK_pure (fun _ => .bool true) rfl (by decide) (by decide) (by kernel_rfl) (fun g => by kernel_rfl) rfl (fun g => by kernel_rfl) (fun g w => by kernel_rfl)) 
    (goes_cons (goesK_pure (fun _ => .bool true) rfl (by decide) (by decide) (by kernel_rfl) (fun g => by kernel_rfl) rfl (fun g => by kernel_rfl) (fun g w => by kernel_rfl)) 
    (goes_cons (goesK_pure (fun _ => .bool true) rfl (by decide) (by decide) (by kernel_rfl) (fun g => by kernel_rfl) rfl (fun g => by kernel_rfl) (fun g w => by kernel_rfl)) 
    (goes_cons (goesK_pure (fun _ => .bool true) rfl (by decide) (by decide) (by kernel_rfl) (fun g => by kernel_rfl) rfl (fun g => by kernel_rfl) (fun g w => by kernel_rfl)) 
    (goes_cons (goesK_pure (fun _ => .bool true) rfl (by decide) (by decide) (by kernel_rfl) (fun g => by kernel_rfl) rfl (fun g => by kernel_rfl) (fun g w => by kernel_rfl)) 
    (goes_cons (goesK_pure (fun _ => .bool true) rfl (by decide) (by decide) (by kernel_rfl) (fun g => by kernel_rfl) rfl (fun g => by kernel_rfl) (fun g w => by kernel_rfl)) 
    (goes_cons (goesK_pure (fun _ => .bool true) rfl (by decide) (by decide) (by kernel_rfl) (fun g => by kernel_rfl) rfl (fun g => by kernel_rfl) (fun g w => by kernel_rfl)) 
    (goes_cons (goesK_pure (fun _ => .int .i64 (q + 1)) rfl (by decide) (by decide) (by kernel_rfl) (fun g => by kernel_rfl) rfl (fun g => by kernel_rfl) (fun g w => by kernel_rfl)) 
    (goes_cons (goesK_pure (fun _ => .int .i64 (q + 1)) rfl (by decide) (by decide) (by kernel_rfl) (fun g => by kernel_rfl) rfl (fun g => by kernel_rfl) (fun g w => by kernel_rfl)) 
    (goes_cons (goesK_bin (v := .bool true) (xv := .int .i64 (q + 1)) (yv := .int .i64 (q + 1)) rfl (by decide) (by decide) (by kernel_rfl) (fun g => by kernel_rfl) rfl (fun g => by kernel_rfl) rfl (fun g => by kernel_rfl) (fun g => by kernel_rfl) (fun w => by go_simp)) 
    (goes_cons (goesK_pure (fun _ => .bool true) rfl (by decide) (by decide) (by kernel_rfl) (fun g => by kernel_rfl) rfl (fun g => by kernel_rfl) (fun g w => by kernel_rfl)) 
    (goes_cons (goesK_pure (fun _ => .bool true) rfl (by decide) (by decide) (by kernel_rfl) (fun g => by kernel_rfl) rfl (fun g => by kernel_rfl) (fun g w => by kernel_rfl)) 
    (goes_cons (goesK_pure (fun _ => .int .i64 (q + 1)) rfl (by decide) (by decide) (by kernel_rfl) (fun g => by kernel_rfl) rfl (fun g => by kernel_rfl) (fun g w => by kernel_rfl)) 
    (goes_cons (goesK_pure (fun _ => .int .u8 c) rfl (by decide) (by decide) (by kernel_rfl) (fun g => by kernel_rfl) rfl (fun g => by kernel_rfl) (fun g w => by kernel_rfl)) 
    (goes_cons (goesK_bin (v := .int .u8 q) (xv := .int .u8 c) (yv := .int .u8 26) rfl (by decide) (by decide) (by kernel_rfl) (fun g => by kernel_rfl) rfl (fun g => by kernel_rfl) rfl (fun g => by kernel_rfl) (fun g => by kernel_rfl) (fun w => HTM.out w)) 
    (goes_cons (goesK_pure (fun _ => .int .i64 q) rfl (by decide) (by decide) (by kernel_rfl) (fun g => by kernel_rfl) rfl (fun g => by kernel_rfl) (fun g w => HCV.out g w)) 
    (goes_cons (goesK_bin (v := .int .i64 (q + 1)) (xv := .int .i64 q) (yv := .int .i64 1) rfl (by decide) (by decide) (by kernel_rfl) (fun g => by kernel_rfl) rfl (fun g => by kernel_rfl) rfl (fun g => by kernel_rfl) (fun g => by kernel_rfl) (fun w => HAD.out w)) 
    (goes_cons (goesK_bin (v := .bool true) (xv := .int .i64 (q + 1)) (yv := .int .i64 (q + 1)) rfl (by decide) (by decide) (by kernel_rfl) (fun g => by kernel_rfl) rfl (fun g => by kernel_rfl) rfl (fun g => by kernel_rfl) (fun g => by kernel_rfl) (fun w => by go_simp)) 
    (goes_cons (goesK_pure (fun _ => .bool true) rfl (by decide) (by decide) (by kernel_rfl) (fun g => by kernel_rfl) rfl (fun g => by kernel_rfl) (fun g w => by kernel_rfl)) 
    (goes_cons (goesK_pure (fun _ => .bool true) rfl (by decide) (by decide) (by kernel_rfl) (fun g => by kernel_rfl) rfl (fun g => by kernel_rfl) (fun g w => by kernel_rfl)) 
    (goes_cons (goesK_pure (fun _ => .bool true) rfl (by decide) (by decide) (by kernel_rfl) (fun g => by kernel_rfl) rfl (fun g => by kernel_rfl) (fun g w => by kernel_rfl)) 
    (goes_cons (goesK_pure (fun _ => .bool false) rfl (by decide) (by decide) (by kernel_rfl) (fun g => by kernel_rfl) rfl (fun g => by kernel_rfl) (fun g w => by kernel_rfl)) 
    (goes_cons (goesK_pure (fun _ => .bool false) rfl (by decide) (by decide) (by kernel_rfl) (fun g => by kernel_rfl) rfl (fun g => by kernel_rfl) (fun g w => by kernel_rfl)) 
    (goes_cons (goesK_pure (fun _ => .int .i64 f) rfl (by decide) (by decide) (by kernel_rfl) (fun g => by kernel_rfl) rfl (fun g => by kernel_rfl) (fun g w => by kernel_rfl)) 
    (goes_cons (goesK_bin (v := .bool true) (xv := .int .i64 f) (yv := .int .i64 0) rfl (by decide) (by decide) (by kernel_rfl) (fun g => by kernel_rfl) rfl (fun g => by kernel_rfl) rfl (fun g => by kernel_rfl) (fun g => by kernel_rfl) (fun w => HGE.out w)) 
    (goes_cons (goesK_pure (fun _ => .bool true) rfl (by decide) (by decide) (by kernel_rfl) (fun g => by kernel_rfl) rfl (fun g => by kernel_rfl) (fun g w => by kernel_rfl)) 
    (goes_cons (goesK_pure (fun _ => .int .i64 f) rfl (by decide) (by decide) (by kernel_rfl) (fun g => by kernel_rfl) rfl (fun g => by kernel_rfl) (fun g w => by kernel_rfl)) 
    (goes_cons (goesK_bin (v := .bool true) (xv := .int .i64 f) (yv := .int .i64 32) rfl (by decide) (by decide) (by kernel_rfl) (fun g => by kernel_rfl) rfl (fun g => by kernel_rfl) rfl (fun g => by kernel_rfl) (fun g => by kernel_rfl) (fun w => HLT.out w)) 
    (goes_cons (goesK_pure (fun _ => .bool true) rfl (by decide) (by decide) (by kernel_rfl) (fun g => by kernel_rfl) rfl (fun g => by kernel_rfl) (fun g w => by kernel_rfl)) 
    (goes_cons (goesK_off rfl (by decide) (by decide) (by kernel_rfl) (fun g => by kernel_rfl) rfl (fun g => by kernel_rfl)) 
    (goes_cons (goesK_off rfl (by decide) (by decide) (by kernel_rfl) (fun g => by kernel_rfl) rfl (fun g => by kernel_rfl)) 
    (goes_cons (goesK_pure (fun _ => .bool true) rfl (by decide) (by decide) (by kernel_rfl) (fun g => by kernel_rfl) rfl (fun g => by kernel_rfl) (fun g w => by kernel_rfl)) 
    (goes_cons (goesK_pure (fun _ => .bool true) rfl (by decide) (by decide) (by kernel_rfl) (fun g => by kernel_rfl) rfl (fun g => by kernel_rfl) (fun g w => by kernel_rfl)) 
    (goes_cons (goesK_pure (fun _ => .bool true) rfl (by decide) (by decide) (by kernel_rfl) (fun g => by kernel_rfl) rfl (fun g => by kernel_rfl) (fun g w => by kernel_rfl)) 
    (goes_cons (goesK_pure (fun _ => .bool true) rfl (by decide) (by decide) (by kernel_rfl) (fun g => by kernel_rfl) rfl (fun g => by kernel_rfl) (fun g w => by kernel_rfl)) 
    (goes_cons (goesK_pure (fun _ => .bool true) rfl (by decide) (by decide) (by kernel_rfl) (fun g => by kernel_rfl) rfl (fun g => by kernel_rfl) (fun g w => by kernel_rfl)) 
    (goes_cons (goesK_pure (fun _ => .bool true) rfl (by decide) (by decide) (by kernel_rfl) (fun g => by kernel_rfl) rfl (fun g => by kernel_rfl) (fun g w => by kernel_rfl)) 
    (goes_cons (goesK_pure (fun _ => .bool true) rfl (by decide) (by decide) (by kernel_rfl) (fun g => by kernel_rfl) rfl (fun g => by kernel_rfl) (fun g w => by kernel_rfl)) 
    (goes_cons (goesK_off rfl (by decide) (by decide) (by kernel_rfl) (fun g => by kernel_rfl) rfl (fun g => by kernel_rfl)) 
    (goes_cons (goesK_off rfl (by decide) (by decide) (by kernel_rfl) (fun g => by kernel_rfl) rfl (fun g => by kernel_rfl)) 
    (goes_cons (goesK_pure (fun _ => .bool true) rfl (by decide) (by decide) (by kernel_rfl) (fun g => by kernel_rfl) rfl (fun g => by kernel_rfl) (fun g w => by kernel_rfl)) 
    (goes_cons (goesK_pure (fun _ => .bool true) rfl (by decide) (by decide) (by kernel_rfl) (fun g => by kernel_rfl) rfl (fun g => by kernel_rfl) (fun g w => by kernel_rfl)) 
    (goes_cons (goesK_pure (fun _ => .bool true) rfl (by decide) (by decide) (by kernel_rfl) (fun g => by kernel_rfl) rfl (fun g => by kernel_rfl) (fun g w => by kernel_rfl)) 
    (goes_cons (goesK_load hst (ahead_none (by decide)) rfl (by decide) (by decide) (by kernel_rfl) (fun g => by kernel_rfl) rfl (fun g => by kernel_rfl) rfl (fun g => by kernel_rfl) lk Tryd.underlying23 rfl (by kernel_rfl)) 
    (goes_cons (goesK_call (args := fun g => #[.agg #[.int .i64 code, .int .i64 m2, .int .i64 typ, .int .i64 shift, .int .i64 base, .string text]]) hst (ahead_none (by decide)) rfl (by decide) (by decide) (by kernel_rfl) (fun g => by kernel_rfl) rfl (fun g => by kernel_rfl) (fun g w => by kernel_rfl) (fun g W hW hin => HSH.out W (HV.out W hW))) 
    (goes_cons (goesK_pure (fun _ => .pointer (some ⟨w.heap.size, 0, none⟩)) rfl (by decide) (by decide) (by kernel_rfl) (fun g => by kernel_rfl) rfl (fun g => by kernel_rfl) (fun g w => by kernel_rfl)) 
    (goes_cons (goesK_cell hst (ahead_none (by decide)) rfl (by decide) (by decide) (by kernel_rfl) (fun g => by kernel_rfl) rfl (fun g => by kernel_rfl) rfl (fun g => by kernel_rfl) l0 (fun w => by kernel_rfl)) 
    (goes_cons (goesK_bin (v := .bool true) (xv := .int .i64 code) (yv := .int .i64 code) rfl (by decide) (by decide) (by kernel_rfl) (fun g => by kernel_rfl) rfl (fun g => by kernel_rfl) rfl (fun g => by kernel_rfl) (fun g => by kernel_rfl) (fun w => by go_simp)) 
    (goes_cons (goesK_pure (fun _ => .bool true) rfl (by decide) (by decide) (by kernel_rfl) (fun g => by kernel_rfl) rfl (fun g => by kernel_rfl) (fun g w => by kernel_rfl)) 
    (goes_cons (goesK_pure (fun _ => .bool true) rfl (by decide) (by decide) (by kernel_rfl) (fun g => by kernel_rfl) rfl (fun g => by kernel_rfl) (fun g w => by kernel_rfl)) goes_nil))))))))))))))))))))))))))))))))))))))))))))))))))) ?_
  intro g W hW _
  go_wp2_with fail
  go_ret
  exact ⟨rfl, hB5.trans (hW.mono hB5.size)⟩
set_option maxRecDepth 100000 in
set_option maxHeartbeats 16000000 in
theorem modsCase_del (H : MdsC Inv) (k : Ky) (hk : okK k) (c : Int) (clo : 0 ≤ c) (hfo : foldN k.code = (127, true))  (w : World) (hv : Inv w) : Calls Tryd.prog 7 #[kyV k, .int .u8 c] w fun e w' => e = .returned (.bool true) ∧ Below w.heap.size w w' := by
  obtain ⟨code, mods, typ, shift, base, text⟩ := k
  simp only at hfo
  obtain ⟨q, hq⟩ : ∃ q, c % 26 = q := ⟨_, rfl⟩
  have hq0 : 0 ≤ q := by omega
  have hq1 : q < 26 := by omega
  have htm : Int.tmod c 26 = q := by rw [Int.tmod_eq_emod_of_nonneg clo, hq]
  have wq : IntKind.i64.wrap q = q := IntWalk.i64_in q ⟨by omega, by omega⟩
  have wq8 : IntKind.u8.wrap q = q := IntWalk.u8_in q ⟨by omega, by omega⟩
  have wq1 : IntKind.i64.wrap (97 + q) = 97 + q := IntWalk.i64_in _ ⟨by omega, by omega⟩
  have wq2 : IntKind.i64.wrap (97 + q - 32) = 97 + q - 32 := IntWalk.i64_in _ ⟨by omega, by omega⟩
  have wq3 : IntKind.i64.wrap (q + 1) = q + 1 := IntWalk.i64_in _ ⟨by omega, by omega⟩
  have HTM : Hid (∀ W : World, (do eqGuard .rem 5 (.tmp 56) (.const (.int .u8 26)) (.int .u8 c) (.int .u8 26); binOp .rem 5 (.int .u8 c) (.int .u8 26) : Sem Value).run Tryd.prog W = .ok (.int .u8 q) W) := Lib.hid fun W => by go_simp
  have HCV : Hid (∀ (g : Tmp → Value) (W : World), ((do let r ← convert 5 3 (.int .u8 q); pure (.value r)) : Sem Next).run Tryd.prog W = .ok (.value (.int .i64 q)) W) := Lib.hid fun g W => by go_simp
  have HAD : Hid (∀ W : World, (do eqGuard .add 3 (.tmp 58) (.const (.int .i64 1)) (.int .i64 q) (.int .i64 1); binOp .add 3 (.int .i64 q) (.int .i64 1) : Sem Value).run Tryd.prog W = .ok (.int .i64 (q + 1)) W) := Lib.hid fun W => by go_simp
  have hge0 : (127 ≥ (0 : Int)) := by omega
  have hd1 : decide ((0 : Int) ≤ 127) = true := by simp; try omega
  have hd2 : decide (127 < (32 : Int)) = false := by simp; try omega
  have HGE : Hid (∀ W : World, (do eqGuard .geq 3 (.tmp 66) (.const (.int .i64 0)) (.int .i64 127) (.int .i64 0); binOp .geq 3 (.int .i64 127) (.int .i64 0) : Sem Value).run Tryd.prog W = .ok (.bool true) W) := Lib.hid fun W => by go_simp
  have HLT : Hid (∀ W : World, (do eqGuard .lss 3 (.tmp 69) (.const (.int .i64 32)) (.int .i64 127) (.int .i64 32); binOp .lss 3 (.int .i64 127) (.int .i64 32) : Sem Value).run Tryd.prog W = .ok (.bool false) W) := Lib.hid fun W => by go_simp
  clear hge0 hd1 hd2
  obtain ⟨r2, hr2⟩ : ∃ r, Int.tmod mods 2 = r := ⟨_, rfl⟩
  obtain ⟨m2, hm2⟩ : ∃ m, mods - r2 = m := ⟨_, rfl⟩
  have hr2b : -1 ≤ r2 ∧ r2 ≤ 1 ∧ (mods < 0 → r2 ≤ 0) ∧ (0 ≤ mods → 0 ≤ r2) ∧ (mods - r2) % 2 = 0 := by
    rw [← hr2]
    rcases Int.lt_or_le mods 0 with h | h
    · have e : Int.tmod mods 2 = -((-mods) % 2) := by
        have h1 : Int.tmod (-mods) 2 = (-mods) % 2 := Int.tmod_eq_emod_of_nonneg (by omega)
        rw [Int.neg_tmod] at h1
        omega
      omega
    · rw [Int.tmod_eq_emod_of_nonneg h]
      omega
  have hmm1 : -9223372036854775808 ≤ mods := hk.mods.1
  have hmm2 : mods ≤ 9223372036854775807 := hk.mods.2
  have wm : IntKind.i64.wrap (mods - r2) = m2 := by
    rw [hm2]
    exact IntWalk.i64_in _ ⟨by omega, by omega⟩
  have HKM := Lib.hid (show okK ⟨code, m2, typ, shift, base, text⟩ from ⟨hk.code, show in10 m2 from ⟨by omega, by omega⟩, hk.typ, hk.shift, hk.base⟩)
  have hshow : shownK ⟨code, m2, typ, shift, base, text⟩ = code := shown_even (k := ⟨code, mods, typ, shift, base, text⟩) (by rw [← hm2]; exact hr2b.2.2.2.2)
  have HSH : Hid (∀ W, Inv W → Calls Tryd.prog 12 #[.agg #[.int .i64 code, .int .i64 m2, .int .i64 typ, .int .i64 shift, .int .i64 base, .string text]] W fun e w' => e = .returned (.int .i64 code) ∧ Below W.heap.size W w') := Lib.hid fun W hW => H.shown_at W hW HKM.out hshow
  have HS1 := Lib.hid (fold_small hq0 hq1)
  have HS2 := Lib.hid (fold_large hq0 hq1)
  have HI1 := Lib.hid (show in10 (97 + q) from ⟨by omega, by omega⟩)
  have HI2 := Lib.hid (show in10 (97 + q - 32) from ⟨by omega, by omega⟩)
  have HI3 := Lib.hid hk.code
  have HFO := Lib.hid hfo
  have hB : Below w.heap.size w (w.alloc (.cells #[.int .i64 code, .int .i64 mods, .int .i64 typ, .int .i64 shift, .int .i64 base, .string text] 23)) := (Below.refl _ w).alloc (Nat.le_refl _) _
  have k0 := Blk.new w 23 #[.int .i64 code, .int .i64 mods, .int .i64 typ, .int .i64 shift, .int .i64 base, .string text]
  have hv0 := H.invB hv hB
  rw [kyV]
  clear hq hm2 hr2b hmm1 hmm2 hk hshow hfo
  go_enter Tryd.func7, Tryd.ntmps7
  go_wp2_with fail
  refine (mdsAwake H _ hv0).mono ?_
  rintro e w1 ⟨rfl, hb1⟩
  have k1 := k0.below hb1 k0.lt
  have hB1 := hB.trans (hb1.mono hB.size)
  have hv1 := H.invB hv hB1
  clear hv0 k0 hB hb1
  go_wp2_with fail
  refine (H.fold_at _ hv1 HI1.out HS1.out).mono ?_
  rintro e w2 ⟨rfl, hb2⟩
  have k2 := k1.below hb2 k1.lt
  have hB2 := hB1.trans (hb2.mono hB1.size)
  have hv2 := H.invB hv hB2
  clear hv1 k1 hB1 hb2
  go_wp2_with fail
  refine (H.fold_at _ hv2 HI2.out HS2.out).mono ?_
  rintro e w3 ⟨rfl, hb3⟩
  have k3 := k2.below hb3 k2.lt
  have hB3 := hB2.trans (hb3.mono hB2.size)
  have hv3 := H.invB hv hB3
  clear hv2 k2 hB2 hb3
  have c0 := k3.cell 0
  go_wp2_with fail
  refine (H.fold_at _ hv3 HI3.out HFO.out).mono ?_
  rintro e w4 ⟨rfl, hb4⟩
  have k4 := k3.below hb4 k3.lt
  have hB4 := hB3.trans (hb4.mono hB3.size)
  clear hv3 k3 hB3 hb4 c0
  have c1 := k4.cell 1
  have f1 := k4.frozen 1
  have k5 := k4.set 1 (.int .i64 m2)
  have hB5 := hB4.setCell (p := ⟨w.heap.size, 1, none⟩) (Nat.le_refl _) (.int .i64 m2)
  have hv5 := H.invB hv hB5
  go_wp2_with fail
  clear c1 f1 k4 hB4
  obtain ⟨w5, hw5⟩ : ∃ w5, w4.setCell ⟨w.heap.size, 1, none⟩ (.int .i64 m2) = w5 := ⟨_, rfl⟩
  rw [hw5] at k5 hB5 hv5 ⊢
  clear hw5
  have HV : Hid (∀ W, Below w5.heap.size w5 W → Inv W) := Lib.hid fun W hW => H.invB hv5 hW
  have lk : ∀ W, Below w5.heap.size w5 W → Blk W w.heap.size 23 #[.int .i64 code, .int .i64 m2, .int .i64 typ, .int .i64 shift, .int .i64 base, .string text] := fun W hW => k5.below hW k5.lt
  have l0 : ∀ W, Below w5.heap.size w5 W → W.cell? ⟨w.heap.size, 0, none⟩ = some (.int .i64 code) := fun W hW => (k5.below hW k5.lt).cell 0
  have hst := nofact
  refine wp_region_told (w1 := w5) (K := []) (ix := 1000) (R0 := fun _ _ _ => True) (R1 := fun _ _ _ => True) [] (⟨#[.agg #[.int .i64 code, .int .i64 mods, .int .i64 typ, .int .i64 shift, .int .i64 base, .string text], .int .u8 c, .pointer (some ⟨w.heap.size, 0, none⟩), undef, .bool true, .bool true, .int .i64 (97 + q), .int .i64 (q + 1), .bool true, .int .i64 (q + 1), .bool true, .int .i64 127, .bool true, .bool true, .int .u8 c, .int .u8 q, .int .i64 q, .int .i64 (97 + q), .tuple #[.int .i64 (q + 1), .bool true], .int .i64 (97 + q), .tuple #[.int .i64 (q + 1), .bool true], .int .i64 (q + 1), .bool true, .tuple #[.int .i64 (q + 1), .bool true], .int .i64 (97 + q), .int .i64 (97 + q - 32), .tuple #[.int .i64 (q + 1), .bool true], .int .i64 (q + 1), .bool true, .tuple #[.int .i64 127, .bool true], .pointer (some ⟨w.heap.size, 0, none⟩), .int .i64 code, .tuple #[.int .i64 127, .bool true], .int .i64 127, .bool true, .pointer (some ⟨w.heap.size, 1, none⟩), .int .i64 mods, .pointer (some ⟨w.heap.size, 1, none⟩), .int .i64 mods, .int .i64 r2, .int .i64 m2, .pointer (some ⟨w.heap.size, 1, none⟩), .bool true, .bool true, .bool true, .bool true, .bool true, .bool true, .bool true, .bool true, .int .i64 (q + 1), .int .i64 (q + 1), .bool true, .bool true, .bool true, .int .i64 (q + 1), .int .u8 c, .int .u8 q, .int .i64 q, .int .i64 (q + 1), .bool true, .bool true, .bool true, .bool true, .bool false, .bool false, .int .i64 127, .bool true, .bool true, .int .i64 127, .bool false, .bool false, .int .i64 127, .bool true, .bool true, .bool true, .bool true, .bool true, .bool true, .bool true, .bool true, undef, undef, .bool true, .bool true, .bool true, .agg #[.int .i64 code, .int .i64 m2, .int .i64 typ, .int .i64 shift, .int .i64 base, .string text], .int .i64 code, .pointer (some ⟨w.heap.size, 0, none⟩), .int .i64 code, .bool true, .bool true], []⟩) (fun g => ⟨#[.agg #[.int .i64 code, .int .i64 mods, .int .i64 typ, .int .i64 shift, .int .i64 base, .string text], .int .u8 c, .pointer (some ⟨w.heap.size, 0, none⟩), undef, .bool true, .bool true, .int .i64 (97 + q), .int .i64 (q + 1), .bool true, .int .i64 (q + 1), .bool true, .int .i64 127, .bool true, .bool true, .int .u8 c, .int .u8 q, .int .i64 q, .int .i64 (97 + q), .tuple #[.int .i64 (q + 1), .bool true], .int .i64 (97 + q), .tuple #[.int .i64 (q + 1), .bool true], .int .i64 (q + 1), .bool true, .tuple #[.int .i64 (q + 1), .bool true], .int .i64 (97 + q), .int .i64 (97 + q - 32), .tuple #[.int .i64 (q + 1), .bool true], .int .i64 (q + 1), .bool true, .tuple #[.int .i64 127, .bool true], .pointer (some ⟨w.heap.size, 0, none⟩), .int .i64 code, .tuple #[.int .i64 127, .bool true], .int .i64 127, .bool true, .pointer (some ⟨w.heap.size, 1, none⟩), .int .i64 mods, .pointer (some ⟨w.heap.size, 1, none⟩), .int .i64 mods, .int .i64 r2, .int .i64 m2, .pointer (some ⟨w.heap.size, 1, none⟩), .bool true, .bool true, .bool true, .bool true, .bool true, .bool true, .bool true, .bool true, .int .i64 (q + 1), .int .i64 (q + 1), .bool true, .bool true, .bool true, .int .i64 (q + 1), .int .u8 c, .int .u8 q, .int .i64 q, .int .i64 (q + 1), .bool true, .bool true, .bool true, .bool true, .bool false, .bool false, .int .i64 127, .bool true, .bool true, .int .i64 127, .bool false, .bool false, .int .i64 127, .bool true, .bool true, .bool true, .bool true, .bool true, .bool true, .bool true, .bool true, undef, undef, .bool true, .bool true, .bool true, .agg #[.int .i64 code, .int .i64 m2, .int .i64 typ, .int .i64 shift, .int .i64 base, .string text], .int .i64 code, .pointer (some ⟨w.heap.size, 0, none⟩), .int .i64 code, .bool true, .bool true], []⟩) [.bool true, .bool true, .bool true, .bool true, .bool true, .bool true, .bool true, .bool true, .int .i64 (q + 1), .int .i64 (q + 1), .bool true, .bool true, .bool true, .int .i64 (q + 1), .int .u8 c, .int .u8 q, .int .i64 q, .int .i64 (q + 1), .bool true, .bool true, .bool true, .bool true, .bool false, .bool false, .int .i64 127, .bool true, .bool true, .int .i64 127, .bool false, .bool false, .int .i64 127, .bool true, .bool true, .bool true, .bool true, .bool true, .bool true, .bool true, .bool true, undef, undef, .bool true, .bool true, .bool true, .agg #[.int .i64 code, .int .i64 m2, .int .i64 typ, .int .i64 shift, .int .i64 base, .string text], .int .i64 code, .pointer (some ⟨w.heap.size, 0, none⟩), .int .i64 code, .bool true, .bool true, .bool true] (by kernel_rfl) (by kernel_rfl) (by kernel_rfl) (fun g => by kernel_rfl) (by kernel_rfl) (Below.refl _ _).drew (by decide) (by kernel_rfl)
    (goes_cons (goesK_pure (fun _ => .bool true) rfl (by decide) (by decide) (by kernel_rfl) (fun g => by kernel_rfl) rfl (fun g => by kernel_rfl) (fun g w => by kernel_rfl)) 
    (goes_cons (goesK_pure (fun _ => .bool true) rfl (by decide) (by decide) (by kernel_rfl) (fun g => by kernel_rfl) rfl (fun g => by kernel_rfl) (fun g w => by kernel_rfl)) 
    (goes_cons (goesK_pure (fun _ => .bool true) rfl (by decide) (by decide) (by kernel_rfl) (fun g => by kernel_rfl) rfl (fun g => by kernel_rfl) (fun g w => by kernel_rfl)) 
    (goes_cons (goesK_pure (fun _ => .bool true) rfl (by decide) (by decide) (by kernel_rfl) (fun g => by kernel_rfl) rfl (fun g => by kernel_rfl) (fun g w => by kernel_rfl)) 
    (goes_cons (goesK_pure (fun _ => .bool true) rfl (by decide) (by decide) (by kernel_rfl) (fun g => by kernel_rfl) rfl (fun g => by kernel_rfl) (fun g w => by kernel_rfl)) 
    (goes_cons (goesK_pure (fun _ => .bool true) rfl (by decide) (by decide) (by kernel_rfl) (fun g => by kernel_rfl) rfl (fun g => by kernel_rfl) (fun g w => by kernel_rfl)) 
    (goes_cons (goesK_pure (fun _ => .bool true) rfl (by decide) (by decide) (by kernel_rfl) (fun g => by kernel_rfl) rfl (fun g => by kernel_rfl) (fun g w => by kernel_rfl)) 
    (goes_cons (goesK_pure (fun _ => .bool true) rfl (by decide) (by decide) (by kernel_rfl) (fun g => by kernel_rfl) rfl (fun g => by kernel_rfl) (fun g w => by kernel_rfl)) 
    (goes_cons (goesK_pure (fun _ => .int .i64 (q + 1)) rfl (by decide) (by decide) (by kernel_rfl) (fun g => by kernel_rfl) rfl (fun g => by kernel_rfl) (fun g w => by kernel_rfl)) 
    (goes_cons (goesK_pure (fun _ => .int .i64 (q + 1)) rfl (by decide) (by decide) (by kernel_rfl) (fun g => by kernel_rfl) rfl (fun g => by kernel_rfl) (fun g w => by kernel_rfl)) 
    (goes_cons (goesK_bin (v := .bool true) (xv := .int .i64 (q + 1)) (yv := .int .i64 (q + 1)) rfl (by decide) (by decide) (by kernel_rfl) (fun g => by kernel_rfl) rfl (fun g => by kernel_rfl) rfl (fun g => by kernel_rfl) (fun g => by kernel_rfl) (fun w => by go_simp)) 
    (goes_cons (goesK_pure (fun _ => .bool true) rfl (by decide) (by decide) (by kernel_rfl) (fun g => by kernel_rfl) rfl (fun g => by kernel_rfl) (fun g w => by kernel_rfl)) 
    (goes_cons (goesK_pure (fun _ => .bool true) rfl (by decide) (by decide) (by kernel_rfl) (fun g => by kernel_rfl) rfl (fun g => by kernel_rfl) (fun g w => by kernel_rfl)) 
    (goes_cons (goesK_pure (fun _ => .int .i64 (q + 1)) rfl (by decide) (by decide) (by kernel_rfl) (fun g => by kernel_rfl) rfl (fun g => by kernel_rfl) (fun g w => by kernel_rfl)) 
    (goes_cons (goesK_pure (fun _ => .int .u8 c) rfl (by decide) (by decide) (by kernel_rfl) (fun g => by kernel_rfl) rfl (fun g => by kernel_rfl) (fun g w => by kernel_rfl)) 
    (goes_cons (goesK_bin (v := .int .u8 q) (xv := .int .u8 c) (yv := .int .u8 26) rfl (by decide) (by decide) (by kernel_rfl) (fun g => by kernel_rfl) rfl (fun g => by kernel_rfl) rfl (fun g => by kernel_rfl) (fun g => by kernel_rfl) (fun w => HTM.out w)) 
    (goes_cons (goesK_pure (fun _ => .int .i64 q) rfl (by decide) (by decide) (by kernel_rfl) (fun g => by kernel_rfl) rfl (fun g => by kernel_rfl) (fun g w => HCV.out g w)) 
    (goes_cons (goesK_bin (v := .int .i64 (q + 1)) (xv := .int .i64 q) (yv := .int .i64 1) rfl (by decide) (by decide) (by kernel_rfl) (fun g => by kernel_rfl) rfl (fun g => by kernel_rfl) rfl (fun g => by kernel_rfl) (fun g => by kernel_rfl) (fun w => HAD.out w)) 
    (goes_cons (goesK_bin (v := .bool true) (xv := .int .i64 (q + 1)) (yv := .int .i64 (q + 1)) rfl (by decide) (by decide) (by kernel_rfl) (fun g => by kernel_rfl) rfl (fun g => by kernel_rfl) rfl (fun g => by kernel_rfl) (fun g => by kernel_rfl) (fun w => by go_simp)) 
    (goes_cons (goesK_pure (fun _ => .bool true) rfl (by decide) (by decide) (by kernel_rfl) (fun g => by kernel_rfl) rfl (fun g => by kernel_rfl) (fun g w => by kernel_rfl)) 
    (goes_cons (goesK_pure (fun _ => .bool true) rfl (by decide) (by decide) (by kernel_rfl) (fun g => by kernel_rfl) rfl (fun g => by kernel_rfl) (fun g w => by kernel_rfl)) 
    (goes_cons (goesK_pure (fun _ => .bool true) rfl (by decide) (by decide) (by kernel_rfl) (fun g => by kernel_rfl) rfl (fun g => by kernel_rfl) (fun g w => by kernel_rfl)) 
    (goes_cons (goesK_pure (fun _ => .bool false) rfl (by decide) (by decide) (by kernel_rfl) (fun g => by kernel_rfl) rfl (fun g => by kernel_rfl) (fun g w => by kernel_rfl)) 
    (goes_cons (goesK_pure (fun _ => .bool false) rfl (by decide) (by decide) (by kernel_rfl) (fun g => by kernel_rfl) rfl (fun g => by kernel_rfl) (fun g w => by kernel_rfl)) 
    (goes_cons (goesK_pure (fun _ => .int .i64 127) rfl (by decide) (by decide) (by kernel_rfl) (fun g => by kernel_rfl) rfl (fun g => by kernel_rfl) (fun g w => by kernel_rfl)) 
    (goes_cons (goesK_bin (v := .bool true) (xv := .int .i64 127) (yv := .int .i64 0) rfl (by decide) (by decide) (by kernel_rfl) (fun g => by kernel_rfl) rfl (fun g => by kernel_rfl) rfl (fun g => by kernel_rfl) (fun g => by kernel_rfl) (fun w => HGE.out w)) 
    (goes_cons (goesK_pure (fun _ => .bool true) rfl (by decide) (by decide) (by kernel_rfl) (fun g => by kernel_rfl) rfl (fun g => by kernel_rfl) (fun g w => by kernel_rfl)) 
    (goes_cons (goesK_pure (fun _ => .int .i64 127) rfl (by decide) (by decide) (by kernel_rfl) (fun g => by kernel_rfl) rfl (fun g => by kernel_rfl) (fun g w => by kernel_rfl)) 
    (goes_cons (goesK_bin (v := .bool false) (xv := .int .i64 127) (yv := .int .i64 32) rfl (by decide) (by decide) (by kernel_rfl) (fun g => by kernel_rfl) rfl (fun g => by kernel_rfl) rfl (fun g => by kernel_rfl) (fun g => by kernel_rfl) (fun w => HLT.out w)) 
    (goes_cons (goesK_pure (fun _ => .bool false) rfl (by decide) (by decide) (by kernel_rfl) (fun g => by kernel_rfl) rfl (fun g => by kernel_rfl) (fun g w => by kernel_rfl)) 
    (goes_cons (goesK_pure (fun _ => .int .i64 127) rfl (by decide) (by decide) (by kernel_rfl) (fun g => by kernel_rfl) rfl (fun g => by kernel_rfl) (fun g w => by kernel_rfl)) 
    (goes_cons (goesK_pure (fun _ => .bool true) rfl (by decide) (by decide) (by kernel_rfl) (fun g => by kernel_rfl) rfl (fun g => by kernel_rfl) (fun g w => by kernel_rfl)) 
    (goes_cons (goesK_pure (fun _ => .bool true) rfl (by decide) (by decide) (by kernel_rfl) (fun g => by kernel_rfl) rfl (fun g => by kernel_rfl) (fun g w => by kernel_rfl)) 
    (goes_cons (goesK_pure (fun _ => .bool true) rfl (by decide) (by decide) (by kernel_rfl) (fun g => by kernel_rfl) rfl (fun g => by kernel_rfl) (fun g w => by kernel_rfl)) 
    (goes_cons (goesK_pure (fun _ => .bool true) rfl (by decide) (by decide) (by kernel_rfl) (fun g => by kernel_rfl) rfl (fun g => by kernel_rfl) (fun g w => by kernel_rfl)) 
    (goes_cons (goesK_pure (fun _ => .bool true) rfl (by decide) (by decide) (by kernel_rfl) (fun g => by kernel_rfl) rfl (fun g => by kernel_rfl) (fun g w => by kernel_rfl)) 
    (goes_cons (goesK_pure (fun _ => .bool true) rfl (by decide) (by decide) (by kernel_rfl) (fun g => by kernel_rfl) rfl (fun g => by kernel_rfl) (fun g w => by kernel_rfl)) 
    (goes_cons (goesK_pure (fun _ => .bool true) rfl (by decide) (by decide) (by kernel_rfl) (fun g => by kernel_rfl) rfl (fun g => by kernel_rfl) (fun g w => by kernel_rfl)) 
    (goes_cons (goesK_pure (fun _ => .bool true) rfl (by decide) (by decide) (by kernel_rfl) (fun g => by kernel_rfl) rfl (fun g => by kernel_rfl) (fun g w => by kernel_rfl)) 
    (goes_cons (goesK_off rfl (by decide) (by decide) (by kernel_rfl) (fun g => by kernel_rfl) rfl (fun g => by kernel_rfl)) 
    (goes_cons (goesK_off rfl (by decide) (by decide) (by kernel_rfl) (fun g => by kernel_rfl) rfl (fun g => by kernel_rfl)) 
    (goes_cons (goesK_pure (fun _ => .bool true) rfl (by decide) (by decide) (by kernel_rfl) (fun g => by kernel_rfl) rfl (fun g => by kernel_rfl) (fun g w => by kernel_rfl)) 
    (goes_cons (goesK_pure (fun _ => .bool true) rfl (by decide) (by decide) (by kernel_rfl) (fun g => by kernel_rfl) rfl (fun g => by kernel_rfl) (fun g w => by kernel_rfl)) 
    (goes_cons (goesK_pure (fun _ => .bool true) rfl (by decide) (by decide) (by kernel_rfl) (fun g => by kernel_rfl) rfl (fun g => by kernel_rfl) (fun g w => by kernel_rfl)) 
    (goes_cons (goesK_load hst (ahead_none (by decide)) rfl (by decide) (by decide) (by kernel_rfl) (fun g => by kernel_rfl) rfl (fun g => by kernel_rfl) rfl (fun g => by kernel_rfl) lk Tryd.underlying23 rfl (by kernel_rfl)) 
    (goes_cons (goesK_call (args := fun g => #[.agg #[.int .i64 code, .int .i64 m2, .int .i64 typ, .int .i64 shift, .int .i64 base, .string text]]) hst (ahead_none (by decide)) rfl (by decide) (by decide) (by kernel_rfl) (fun g => by kernel_rfl) rfl (fun g => by kernel_rfl) (fun g w => by kernel_rfl) (fun g W hW hin => HSH.out W (HV.out W hW))) 
    (goes_cons (goesK_pure (fun _ => .pointer (some ⟨w.heap.size, 0, none⟩)) rfl (by decide) (by decide) (by kernel_rfl) (fun g => by kernel_rfl) rfl (fun g => by kernel_rfl) (fun g w => by kernel_rfl)) 
    (goes_cons (goesK_cell hst (ahead_none (by decide)) rfl (by decide) (by decide) (by kernel_rfl) (fun g => by kernel_rfl) rfl (fun g => by kernel_rfl) rfl (fun g => by kernel_rfl) l0 (fun w => by kernel_rfl)) 
    (goes_cons (goesK_bin (v := .bool true) (xv := .int .i64 code) (yv := .int .i64 code) rfl (by decide) (by decide) (by kernel_rfl) (fun g => by kernel_rfl) rfl (fun g => by kernel_rfl) rfl (fun g => by kernel_rfl) (fun g => by kernel_rfl) (fun w => by go_simp)) 
    (goes_cons (goesK_pure (fun _ => .bool true) rfl (by decide) (by decide) (by kernel_rfl) (fun g => by kernel_rfl) rfl (fun g => by kernel_rfl) (fun g w => by kernel_rfl)) 
    (goes_cons (goesK_pure (fun _ => .bool true) rfl (by decide) (by decide) (by kernel_rfl) (fun g => by kernel_rfl) rfl (fun g => by kernel_rfl) (fun g w => by kernel_rfl)) goes_nil))))))))))))))))))))))))))))))))))))))))))))))))))) ?_
  intro g W hW _
  go_wp2_with fail
  go_ret
  exact ⟨rfl, hB5.trans (hW.mono hB5.size)⟩
theorem modsCase_walk (H : MdsC Inv) (k : Ky) (hk : okK k) (_hs : k.text.size ≤ maxLen) (c : Int) (clo : 0 ≤ c) (_chi : c ≤ 255) (w : World) (hv : Inv w) : Calls Tryd.prog 7 #[kyV k, .int .u8 c] w fun e w' => e = .returned (.bool true) ∧ Below w.heap.size w w' := by
  obtain ⟨f, b, hf⟩ : ∃ f b, foldN k.code = (f, b) := ⟨_, _, rfl⟩
  have hr := fold_rng k.code
  rw [hf] at hr
  cases b with
  | false =>
    have h0 : f = 0 := hr.2 rfl
    subst h0
    exact modsCase_no H k hk c clo hf w hv
  | true =>
    obtain ⟨h1, h2⟩ := hr.1 rfl
    simp only at h1 h2
    rcases h2 with h2 | rfl
    · exact modsCase_low H k hk c clo f hf h1 h2 w hv
    · exact modsCase_del H k hk c clo hf w hv
set_option maxRecDepth 100000 in
set_option maxHeartbeats 16000000 in
theorem modsLess_walk (H : MdsC Inv) (k : Ky) (hk : okK k) (hs : k.text.size ≤ 4294967296) (f : Int) (flo : 0 ≤ f) (fhi : f ≤ 255) (w : World) (hv : Inv w) : Calls Tryd.prog 8 #[kyV k, .int .u8 f] w fun e w' => e = .returned (.bool true) ∧ Below w.heap.size w w' := by
  obtain ⟨code, mods, typ, shift, base, text⟩ := k
  have HS : Hid (text.size ≤ 4294967296) := Lib.hid hs
  have HK := Lib.hid hk
  have hB : Below w.heap.size w (w.alloc (.cells #[.int .i64 code, .int .i64 mods, .int .i64 typ, .int .i64 shift, .int .i64 base, .string text] 23)) := (Below.refl _ w).alloc (Nat.le_refl _) _
  have k0 := Blk.new w 23 #[.int .i64 code, .int .i64 mods, .int .i64 typ, .int .i64 shift, .int .i64 base, .string text]
  have hv0 := H.invB hv hB
  obtain ⟨m, hm⟩ : ∃ m, mayK ⟨code, mods, typ, shift, base, text⟩ = m := ⟨_, rfl⟩
  have HM := Lib.hid hm
  obtain ⟨r, hr⟩ : ∃ r, Int.tmod mods (1 + f) = r := ⟨_, rfl⟩
  have hrr : m = true → r = mods % (1 + f) := fun h => by
    rw [h, may_parts] at hm
    rw [← hr]
    exact Int.tmod_eq_emod_of_nonneg hm.1.2.1
  have HRR := Lib.hid hrr
  have wf1 : IntKind.i64.wrap f = f := IntWalk.i64_in f ⟨by omega, by omega⟩
  have wf2 : IntKind.i64.wrap (1 + f) = 1 + f := IntWalk.i64_in _ ⟨by omega, by omega⟩
  have wf3 : ((1 + f) == 0) = false := by simp; omega
  have wf4 : 1 + f ≠ 0 := by omega
  rw [kyV]
  clear hs hk hm hrr
  go_enter Tryd.func8, Tryd.ntmps8
  go_wp2_with fail
  refine (mdsAwake H _ hv0).mono ?_
  rintro e w1 ⟨rfl, hb1⟩
  have k1 := k0.below hb1 k0.lt
  have hB1 := hB.trans (hb1.mono hB.size)
  clear hv0 k0 hB hb1
  have c0 := k1.cell 0
  have c1 := k1.cell 1
  have c2 := k1.cell 2
  have c3 := k1.cell 3
  have c4 := k1.cell 4
  have c5 := k1.cell 5
  go_wp2_with fail
  refine (rmay_at10 _ HS.out HM.out).mono ?_
  rintro e w2 ⟨rfl, hb2⟩
  have k2 := k1.below hb2 k1.lt
  have hB2 := hB1.trans (hb2.mono hB1.size)
  have hv2 := H.invB hv hB2
  clear k1 hB1 hb2 c0 c1 c2 c3 c4 c5
  have c0 := k2.cell 0
  have c1 := k2.cell 1
  have c2 := k2.cell 2
  have c3 := k2.cell 3
  have c4 := k2.cell 4
  have c5 := k2.cell 5
  cases m with
  | false =>
    go_wp2_with fail
    refine (H.may_at _ hv2 HK.out HS.out HM.out).mono ?_
    rintro e w3 ⟨rfl, hb3⟩
    have hB3 := hB2.trans (hb3.mono hB2.size)
    go_wp2_with fail
    go_ret
    exact ⟨rfl, hB3⟩
  | true =>
    have p6 : Blk (w2.alloc (.cells #[.int .i64 code, .int .i64 mods, .int .i64 typ, .int .i64 0, .int .i64 0, .string text] 23)) w.heap.size 23 #[.int .i64 code, .int .i64 mods, .int .i64 typ, .int .i64 shift, .int .i64 base, .string text] := k2.alloc _
    have p7 : Blk ((w2.alloc (.cells #[.int .i64 code, .int .i64 mods, .int .i64 typ, .int .i64 0, .int .i64 0, .string text] 23)).alloc (.cells #[.int .i64 code, .int .i64 mods, .int .i64 typ, .int .i64 shift, .int .i64 base, .string ⟨#[]⟩] 23)) w.heap.size 23 #[.int .i64 code, .int .i64 mods, .int .i64 typ, .int .i64 shift, .int .i64 base, .string text] := p6.alloc _
    have p8 : Blk (((w2.alloc (.cells #[.int .i64 code, .int .i64 mods, .int .i64 typ, .int .i64 0, .int .i64 0, .string text] 23)).alloc (.cells #[.int .i64 code, .int .i64 mods, .int .i64 typ, .int .i64 shift, .int .i64 base, .string ⟨#[]⟩] 23)).alloc (.cells #[.int .i64 code, .int .i64 r, .int .i64 typ, .int .i64 shift, .int .i64 base, .string text] 23)) w.heap.size 23 #[.int .i64 code, .int .i64 mods, .int .i64 typ, .int .i64 shift, .int .i64 base, .string text] := p7.alloc _
    have q8 : Blk (((w2.alloc (.cells #[.int .i64 code, .int .i64 mods, .int .i64 typ, .int .i64 0, .int .i64 0, .string text] 23)).alloc (.cells #[.int .i64 code, .int .i64 mods, .int .i64 typ, .int .i64 shift, .int .i64 base, .string ⟨#[]⟩] 23)).alloc (.cells #[.int .i64 code, .int .i64 r, .int .i64 typ, .int .i64 shift, .int .i64 base, .string text] 23)) w2.heap.size 23 #[.int .i64 code, .int .i64 mods, .int .i64 typ, .int .i64 0, .int .i64 0, .string text] := ((Blk.new w2 _ _).alloc _).alloc _
    have r8 : Blk (((w2.alloc (.cells #[.int .i64 code, .int .i64 mods, .int .i64 typ, .int .i64 0, .int .i64 0, .string text] 23)).alloc (.cells #[.int .i64 code, .int .i64 mods, .int .i64 typ, .int .i64 shift, .int .i64 base, .string ⟨#[]⟩] 23)).alloc (.cells #[.int .i64 code, .int .i64 r, .int .i64 typ, .int .i64 shift, .int .i64 base, .string text] 23)) (w2.heap.size + 1) 23 #[.int .i64 code, .int .i64 mods, .int .i64 typ, .int .i64 shift, .int .i64 base, .string ⟨#[]⟩] := by
      have h := (Blk.new (w2.alloc (.cells #[.int .i64 code, .int .i64 mods, .int .i64 typ, .int .i64 0, .int .i64 0, .string text] 23)) 23 #[.int .i64 code, .int .i64 mods, .int .i64 typ, .int .i64 shift, .int .i64 base, .string ⟨#[]⟩]).alloc (.cells #[.int .i64 code, .int .i64 r, .int .i64 typ, .int .i64 shift, .int .i64 base, .string text] 23)
      rwa [World.size_alloc] at h
    have u8 : Blk (((w2.alloc (.cells #[.int .i64 code, .int .i64 mods, .int .i64 typ, .int .i64 0, .int .i64 0, .string text] 23)).alloc (.cells #[.int .i64 code, .int .i64 mods, .int .i64 typ, .int .i64 shift, .int .i64 base, .string ⟨#[]⟩] 23)).alloc (.cells #[.int .i64 code, .int .i64 r, .int .i64 typ, .int .i64 shift, .int .i64 base, .string text] 23)) (w2.heap.size + 1 + 1) 23 #[.int .i64 code, .int .i64 r, .int .i64 typ, .int .i64 shift, .int .i64 base, .string text] := by
      have h := Blk.new ((w2.alloc (.cells #[.int .i64 code, .int .i64 mods, .int .i64 typ, .int .i64 0, .int .i64 0, .string text] 23)).alloc (.cells #[.int .i64 code, .int .i64 mods, .int .i64 typ, .int .i64 shift, .int .i64 base, .string ⟨#[]⟩] 23)) 23 #[.int .i64 code, .int .i64 r, .int .i64 typ, .int .i64 shift, .int .i64 base, .string text]
      rwa [World.size_alloc, World.size_alloc] at h
    have hB8 : Below w.heap.size w (((w2.alloc (.cells #[.int .i64 code, .int .i64 mods, .int .i64 typ, .int .i64 0, .int .i64 0, .string text] 23)).alloc (.cells #[.int .i64 code, .int .i64 mods, .int .i64 typ, .int .i64 shift, .int .i64 base, .string ⟨#[]⟩] 23)).alloc (.cells #[.int .i64 code, .int .i64 r, .int .i64 typ, .int .i64 shift, .int .i64 base, .string text] 23)) := ((hB2.alloc hB2.size _).alloc (by simp; have := hB2.size; omega) _).alloc (by simp; have := hB2.size; omega) _
    have d0 := p6.cell 0
    have d1 := p6.cell 1
    have d2 := p6.cell 2
    have d3 := p6.cell 3
    have d4 := p6.cell 4
    have d5 := p6.cell 5
    have e0 := p7.cell 0
    have e1 := p7.cell 1
    have e2 := p7.cell 2
    have e3 := p7.cell 3
    have e4 := p7.cell 4
    have e5 := p7.cell 5
    have g1 : ((((w2.alloc (.cells #[.int .i64 code, .int .i64 mods, .int .i64 typ, .int .i64 0, .int .i64 0, .string text] 23)).alloc (.cells #[.int .i64 code, .int .i64 mods, .int .i64 typ, .int .i64 shift, .int .i64 base, .string ⟨#[]⟩] 23)).alloc (.cells #[.int .i64 code, .int .i64 mods, .int .i64 typ, .int .i64 shift, .int .i64 base, .string text] 23))).cell? ⟨w.heap.size, 1, none⟩ = some (.int .i64 mods) := (p7.alloc (.cells #[.int .i64 code, .int .i64 mods, .int .i64 typ, .int .i64 shift, .int .i64 base, .string text] 23)).cell 1
    have h0 := p8.cell 0
    have h1 := p8.cell 1
    have h2 := p8.cell 2
    have h3 := p8.cell 3
    have h4 := p8.cell 4
    have h5 := p8.cell 5
    have hv8 := H.invB hv hB8
    clear k2 p6 p7 hB2 hv2
    go_wp2_with fail
    obtain ⟨w8, hw8⟩ : ∃ w8, (((w2.alloc (.cells #[.int .i64 code, .int .i64 mods, .int .i64 typ, .int .i64 0, .int .i64 0, .string text] 23)).alloc (.cells #[.int .i64 code, .int .i64 mods, .int .i64 typ, .int .i64 shift, .int .i64 base, .string ⟨#[]⟩] 23)).alloc (.cells #[.int .i64 code, .int .i64 r, .int .i64 typ, .int .i64 shift, .int .i64 base, .string text] 23)) = w8 := ⟨_, rfl⟩
    have hmr := HRR.out trivial
    have HM6 := Lib.hid (show mayK ⟨code, mods, typ, 0, 0, text⟩ = true from may_bare (k := ⟨code, mods, typ, shift, base, text⟩) HM.out)
    have HM7 := Lib.hid (show mayK ⟨code, mods, typ, shift, base, ⟨#[]⟩⟩ = true from may_mute (k := ⟨code, mods, typ, shift, base, text⟩) HM.out)
    have HM8 := Lib.hid (show mayK ⟨code, r, typ, shift, base, text⟩ = true by rw [hmr]; exact may_fewer (k := ⟨code, mods, typ, shift, base, text⟩) HM.out flo)
    have hpm := (may_parts _).1 HM8.out
    have HK8 := Lib.hid (show okK ⟨code, r, typ, shift, base, text⟩ from ⟨HK.out.code, ⟨by have := hpm.1.2.1; simp only at this; show _ ≤ r; omega, by have := hpm.1.2.2.1; simp only at this; show r ≤ _; omega⟩, HK.out.typ, HK.out.shift, HK.out.base⟩)
    have HK6 := Lib.hid (show okK ⟨code, mods, typ, 0, 0, text⟩ from ok_lit _ _ _ HK.out.code HK.out.mods HK.out.typ _)
    have HK7 := Lib.hid (show okK ⟨code, mods, typ, shift, base, ⟨#[]⟩⟩ from ⟨HK.out.code, HK.out.mods, HK.out.typ, HK.out.shift, HK.out.base⟩)
    rw [hw8] at p8 q8 r8 u8 hB8 hv8 ⊢
    clear hw8 hpm hmr d0 e0 h0 d1 e1 h1 d2 e2 h2 d3 e3 h3 d4 e4 h4 d5 e5 h5 g1 c0 c1 c2 c3 c4 c5
    refine (H.may_at _ hv8 HK.out HS.out HM.out).mono ?_
    rintro e w9 ⟨rfl, hb9⟩
    have q9 := q8.below hb9 q8.lt
    have r9 := r8.below hb9 r8.lt
    have u9 := u8.below hb9 u8.lt
    have hB9 := hB8.trans (hb9.mono hB8.size)
    have hv9 := H.invB hv hB9
    have c0 := q9.cell 0
    have c1 := q9.cell 1
    have c2 := q9.cell 2
    have c3 := q9.cell 3
    have c4 := q9.cell 4
    have c5 := q9.cell 5
    clear hv8 hB8 hb9
    go_wp2_with fail
    clear c0 c1 c2 c3 c4 c5
    refine (H.may_at _ hv9 HK6.out HS.out HM6.out).mono ?_
    rintro e w10 ⟨rfl, hb10⟩
    have r10 := r9.below hb10 r9.lt
    have u10 := u9.below hb10 u9.lt
    have hB10 := hB9.trans (hb10.mono hB9.size)
    have hv10 := H.invB hv hB10
    have c0 := r10.cell 0
    have c1 := r10.cell 1
    have c2 := r10.cell 2
    have c3 := r10.cell 3
    have c4 := r10.cell 4
    have c5 := r10.cell 5
    clear hv9 hB9 hb10
    go_wp2_with fail
    clear c0 c1 c2 c3 c4 c5
    refine (H.may_at _ hv10 HK7.out (by decide) HM7.out).mono ?_
    rintro e w11 ⟨rfl, hb11⟩
    have u11 := u10.below hb11 u10.lt
    have hB11 := hB10.trans (hb11.mono hB10.size)
    have hv11 := H.invB hv hB11
    have c0 := u11.cell 0
    have c1 := u11.cell 1
    have c2 := u11.cell 2
    have c3 := u11.cell 3
    have c4 := u11.cell 4
    have c5 := u11.cell 5
    clear hv10 hB10 hb11
    go_wp2_with fail
    clear c0 c1 c2 c3 c4 c5
    refine (H.may_at _ hv11 HK8.out HS.out HM8.out).mono ?_
    rintro e w12 ⟨rfl, hb12⟩
    have hB12 := hB11.trans (hb12.mono hB11.size)
    have hv12 := H.invB hv hB12
    clear hv11 hB11 hb12
    go_wp2_with fail
    go_ret
    exact ⟨rfl, hB12⟩
end Go.Proofs.YtdhpbihooeckoaaDoor
