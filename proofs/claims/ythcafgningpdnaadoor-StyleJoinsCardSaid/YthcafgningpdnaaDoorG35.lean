/-
  Stage 18's laws, walked: StyleJoins.
-/
import Derived.Test.YthcafgningpdnaaDoorG29
namespace Go.Proofs.YthcafgningpdnaaDoor
open Go.RowKit
set_option maxRecDepth 100000 in
set_option maxHeartbeats 16000000 in
theorem styleJoins_walk (s : Sy) (_hs : okSy s) (A : Option Addr) (l : List (List Int)) (c : Nat) (_hl : l.length ≤ maxLen) (_hlp : ∀ p ∈ l, p.length ≤ maxLen) (B : Option Addr) (k : List (List Int)) (d : Nat) (_hk : k.length ≤ maxLen) (_hkp : ∀ p ∈ k, p.length ≤ maxLen) (w : World) (hA : LsIn w A l) (hB : LsIn w B k) (ht : Tab w) : Calls Tryd.prog 6 #[syV s, .slice A l.length c, .slice B k.length d] w fun e w' => e = .returned (.bool true) ∧ Below w.heap.size w w' := by
 obtain ⟨n, hn⟩ : ∃ n, l.length = n := ⟨_, rfl⟩
 obtain ⟨m, hm⟩ : ∃ n, k.length = n := ⟨_, rfl⟩
 rw [hn, hm]
 obtain ⟨r, hr⟩ : ∃ r, applyY s l = r := ⟨_, rfl⟩
 obtain ⟨z, hz⟩ : ∃ r, applyY s (l ++ k) = r := ⟨_, rfl⟩
 have hz2 : applyY r k = z := by rw [← hr, ← hz, apply_app]
 obtain ⟨q, hq⟩ : ∃ q, mayY s = q := ⟨_, rfl⟩
 have hqz : q = true → mayY z = true := fun h => by rw [← hz]; exact app_may _ (by rw [hq, h])
 have HM : Hid (∀ W, Calls Tryd.prog 12 #[syV s] W fun e w' => e = .returned (.bool q) ∧ Below W.heap.size W w') := Lib.hid fun W => smay_any s q hq W
 have HMN : Hid (q = true → ∀ W, Calls Tryd.prog 12 #[syV z] W fun e w' => e = .returned (.bool true) ∧ Below W.heap.size W w') := Lib.hid fun h W => smay_any z true (hqz h) W
 have HF1 : Hid (∀ W, Below w.heap.size w W → Calls Tryd.prog 17 #[.slice A n c] W (FewE l W)) := Lib.hid fun W hW => few18_any A l n c hn W (hA.below hW)
 have HF2 : Hid (∀ W, Below w.heap.size w W → Calls Tryd.prog 17 #[.slice B m d] W (FewE k W)) := Lib.hid fun W hW => few18_any B k m d hm W (hB.below hW)
 have HA1 : Hid (n ≤ 40 → ∀ W, Below w.heap.size w W → Calls Tryd.prog 18 #[syV s, .slice A n c] W fun e w' => e = .returned (syV r) ∧ Below W.heap.size W w') := Lib.hid fun h W hW => by rw [← hr]; exact sApply_any s A l n c hn (by omega) W (hA.below hW)
 have HA2 : Hid (m ≤ 40 → ∀ W, Below w.heap.size w W → Calls Tryd.prog 18 #[syV r, .slice B m d] W fun e w' => e = .returned (syV z) ∧ Below W.heap.size W w') := Lib.hid fun h W hW => by rw [← hz2]; exact sApply_any r B k m d hm (by omega) W (hB.below hW)
 have HA3 : Hid (n ≤ 40 → m ≤ 40 → ∀ (C : Option Addr) (f : Nat) (W : World), LsIn W C (l ++ k) → Calls Tryd.prog 18 #[syV s, .slice C (n + m) f] W fun e w' => e = .returned (syV z) ∧ Below W.heap.size W w') := Lib.hid fun h1 h2 C f W hl => by rw [← hz]; exact sApply_any s C (l ++ k) (n + m) f (by rw [List.length_append]; omega) (by omega) W hl
 obtain ⟨j0, hj0, hy0, hy1, hy2⟩ : ∃ i, Tryd.prog.info? 35 = some i ∧ i.zero = some (.slice none 0 0) ∧ i.size = 1 ∧ i.bytes = 24 := ⟨_, rfl, rfl, rfl, rfl⟩
 have HN := Lib.hid hn
 have HMm := Lib.hid hm
 clear hr hz hz2 hq hqz hn hm
 obtain ⟨s0, s1, s2, s3, s4, s5, s6, s7, s8, s9⟩ := s
 obtain ⟨r0, r1, r2, r3, r4, r5, r6, r7, r8, r9⟩ := r
 obtain ⟨n0, n1, n2, n3, n4, n5, n6, n7, n8, n9⟩ := z
 unfold syV at HM HMN HA1 HA2 HA3 ⊢
 simp only at HM HMN HA1 HA2 HA3 ⊢
 have k0 := Blk.new w 23 #[.bool s0, .bool s1, .bool s2, .bool s3, .bool s4, .bool s5, .bool s6, .int .i64 s7, .int .i64 s8, .int .i64 s9]
 have hB0 : Below w.heap.size w (w.alloc (.cells #[.bool s0, .bool s1, .bool s2, .bool s3, .bool s4, .bool s5, .bool s6, .int .i64 s7, .int .i64 s8, .int .i64 s9] 23)) := (Below.refl _ w).alloc (Nat.le_refl _) _
 go_enter Tryd.func6, Tryd.ntmps6
 go_wp2_with fail
 refine (styAwake _ (ht.below hB0)).mono ?_
 rintro e w1 ⟨rfl, hb1⟩
 have hB1 := hB0.trans (hb1.mono hB0.size)
 have kS := k0.below hb1 k0.lt
 clear hb1 hB0 k0
 go_wp2_with fail
 refine (HF1.out _ hB1).mono ?_
 rintro e w2 ⟨q1, rfl, hq1, hb2⟩
 have hB2 := hB1.trans (hb2.mono hB1.size)
 replace kS := kS.below hb2 kS.lt
 clear hb2 hB1 HF1
 cases q1 with
 | false =>
   go_wp2_with fail
   go_ret
   exact ⟨rfl, hB2⟩
 | true =>
   have hn40 : n ≤ 40 := by have := (hq1 rfl).1; have := HN.out; omega
   clear hq1
   go_wp2_with fail
   refine (HF2.out _ hB2).mono ?_
   rintro e w3 ⟨q2, rfl, hq2, hb3⟩
   have hB3 := hB2.trans (hb3.mono hB2.size)
   replace kS := kS.below hb3 kS.lt
   clear hb3 hB2 HF2
   cases q2 with
   | false =>
     go_wp2_with fail
     go_ret
     exact ⟨rfl, hB3⟩
   | true =>
     have hm40 : m ≤ 40 := by have := (hq2 rfl).1; have := HMm.out; omega
     clear hq2
     replace HA1 := Lib.hid (HA1.out hn40)
     replace HA2 := Lib.hid (HA2.out hm40)
     replace HA3 := Lib.hid (HA3.out hn40 hm40)
     obtain ⟨xs, hxs, hrx, hx1, hxv⟩ := (hA.below hB3).rd.vals
     obtain ⟨ys, hys, hry, hy1', hyv⟩ := (hB.below hB3).rd.vals
     have HXL : Hid (xs.length = n) := Lib.hid (by rw [hxs]; exact HN.out)
     have HYL : Hid (ys.length = m) := Lib.hid (by rw [hys]; exact HMm.out)
     have hmk : Own (w3.alloc (.cells #[] 35)) w3.heap.size 35 1 (.slice (some ⟨w3.heap.size, 0, none⟩) 0 0) 0 [] := Own.of (World.ownsRow_made w3 #[] 0 (Nat.le_refl _) (by decide) rfl)
     have hr1k := Rd.alloc hrx (.cells #[] 35)
     have qk : Below w3.heap.size w3 (w3.alloc (.cells #[] 35)) := (Below.refl _ _).alloc (Nat.le_refl _) _
     have szk := qk.size
     go_upto_region 5 with (first
      | (at_builtin; refine list_app _ rfl (.tmp 20) (.tmp 21) 25 rfl w3.heap.size 35 j0 _ 1 24 Tryd.underlying25 hj0 hy0 hy1 hy2 rfl Nat.one_pos (.slice (some ⟨w3.heap.size, 0, none⟩) 0 0) 0 [] rfl hmk A n c xs rfl (by rw [HXL.out, Nat.mul_one]) hr1k hx1 (by simp only [maxLen]; omega) (by omega) szk ?_; intro v5 w5 ho5 hg5
         have q5 := qk.grown hg5 szk (fun g hg => (hmk.lt g hg).1)
         have hr2k := Rd.below hry q5
         have sz5 := q5.size)
      | (at_builtin; refine list_app _ rfl (.tmp 22) (.tmp 23) 25 rfl w3.heap.size 35 j0 _ 1 24 Tryd.underlying25 hj0 hy0 hy1 hy2 rfl Nat.one_pos v5 _ _ rfl ho5 B m d ys rfl (by rw [HYL.out, Nat.mul_one]) hr2k hy1' (by simp only [maxLen]; omega) (by omega) sz5 ?_; intro v6 w6 ho6 hg6
         have q6 := q5.grown hg6 sz5 (fun g hg => (ho5.lt g hg).1)
         obtain ⟨A6, c6, rfl, _⟩ := ho6.form))
     have hA6 := (hA.below hB3).below q6
     have hB6' := (hB.below hB3).below q6
     have ls6 : LsIn w6 A6 (l ++ k) := by
      obtain ⟨h1, h2⟩ := And.intro hA6.nr hB6'.nr
      refine ⟨RdPc.of_vals (xs := xs ++ ys) (by simpa using ho6.rd) (by rw [List.length_append, List.length_append, hxs, hys]) (rows_join ?_ ?_ hxs), fun p hp => ?_⟩
      ·intro i hi
       obtain ⟨A', c', e1, e2, e3⟩ := hxv i hi
       exact ⟨A', c', e1, e2, e3.below q6⟩
      ·intro i hi
       obtain ⟨A', c', e1, e2, e3⟩ := hyv i hi
       exact ⟨A', c', e1, e2, e3.below q6⟩
      ·rcases List.mem_append.1 hp with hp | hp
       ·exact h1 p hp
       ·exact h2 p hp
     have hB6 := hB3.trans (q6.mono hB3.size)
     replace kS := kS.below q6 kS.lt
     clear ho5 ho6 hg5 hg6 hmk hr1k hr2k hrx hry hxv hyv hx1 hy1' hA6 hB6' q5 q6 qk sz5 szk hB3 hxs hys hA hB
     obtain ⟨a0, a1, a2, a3, a4, a5, a6, a7, a8, a9⟩ := Blk.cells10y (s := ⟨s0, s1, s2, s3, s4, s5, s6, s7, s8, s9⟩) kS
     go_wp2_with fail
     refine (HA3.out A6 c6 _ ls6).mono ?_
     rintro e w7 ⟨rfl, hb7⟩
     have hB7 := hB6.trans (hb7.mono hB6.size)
     replace kS := (kS.below hb7 kS.lt).alloc (.cells #[.bool n0, .bool n1, .bool n2, .bool n3, .bool n4, .bool n5, .bool n6, .int .i64 n7, .int .i64 n8, .int .i64 n9] 23)
     have kN := Blk.new w7 23 #[.bool n0, .bool n1, .bool n2, .bool n3, .bool n4, .bool n5, .bool n6, .int .i64 n7, .int .i64 n8, .int .i64 n9]
     have hB8 := hB7.alloc hB7.size (.cells #[.bool n0, .bool n1, .bool n2, .bool n3, .bool n4, .bool n5, .bool n6, .int .i64 n7, .int .i64 n8, .int .i64 n9] 23)
     clear a0 a1 a2 a3 a4 a5 a6 a7 a8 a9 hb7 hB7 hB6 ls6
     go_upto_region 6 with (fail)
     obtain ⟨w8, hw8⟩ : ∃ w8, w7.alloc (.cells #[.bool n0, .bool n1, .bool n2, .bool n3, .bool n4, .bool n5, .bool n6, .int .i64 n7, .int .i64 n8, .int .i64 n9] 23) = w8 := ⟨_, rfl⟩
     rw [hw8] at kS kN hB8 ⊢
     clear hw8
     cases q with
     | true =>
       have hst : ∀ f ∈ ([] : List Fact), f.ok := fun _ h => by cases h
       refine wp_region_told (w1 := w8) (K := []) (ix := 1000) (R0 := fun _ _ _ => True) (R1 := fun _ _ _ => True) [] (⟨#[.agg #[.bool s0, .bool s1, .bool s2, .bool s3, .bool s4, .bool s5, .bool s6, .int .i64 s7, .int .i64 s8, .int .i64 s9], .slice A n c, .slice B m d, .pointer (some ⟨w.heap.size, 0, none⟩), undef, undef, .bool true, .bool true, .slice A6 (n + m) c6, .pointer (some ⟨w7.heap.size, 0, none⟩), .bool true, .slice A n c, .bool true, .bool false, .bool false, .slice B m d, .bool true, .bool false, .bool false, undef, .slice (some ⟨w3.heap.size, 0, none⟩) 0 0, .slice A n c, v5, .slice B m d, .slice A6 (n + m) c6, .agg #[.bool s0, .bool s1, .bool s2, .bool s3, .bool s4, .bool s5, .bool s6, .int .i64 s7, .int .i64 s8, .int .i64 s9], .slice A6 (n + m) c6, .agg #[.bool n0, .bool n1, .bool n2, .bool n3, .bool n4, .bool n5, .bool n6, .int .i64 n7, .int .i64 n8, .int .i64 n9], .bool true, .bool true, .agg #[.bool n0, .bool n1, .bool n2, .bool n3, .bool n4, .bool n5, .bool n6, .int .i64 n7, .int .i64 n8, .int .i64 n9], .agg #[.bool s0, .bool s1, .bool s2, .bool s3, .bool s4, .bool s5, .bool s6, .int .i64 s7, .int .i64 s8, .int .i64 s9], .slice A n c, .agg #[.bool r0, .bool r1, .bool r2, .bool r3, .bool r4, .bool r5, .bool r6, .int .i64 r7, .int .i64 r8, .int .i64 r9], .slice B m d, .agg #[.bool n0, .bool n1, .bool n2, .bool n3, .bool n4, .bool n5, .bool n6, .int .i64 n7, .int .i64 n8, .int .i64 n9], .bool true, .bool true, .bool true, .agg #[.bool s0, .bool s1, .bool s2, .bool s3, .bool s4, .bool s5, .bool s6, .int .i64 s7, .int .i64 s8, .int .i64 s9], .bool true, .bool false, .bool false, .agg #[.bool n0, .bool n1, .bool n2, .bool n3, .bool n4, .bool n5, .bool n6, .int .i64 n7, .int .i64 n8, .int .i64 n9], .bool true, .bool true, .bool true], []⟩) (fun g => ⟨#[.agg #[.bool s0, .bool s1, .bool s2, .bool s3, .bool s4, .bool s5, .bool s6, .int .i64 s7, .int .i64 s8, .int .i64 s9], .slice A n c, .slice B m d, .pointer (some ⟨w.heap.size, 0, none⟩), undef, undef, .bool true, .bool true, .slice A6 (n + m) c6, .pointer (some ⟨w7.heap.size, 0, none⟩), .bool true, .slice A n c, .bool true, .bool false, .bool false, .slice B m d, .bool true, .bool false, .bool false, undef, .slice (some ⟨w3.heap.size, 0, none⟩) 0 0, .slice A n c, v5, .slice B m d, .slice A6 (n + m) c6, .agg #[.bool s0, .bool s1, .bool s2, .bool s3, .bool s4, .bool s5, .bool s6, .int .i64 s7, .int .i64 s8, .int .i64 s9], .slice A6 (n + m) c6, .agg #[.bool n0, .bool n1, .bool n2, .bool n3, .bool n4, .bool n5, .bool n6, .int .i64 n7, .int .i64 n8, .int .i64 n9], .bool true, .bool true, .agg #[.bool n0, .bool n1, .bool n2, .bool n3, .bool n4, .bool n5, .bool n6, .int .i64 n7, .int .i64 n8, .int .i64 n9], .agg #[.bool s0, .bool s1, .bool s2, .bool s3, .bool s4, .bool s5, .bool s6, .int .i64 s7, .int .i64 s8, .int .i64 s9], .slice A n c, .agg #[.bool r0, .bool r1, .bool r2, .bool r3, .bool r4, .bool r5, .bool r6, .int .i64 r7, .int .i64 r8, .int .i64 r9], .slice B m d, .agg #[.bool n0, .bool n1, .bool n2, .bool n3, .bool n4, .bool n5, .bool n6, .int .i64 n7, .int .i64 n8, .int .i64 n9], .bool true, .bool true, .bool true, .agg #[.bool s0, .bool s1, .bool s2, .bool s3, .bool s4, .bool s5, .bool s6, .int .i64 s7, .int .i64 s8, .int .i64 s9], .bool true, .bool false, .bool false, .agg #[.bool n0, .bool n1, .bool n2, .bool n3, .bool n4, .bool n5, .bool n6, .int .i64 n7, .int .i64 n8, .int .i64 n9], .bool true, .bool true, .bool true], []⟩) [.bool true, .bool true, .agg #[.bool n0, .bool n1, .bool n2, .bool n3, .bool n4, .bool n5, .bool n6, .int .i64 n7, .int .i64 n8, .int .i64 n9], .agg #[.bool s0, .bool s1, .bool s2, .bool s3, .bool s4, .bool s5, .bool s6, .int .i64 s7, .int .i64 s8, .int .i64 s9], .slice A n c, .agg #[.bool r0, .bool r1, .bool r2, .bool r3, .bool r4, .bool r5, .bool r6, .int .i64 r7, .int .i64 r8, .int .i64 r9], .slice B m d, .agg #[.bool n0, .bool n1, .bool n2, .bool n3, .bool n4, .bool n5, .bool n6, .int .i64 n7, .int .i64 n8, .int .i64 n9], .bool true, .bool true, .bool true, .agg #[.bool s0, .bool s1, .bool s2, .bool s3, .bool s4, .bool s5, .bool s6, .int .i64 s7, .int .i64 s8, .int .i64 s9], .bool true, .bool false, .bool false, .agg #[.bool n0, .bool n1, .bool n2, .bool n3, .bool n4, .bool n5, .bool n6, .int .i64 n7, .int .i64 n8, .int .i64 n9], .bool true, .bool true, .bool true, .bool true] (by kernel_rfl) (by kernel_rfl) (by kernel_rfl) (fun g => by kernel_rfl) (by kernel_rfl) (Below.refl _ _).drew (by decide) (by kernel_rfl)
        (goes_cons (gkP (fun _ => .bool true))
        (goes_cons (gkP (fun _ => .bool true))
        (goes_cons (gkL hst (fun W hW => kN.below hW kN.lt) Tryd.underlying23)
        (goes_cons (gkL hst (fun W hW => kS.below hW kS.lt) Tryd.underlying23)
        (goes_cons (gkP (fun _ => .slice A n c))
        (goes_cons (gkK (fun g => #[.agg #[.bool s0, .bool s1, .bool s2, .bool s3, .bool s4, .bool s5, .bool s6, .int .i64 s7, .int .i64 s8, .int .i64 s9], .slice A n c]) hst (fun g W hW hin => HA1.out W (hB8.trans (hW.mono hB8.size))))
        (goes_cons (gkP (fun _ => .slice B m d))
        (goes_cons (gkK (fun g => #[.agg #[.bool r0, .bool r1, .bool r2, .bool r3, .bool r4, .bool r5, .bool r6, .int .i64 r7, .int .i64 r8, .int .i64 r9], .slice B m d]) hst (fun g W hW hin => HA2.out W (hB8.trans (hW.mono hB8.size))))
        (goes_cons (goesK_bin (v := .bool true) (xv := .agg #[.bool n0, .bool n1, .bool n2, .bool n3, .bool n4, .bool n5, .bool n6, .int .i64 n7, .int .i64 n8, .int .i64 n9]) (yv := .agg #[.bool n0, .bool n1, .bool n2, .bool n3, .bool n4, .bool n5, .bool n6, .int .i64 n7, .int .i64 n8, .int .i64 n9]) rfl (by decide) (by decide) (by kernel_rfl) (fun g => by kernel_rfl) rfl (fun g => by kernel_rfl) rfl (fun g => by kernel_rfl) (fun g => by kernel_rfl) (fun w => by go_simp))
        (goes_cons (gkP (fun _ => .bool true))
        (goes_cons (gkP (fun _ => .bool true))
        (goes_cons (gkL hst (fun W hW => kS.below hW kS.lt) Tryd.underlying23)
        (goes_cons (gkK (fun g => #[.agg #[.bool s0, .bool s1, .bool s2, .bool s3, .bool s4, .bool s5, .bool s6, .int .i64 s7, .int .i64 s8, .int .i64 s9]]) hst (fun g W hW hin => HM.out W))
        (goes_cons (gkP (fun _ => .bool false))
        (goes_cons (gkP (fun _ => .bool false))
        (goes_cons (gkL hst (fun W hW => kN.below hW kN.lt) Tryd.underlying23)
        (goes_cons (gkK (fun g => #[.agg #[.bool n0, .bool n1, .bool n2, .bool n3, .bool n4, .bool n5, .bool n6, .int .i64 n7, .int .i64 n8, .int .i64 n9]]) hst (fun g W hW hin => HMN.out rfl W))
        (goes_cons (gkP (fun _ => .bool true))
        (goes_cons (gkP (fun _ => .bool true))
        (goes_cons (gkP (fun _ => .bool true)) goes_nil)))))))))))))))))))) ?_
       intro g W hW _
       have hB9 := hB8.trans (hW.mono hB8.size)
       clear hst
       go_wp2_with fail
       go_ret
       exact ⟨rfl, hB9⟩
     | false =>
       have hst : ∀ f ∈ ([] : List Fact), f.ok := fun _ h => by cases h
       refine wp_region_told (w1 := w8) (K := []) (ix := 1000) (R0 := fun _ _ _ => True) (R1 := fun _ _ _ => True) [] (⟨#[.agg #[.bool s0, .bool s1, .bool s2, .bool s3, .bool s4, .bool s5, .bool s6, .int .i64 s7, .int .i64 s8, .int .i64 s9], .slice A n c, .slice B m d, .pointer (some ⟨w.heap.size, 0, none⟩), undef, undef, .bool true, .bool true, .slice A6 (n + m) c6, .pointer (some ⟨w7.heap.size, 0, none⟩), .bool true, .slice A n c, .bool true, .bool false, .bool false, .slice B m d, .bool true, .bool false, .bool false, undef, .slice (some ⟨w3.heap.size, 0, none⟩) 0 0, .slice A n c, v5, .slice B m d, .slice A6 (n + m) c6, .agg #[.bool s0, .bool s1, .bool s2, .bool s3, .bool s4, .bool s5, .bool s6, .int .i64 s7, .int .i64 s8, .int .i64 s9], .slice A6 (n + m) c6, .agg #[.bool n0, .bool n1, .bool n2, .bool n3, .bool n4, .bool n5, .bool n6, .int .i64 n7, .int .i64 n8, .int .i64 n9], .bool true, .bool true, .agg #[.bool n0, .bool n1, .bool n2, .bool n3, .bool n4, .bool n5, .bool n6, .int .i64 n7, .int .i64 n8, .int .i64 n9], .agg #[.bool s0, .bool s1, .bool s2, .bool s3, .bool s4, .bool s5, .bool s6, .int .i64 s7, .int .i64 s8, .int .i64 s9], .slice A n c, .agg #[.bool r0, .bool r1, .bool r2, .bool r3, .bool r4, .bool r5, .bool r6, .int .i64 r7, .int .i64 r8, .int .i64 r9], .slice B m d, .agg #[.bool n0, .bool n1, .bool n2, .bool n3, .bool n4, .bool n5, .bool n6, .int .i64 n7, .int .i64 n8, .int .i64 n9], .bool true, .bool true, .bool true, .agg #[.bool s0, .bool s1, .bool s2, .bool s3, .bool s4, .bool s5, .bool s6, .int .i64 s7, .int .i64 s8, .int .i64 s9], .bool false, .bool true, .bool true, undef, undef, .bool true, .bool true], []⟩) (fun g => ⟨#[.agg #[.bool s0, .bool s1, .bool s2, .bool s3, .bool s4, .bool s5, .bool s6, .int .i64 s7, .int .i64 s8, .int .i64 s9], .slice A n c, .slice B m d, .pointer (some ⟨w.heap.size, 0, none⟩), undef, undef, .bool true, .bool true, .slice A6 (n + m) c6, .pointer (some ⟨w7.heap.size, 0, none⟩), .bool true, .slice A n c, .bool true, .bool false, .bool false, .slice B m d, .bool true, .bool false, .bool false, undef, .slice (some ⟨w3.heap.size, 0, none⟩) 0 0, .slice A n c, v5, .slice B m d, .slice A6 (n + m) c6, .agg #[.bool s0, .bool s1, .bool s2, .bool s3, .bool s4, .bool s5, .bool s6, .int .i64 s7, .int .i64 s8, .int .i64 s9], .slice A6 (n + m) c6, .agg #[.bool n0, .bool n1, .bool n2, .bool n3, .bool n4, .bool n5, .bool n6, .int .i64 n7, .int .i64 n8, .int .i64 n9], .bool true, .bool true, .agg #[.bool n0, .bool n1, .bool n2, .bool n3, .bool n4, .bool n5, .bool n6, .int .i64 n7, .int .i64 n8, .int .i64 n9], .agg #[.bool s0, .bool s1, .bool s2, .bool s3, .bool s4, .bool s5, .bool s6, .int .i64 s7, .int .i64 s8, .int .i64 s9], .slice A n c, .agg #[.bool r0, .bool r1, .bool r2, .bool r3, .bool r4, .bool r5, .bool r6, .int .i64 r7, .int .i64 r8, .int .i64 r9], .slice B m d, .agg #[.bool n0, .bool n1, .bool n2, .bool n3, .bool n4, .bool n5, .bool n6, .int .i64 n7, .int .i64 n8, .int .i64 n9], .bool true, .bool true, .bool true, .agg #[.bool s0, .bool s1, .bool s2, .bool s3, .bool s4, .bool s5, .bool s6, .int .i64 s7, .int .i64 s8, .int .i64 s9], .bool false, .bool true, .bool true, undef, undef, .bool true, .bool true], []⟩) [.bool true, .bool true, .agg #[.bool n0, .bool n1, .bool n2, .bool n3, .bool n4, .bool n5, .bool n6, .int .i64 n7, .int .i64 n8, .int .i64 n9], .agg #[.bool s0, .bool s1, .bool s2, .bool s3, .bool s4, .bool s5, .bool s6, .int .i64 s7, .int .i64 s8, .int .i64 s9], .slice A n c, .agg #[.bool r0, .bool r1, .bool r2, .bool r3, .bool r4, .bool r5, .bool r6, .int .i64 r7, .int .i64 r8, .int .i64 r9], .slice B m d, .agg #[.bool n0, .bool n1, .bool n2, .bool n3, .bool n4, .bool n5, .bool n6, .int .i64 n7, .int .i64 n8, .int .i64 n9], .bool true, .bool true, .bool true, .agg #[.bool s0, .bool s1, .bool s2, .bool s3, .bool s4, .bool s5, .bool s6, .int .i64 s7, .int .i64 s8, .int .i64 s9], .bool false, .bool true, .bool true, undef, undef, .bool true, .bool true, .bool true] (by kernel_rfl) (by kernel_rfl) (by kernel_rfl) (fun g => by kernel_rfl) (by kernel_rfl) (Below.refl _ _).drew (by decide) (by kernel_rfl)
        (goes_cons (gkP (fun _ => .bool true))
        (goes_cons (gkP (fun _ => .bool true))
        (goes_cons (gkL hst (fun W hW => kN.below hW kN.lt) Tryd.underlying23)
        (goes_cons (gkL hst (fun W hW => kS.below hW kS.lt) Tryd.underlying23)
        (goes_cons (gkP (fun _ => .slice A n c))
        (goes_cons (gkK (fun g => #[.agg #[.bool s0, .bool s1, .bool s2, .bool s3, .bool s4, .bool s5, .bool s6, .int .i64 s7, .int .i64 s8, .int .i64 s9], .slice A n c]) hst (fun g W hW hin => HA1.out W (hB8.trans (hW.mono hB8.size))))
        (goes_cons (gkP (fun _ => .slice B m d))
        (goes_cons (gkK (fun g => #[.agg #[.bool r0, .bool r1, .bool r2, .bool r3, .bool r4, .bool r5, .bool r6, .int .i64 r7, .int .i64 r8, .int .i64 r9], .slice B m d]) hst (fun g W hW hin => HA2.out W (hB8.trans (hW.mono hB8.size))))
        (goes_cons (goesK_bin (v := .bool true) (xv := .agg #[.bool n0, .bool n1, .bool n2, .bool n3, .bool n4, .bool n5, .bool n6, .int .i64 n7, .int .i64 n8, .int .i64 n9]) (yv := .agg #[.bool n0, .bool n1, .bool n2, .bool n3, .bool n4, .bool n5, .bool n6, .int .i64 n7, .int .i64 n8, .int .i64 n9]) rfl (by decide) (by decide) (by kernel_rfl) (fun g => by kernel_rfl) rfl (fun g => by kernel_rfl) rfl (fun g => by kernel_rfl) (fun g => by kernel_rfl) (fun w => by go_simp))
        (goes_cons (gkP (fun _ => .bool true))
        (goes_cons (gkP (fun _ => .bool true))
        (goes_cons (gkL hst (fun W hW => kS.below hW kS.lt) Tryd.underlying23)
        (goes_cons (gkK (fun g => #[.agg #[.bool s0, .bool s1, .bool s2, .bool s3, .bool s4, .bool s5, .bool s6, .int .i64 s7, .int .i64 s8, .int .i64 s9]]) hst (fun g W hW hin => HM.out W))
        (goes_cons (gkP (fun _ => .bool true))
        (goes_cons (gkP (fun _ => .bool true))
        (goes_cons gkO
        (goes_cons gkO
        (goes_cons (gkP (fun _ => .bool true))
        (goes_cons (gkP (fun _ => .bool true))
        (goes_cons (gkP (fun _ => .bool true)) goes_nil)))))))))))))))))))) ?_
       intro g W hW _
       have hB9 := hB8.trans (hW.mono hB8.size)
       clear hst
       go_wp2_with fail
       go_ret
       exact ⟨rfl, hB9⟩
end Go.Proofs.YthcafgningpdnaaDoor
