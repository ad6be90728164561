/-
  Stage 18's laws, walked: StyleApplies.
-/
import Derived.Test.YthcafgningpdnaaDoorG38
import Derived.Test.YthcafgningpdnaaDoorG40
namespace Go.Proofs.YthcafgningpdnaaDoor
open Go.RowKit
theorem partl_len18 : ∀ (p : List Int), (∀ n ∈ p, n ≤ 9223372036854775807) → (partL p).length ≤ 22 * p.length
 | [], _ => by simp [partL]
 | [n], h => by
   have := textL_length n (h n (by simp))
   simp only [partL, List.length_singleton]
   omega
 | n :: m :: p, h => by
   have h1 := textL_length n (h n (by simp))
   have h2 := partl_len18 (m :: p) (fun x hx => h x (List.mem_cons_of_mem _ hx))
   simp only [partL, List.length_append, List.length_cons] at h2 ⊢
   omega
theorem parl_len18 : ∀ (l : List (List Int)), (∀ p ∈ l, p.length ≤ 20 ∧ ∀ n ∈ p, n ≤ 9223372036854775807) → (parL l).length ≤ 441 * l.length
 | [], _ => by simp [parL]
 | [p], h => by
   have := partl_len18 p (h p (by simp)).2
   have := (h p (by simp)).1
   simp only [parL, List.length_singleton]
   omega
 | p :: q :: l, h => by
   have h1 := partl_len18 p (h p (by simp)).2
   have h0 := (h p (by simp)).1
   have h2 := parl_len18 (q :: l) (fun x hx => h x (List.mem_cons_of_mem _ hx))
   simp only [parL, List.length_append, List.length_cons] at h2 ⊢
   omega
set_option maxRecDepth 100000 in
set_option maxHeartbeats 16000000 in
theorem styleApplies_walk (s : Sy) (_hs : okSy s) (A : Option Addr) (l : List (List Int)) (c : Nat) (_hl : l.length ≤ maxLen) (_hlp : ∀ p ∈ l, p.length ≤ maxLen) (w : World) (hA : LsIn w A l) (ht : Tab w) : Calls Tryd.prog 4 #[syV s, .slice A l.length c] w fun e w' => e = .returned (.bool true) ∧ Below w.heap.size w w' := by
 obtain ⟨n, hn⟩ : ∃ n, l.length = n := ⟨_, rfl⟩
 rw [hn]
 obtain ⟨r, hr⟩ : ∃ r, applyY s l = r := ⟨_, rfl⟩
 obtain ⟨TX, hTX⟩ : ∃ r, parL l = r := ⟨_, rfl⟩
 have HF1 : Hid (∀ W, Below w.heap.size w W → Calls Tryd.prog 17 #[.slice A n c] W (FewE l W)) := Lib.hid fun W hW => few18_any A l n c hn W (hA.below hW)
 have HA1 : Hid (n ≤ 40 → ∀ W, Below w.heap.size w W → Calls Tryd.prog 18 #[syV s, .slice A n c] W fun e w' => e = .returned (syV r) ∧ Below W.heap.size W w') := Lib.hid fun h W hW => by rw [← hr]; exact sApply_any s A l n c hn (by omega) W (hA.below hW)
 have HA2 : Hid (n ≤ 40 → ∀ W, Below w.heap.size w W → Calls Tryd.prog 19 #[syV s, .slice A n c] W fun e w' => e = .returned (syV r) ∧ Below W.heap.size W w') := Lib.hid fun h W hW => by rw [← hr]; exact rApply18_any s A l n c hn (by omega) W (hA.below hW)
 have HT1 : Hid (n ≤ 40 → (∀ p ∈ l, p.length ≤ 20) → ∀ W, Below w.heap.size w W → Calls Tryd.prog 15 #[.slice A n c] W fun e w' => e = .returned (.string ⟨TX.toArray⟩) ∧ Below W.heap.size W w') := Lib.hid fun h hp W hW => by
  rw [← hTX]
  have hi : ∀ p ∈ l, ∀ n ∈ p, n ≤ 9223372036854775807 := fun p hpp n hn => (hA.nr p hpp n hn).2
  have h1 := parl_len18 l (fun p hpp => ⟨hp p hpp, hi p hpp⟩)
  exact sText_any A l n c hn (by omega) (fun p hpp => ⟨by have := hp p hpp; omega, by have := partl_len18 p (hi p hpp); have := hp p hpp; omega⟩) (by omega) W (ht.below hW) (hA.below hW)
 have HT2 : Hid (n ≤ 40 → (∀ p ∈ l, p.length ≤ 20) → ∀ W, Below w.heap.size w W → Calls Tryd.prog 16 #[.slice A n c] W fun e w' => e = .returned (.string ⟨TX.toArray⟩) ∧ Below W.heap.size W w') := Lib.hid fun h hp W hW => by
  rw [← hTX]
  exact rText18_any A l n c hn (by omega) (fun p hpp => by have := hp p hpp; omega) W (hA.below hW)
 have HN := Lib.hid hn
 clear hr hTX hn
 obtain ⟨s0, s1, s2, s3, s4, s5, s6, s7, s8, s9⟩ := s
 obtain ⟨r0, r1, r2, r3, r4, r5, r6, r7, r8, r9⟩ := r
 unfold syV at HA1 HA2 ⊢
 simp only at HA1 HA2 ⊢
 have k0 := Blk.new w 23 #[.bool s0, .bool s1, .bool s2, .bool s3, .bool s4, .bool s5, .bool s6, .int .i64 s7, .int .i64 s8, .int .i64 s9]
 have hB0 : Below w.heap.size w (w.alloc (.cells #[.bool s0, .bool s1, .bool s2, .bool s3, .bool s4, .bool s5, .bool s6, .int .i64 s7, .int .i64 s8, .int .i64 s9] 23)) := (Below.refl _ w).alloc (Nat.le_refl _) _
 go_enter Tryd.func4, Tryd.ntmps4
 go_wp2_with fail
 refine (styAwake _ (ht.below hB0)).mono ?_
 rintro e w1 ⟨rfl, hb1⟩
 have hB1 := hB0.trans (hb1.mono hB0.size)
 have kS := k0.below hb1 k0.lt
 clear hb1 hB0 k0
 go_wp2_with fail
 refine (HF1.out _ hB1).mono ?_
 rintro e w2 ⟨q1, rfl, hq1, hb2⟩
 have hB2 := hB1.trans (hb2.mono hB1.size)
 replace kS := kS.below hb2 kS.lt
 clear hb2 hB1 HF1
 cases q1 with
 | false =>
   go_wp2_with fail
   go_ret
   exact ⟨rfl, hB2⟩
 | true =>
   have hn40 : n ≤ 40 := by have := (hq1 rfl).1; have := HN.out; omega
   have hp20 := (hq1 rfl).2
   replace HA1 := Lib.hid (HA1.out hn40)
   replace HA2 := Lib.hid (HA2.out hn40)
   replace HT1 := Lib.hid (HT1.out hn40 hp20)
   replace HT2 := Lib.hid (HT2.out hn40 hp20)
   clear hq1 hp20 hA
   have hst : ∀ f ∈ ([] : List Fact), f.ok := fun _ h => by cases h
   go_upto_region 4 with (fail)
   refine wp_region_told (w1 := w2) (K := []) (ix := 1000) (R0 := fun _ _ _ => True) (R1 := fun _ _ _ => True) [] (⟨#[.agg #[.bool s0, .bool s1, .bool s2, .bool s3, .bool s4, .bool s5, .bool s6, .int .i64 s7, .int .i64 s8, .int .i64 s9], .slice A n c, .pointer (some ⟨w.heap.size, 0, none⟩), undef, .bool true, .bool true, .bool true, .slice A n c, .bool true, .bool false, undef, .bool true, .bool true, .agg #[.bool s0, .bool s1, .bool s2, .bool s3, .bool s4, .bool s5, .bool s6, .int .i64 s7, .int .i64 s8, .int .i64 s9], .slice A n c, .agg #[.bool r0, .bool r1, .bool r2, .bool r3, .bool r4, .bool r5, .bool r6, .int .i64 r7, .int .i64 r8, .int .i64 r9], .agg #[.bool s0, .bool s1, .bool s2, .bool s3, .bool s4, .bool s5, .bool s6, .int .i64 s7, .int .i64 s8, .int .i64 s9], .slice A n c, .agg #[.bool r0, .bool r1, .bool r2, .bool r3, .bool r4, .bool r5, .bool r6, .int .i64 r7, .int .i64 r8, .int .i64 r9], .bool true, .bool true, .bool true, .slice A n c, .string ⟨TX.toArray⟩, .slice A n c, .string ⟨TX.toArray⟩, .bool true, .bool true], []⟩) (fun g => ⟨#[.agg #[.bool s0, .bool s1, .bool s2, .bool s3, .bool s4, .bool s5, .bool s6, .int .i64 s7, .int .i64 s8, .int .i64 s9], .slice A n c, .pointer (some ⟨w.heap.size, 0, none⟩), undef, .bool true, .bool true, .bool true, .slice A n c, .bool true, .bool false, undef, .bool true, .bool true, .agg #[.bool s0, .bool s1, .bool s2, .bool s3, .bool s4, .bool s5, .bool s6, .int .i64 s7, .int .i64 s8, .int .i64 s9], .slice A n c, .agg #[.bool r0, .bool r1, .bool r2, .bool r3, .bool r4, .bool r5, .bool r6, .int .i64 r7, .int .i64 r8, .int .i64 r9], .agg #[.bool s0, .bool s1, .bool s2, .bool s3, .bool s4, .bool s5, .bool s6, .int .i64 s7, .int .i64 s8, .int .i64 s9], .slice A n c, .agg #[.bool r0, .bool r1, .bool r2, .bool r3, .bool r4, .bool r5, .bool r6, .int .i64 r7, .int .i64 r8, .int .i64 r9], .bool true, .bool true, .bool true, .slice A n c, .string ⟨TX.toArray⟩, .slice A n c, .string ⟨TX.toArray⟩, .bool true, .bool true], []⟩) [.bool true, .bool true, .agg #[.bool s0, .bool s1, .bool s2, .bool s3, .bool s4, .bool s5, .bool s6, .int .i64 s7, .int .i64 s8, .int .i64 s9], .slice A n c, .agg #[.bool r0, .bool r1, .bool r2, .bool r3, .bool r4, .bool r5, .bool r6, .int .i64 r7, .int .i64 r8, .int .i64 r9], .agg #[.bool s0, .bool s1, .bool s2, .bool s3, .bool s4, .bool s5, .bool s6, .int .i64 s7, .int .i64 s8, .int .i64 s9], .slice A n c, .agg #[.bool r0, .bool r1, .bool r2, .bool r3, .bool r4, .bool r5, .bool r6, .int .i64 r7, .int .i64 r8, .int .i64 r9], .bool true, .bool true, .bool true, .slice A n c, .string ⟨TX.toArray⟩, .slice A n c, .string ⟨TX.toArray⟩, .bool true, .bool true, .bool true] (by kernel_rfl) (by kernel_rfl) (by kernel_rfl) (fun g => by kernel_rfl) (by kernel_rfl) (Below.refl _ _).drew (by decide) (by kernel_rfl)
    (goes_cons (gkP (fun _ => .bool true))
    (goes_cons (gkP (fun _ => .bool true))
    (goes_cons (gkL hst (fun W hW => kS.below hW kS.lt) Tryd.underlying23)
    (goes_cons (gkP (fun _ => .slice A n c))
    (goes_cons (gkK (fun g => #[.agg #[.bool s0, .bool s1, .bool s2, .bool s3, .bool s4, .bool s5, .bool s6, .int .i64 s7, .int .i64 s8, .int .i64 s9], .slice A n c]) hst (fun g W hW hin => HA1.out W (hB2.trans (hW.mono hB2.size))))
    (goes_cons (gkL hst (fun W hW => kS.below hW kS.lt) Tryd.underlying23)
    (goes_cons (gkP (fun _ => .slice A n c))
    (goes_cons (gkK (fun g => #[.agg #[.bool s0, .bool s1, .bool s2, .bool s3, .bool s4, .bool s5, .bool s6, .int .i64 s7, .int .i64 s8, .int .i64 s9], .slice A n c]) hst (fun g W hW hin => HA2.out W (hB2.trans (hW.mono hB2.size))))
    (goes_cons (goesK_bin (v := .bool true) (xv := .agg #[.bool r0, .bool r1, .bool r2, .bool r3, .bool r4, .bool r5, .bool r6, .int .i64 r7, .int .i64 r8, .int .i64 r9]) (yv := .agg #[.bool r0, .bool r1, .bool r2, .bool r3, .bool r4, .bool r5, .bool r6, .int .i64 r7, .int .i64 r8, .int .i64 r9]) rfl (by decide) (by decide) (by kernel_rfl) (fun g => by kernel_rfl) rfl (fun g => by kernel_rfl) rfl (fun g => by kernel_rfl) (fun g => by kernel_rfl) (fun w => by go_simp))
    (goes_cons (gkP (fun _ => .bool true))
    (goes_cons (gkP (fun _ => .bool true))
    (goes_cons (gkP (fun _ => .slice A n c))
    (goes_cons (gkK (fun g => #[.slice A n c]) hst (fun g W hW hin => HT1.out W (hB2.trans (hW.mono hB2.size))))
    (goes_cons (gkP (fun _ => .slice A n c))
    (goes_cons (gkK (fun g => #[.slice A n c]) hst (fun g W hW hin => HT2.out W (hB2.trans (hW.mono hB2.size))))
    (goes_cons (goesK_bin (v := .bool true) (xv := .string ⟨TX.toArray⟩) (yv := .string ⟨TX.toArray⟩) rfl (by decide) (by decide) (by kernel_rfl) (fun g => by kernel_rfl) rfl (fun g => by kernel_rfl) rfl (fun g => by kernel_rfl) (fun g => by kernel_rfl) (fun w => by go_simp))
    (goes_cons (gkP (fun _ => .bool true))
    (goes_cons (gkP (fun _ => .bool true)) goes_nil)))))))))))))))))) ?_
   intro g W hW _
   have hB9 := hB2.trans (hW.mono hB2.size)
   clear hst
   go_wp2_with fail
   go_ret
   exact ⟨rfl, hB9⟩
end Go.Proofs.YthcafgningpdnaaDoor
