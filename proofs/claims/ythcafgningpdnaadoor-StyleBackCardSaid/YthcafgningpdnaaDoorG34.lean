/-
  Stage 18's laws, walked: StyleBack.
-/
import Derived.Test.YthcafgningpdnaaDoorG28
namespace Go.Proofs.YthcafgningpdnaaDoor
open Go.RowKit
theorem safe_bool18 (q : Bool) : ∀ w : World, (binOp .eql 4 (.bool q) (.bool q)).run Tryd.prog w = .ok (.bool true) w := fun w => by cases q <;> go_simp
set_option maxRecDepth 100000 in
set_option maxHeartbeats 16000000 in
theorem styleBack_walk (s : Sy) (hs : okSy s) (t : Sy) (ht0 : okSy t) (o : Sy) (_ho : okSy o) (w : World) (ht : Tab w) : Calls Tryd.prog 5 #[syV s, syV t, syV o] w fun e w' => e = .returned (.bool true) ∧ Below w.heap.size w w' := by
 obtain ⟨q1, h1⟩ : ∃ q, mayY s = q := ⟨_, rfl⟩
 obtain ⟨q2, h2⟩ : ∃ q, mayY t = q := ⟨_, rfl⟩
 have HM1 : Hid (∀ W, Calls Tryd.prog 12 #[syV s] W fun e w' => e = .returned (.bool q1) ∧ Below W.heap.size W w') := Lib.hid fun W => smay_any s q1 h1 W
 have HM2 : Hid (∀ W, Calls Tryd.prog 12 #[syV t] W fun e w' => e = .returned (.bool q2) ∧ Below W.heap.size W w') := Lib.hid fun W => smay_any t q2 h2 W
 have HP1 : Hid (∀ W, Calls Tryd.prog 10 #[syV s] W fun e w' => ∃ v, e = .returned v ∧ FLs (parY s) v w' ∧ Below W.heap.size W w') := Lib.hid fun W => sParams_f s hs W
 have HP2 : Hid (∀ W, Calls Tryd.prog 10 #[syV t] W fun e w' => ∃ v, e = .returned v ∧ FLs (parY t) v w' ∧ Below W.heap.size W w') := Lib.hid fun W => sParams_f t ht0 W
 obtain ⟨TA, hTA⟩ : ∃ x, parL (parY s) = x := ⟨_, rfl⟩
 obtain ⟨TB, hTB⟩ : ∃ x, parL (parY t) = x := ⟨_, rfl⟩
 obtain ⟨n1, hn1⟩ : ∃ x, (parY s).length = x := ⟨_, rfl⟩
 obtain ⟨n2, hn2⟩ : ∃ x, (parY t).length = x := ⟨_, rfl⟩
 have HT1 : Hid (∀ (W : World) (A : Option Addr) (c : Nat), Below w.heap.size w W → LsIn W A (parY s) → Calls Tryd.prog 15 #[.slice A n1 c] W fun e w' => e = .returned (.string ⟨TA.toArray⟩) ∧ Below W.heap.size W w') := Lib.hid fun W A c hW hl => by
  have h := sText_par s A c W (ht.below hW) hl
  rw [hTA, hn1] at h
  exact h
 have HT2 : Hid (∀ (W : World) (A : Option Addr) (c : Nat), Below w.heap.size w W → LsIn W A (parY t) → Calls Tryd.prog 15 #[.slice A n2 c] W fun e w' => e = .returned (.string ⟨TB.toArray⟩) ∧ Below W.heap.size W w') := Lib.hid fun W A c hW hl => by
  have h := sText_par t A c W (ht.below hW) hl
  rw [hTB, hn2] at h
  exact h
 have HAP0 : Hid (mayY s = true → ∀ (W : World) (A : Option Addr) (c : Nat), LsIn W A (parY s) → Calls Tryd.prog 18 #[syV o, .slice A (parY s).length c] W fun e w' => e = .returned (syV s) ∧ Below W.heap.size W w') := Lib.hid fun hm W A c hl => by
  have h := sApply_any o A (parY s) _ c rfl (by have := (par_lens s).1; omega) W hl
  rw [sty_back hm o] at h
  exact h
 obtain ⟨r, hr⟩ : ∃ r, decide (s = t) = r := ⟨_, rfl⟩
 have hst0 : r = true ↔ s = t := by rw [← hr]; simp
 have htx : mayY s = true → mayY t = true → (r = true ↔ TA = TB) := fun a b => by rw [hst0, ← hTA, ← hTB]; exact (sty_text a b).symm
 have HSY := Lib.hid fun p q W => sy_eql s t r hst0 p q W
 have HTX := Lib.hid htx
 have HN1 := Lib.hid hn1
 have HN2 := Lib.hid hn2
 have H1 := Lib.hid h1
 have H2 := Lib.hid h2
 have hsimpZ := safe_bool18
 clear hr hst0 htx hTA hTB hn1 hn2 hs ht0 h1 h2
 obtain ⟨s0, s1, s2, s3, s4, s5, s6, s7, s8, s9⟩ := s
 obtain ⟨t0, t1, t2, t3, t4, t5, t6, t7, t8, t9⟩ := t
 obtain ⟨o0, o1, o2, o3, o4, o5, o6, o7, o8, o9⟩ := o
 unfold syV at HM1 HM2 HP1 HP2 HAP0 HSY ⊢
 simp only at HM1 HM2 HP1 HP2 HAP0 HSY ⊢
 have kS := ((Blk.new w 23 #[.bool s0, .bool s1, .bool s2, .bool s3, .bool s4, .bool s5, .bool s6, .int .i64 s7, .int .i64 s8, .int .i64 s9]).alloc (.cells #[.bool t0, .bool t1, .bool t2, .bool t3, .bool t4, .bool t5, .bool t6, .int .i64 t7, .int .i64 t8, .int .i64 t9] 23)).alloc (.cells #[.bool o0, .bool o1, .bool o2, .bool o3, .bool o4, .bool o5, .bool o6, .int .i64 o7, .int .i64 o8, .int .i64 o9] 23)
 have kU := (Blk.new (w.alloc (.cells #[.bool s0, .bool s1, .bool s2, .bool s3, .bool s4, .bool s5, .bool s6, .int .i64 s7, .int .i64 s8, .int .i64 s9] 23)) 23 #[.bool t0, .bool t1, .bool t2, .bool t3, .bool t4, .bool t5, .bool t6, .int .i64 t7, .int .i64 t8, .int .i64 t9]).alloc (.cells #[.bool o0, .bool o1, .bool o2, .bool o3, .bool o4, .bool o5, .bool o6, .int .i64 o7, .int .i64 o8, .int .i64 o9] 23)
 have kO := Blk.new ((w.alloc (.cells #[.bool s0, .bool s1, .bool s2, .bool s3, .bool s4, .bool s5, .bool s6, .int .i64 s7, .int .i64 s8, .int .i64 s9] 23)).alloc (.cells #[.bool t0, .bool t1, .bool t2, .bool t3, .bool t4, .bool t5, .bool t6, .int .i64 t7, .int .i64 t8, .int .i64 t9] 23)) 23 #[.bool o0, .bool o1, .bool o2, .bool o3, .bool o4, .bool o5, .bool o6, .int .i64 o7, .int .i64 o8, .int .i64 o9]
 have hB0 : Below w.heap.size w (((w.alloc (.cells #[.bool s0, .bool s1, .bool s2, .bool s3, .bool s4, .bool s5, .bool s6, .int .i64 s7, .int .i64 s8, .int .i64 s9] 23)).alloc (.cells #[.bool t0, .bool t1, .bool t2, .bool t3, .bool t4, .bool t5, .bool t6, .int .i64 t7, .int .i64 t8, .int .i64 t9] 23)).alloc (.cells #[.bool o0, .bool o1, .bool o2, .bool o3, .bool o4, .bool o5, .bool o6, .int .i64 o7, .int .i64 o8, .int .i64 o9] 23)) := (((Below.refl _ w).alloc (Nat.le_refl _) _).alloc (by simp) _).alloc (by simp; omega) _
 simp only [World.size_alloc] at kU kO
 go_enter Tryd.func5, Tryd.ntmps5
 go_wp2_with fail
 refine (styAwake _ (ht.below hB0)).mono ?_
 rintro e w1 ⟨rfl, hb1⟩
 have hB1 := hB0.trans (hb1.mono hB0.size)
 replace kS := kS.below hb1 kS.lt
 replace kU := kU.below hb1 kU.lt
 replace kO := kO.below hb1 kO.lt
 clear hb1 hB0
 obtain ⟨a0, a1, a2, a3, a4, a5, a6, a7, a8, a9⟩ := Blk.cells10y (s := ⟨s0, s1, s2, s3, s4, s5, s6, s7, s8, s9⟩) kS
 go_wp2_with fail
 refine (HM1.out _).mono ?_
 rintro e w2 ⟨rfl, hb2⟩
 have hB2 := hB1.trans (hb2.mono hB1.size)
 replace kS := kS.below hb2 kS.lt
 replace kU := kU.below hb2 kU.lt
 replace kO := kO.below hb2 kO.lt
 clear hb2 hB1
 clear a0 a1 a2 a3 a4 a5 a6 a7 a8 a9
 cases q1 with
 | false =>
   go_wp2_with fail
   go_ret
   exact ⟨rfl, hB2⟩
 | true =>
   obtain ⟨a0, a1, a2, a3, a4, a5, a6, a7, a8, a9⟩ := Blk.cells10y (s := ⟨t0, t1, t2, t3, t4, t5, t6, t7, t8, t9⟩) kU
   go_wp2_with fail
   refine (HM2.out _).mono ?_
   rintro e w3 ⟨rfl, hb3⟩
   have hB3 := hB2.trans (hb3.mono hB2.size)
   replace kS := kS.below hb3 kS.lt
   replace kU := kU.below hb3 kU.lt
   replace kO := kO.below hb3 kO.lt
   clear hb3 hB2
   clear a0 a1 a2 a3 a4 a5 a6 a7 a8 a9
   cases q2 with
   | false =>
     go_wp2_with fail
     go_ret
     exact ⟨rfl, hB3⟩
   | true =>
     have HAP := Lib.hid (HAP0.out H1.out)
     have HSE := Lib.hid fun p q W => seq_eql TA TB r (HTX.out H1.out H2.out) p q W
     clear HAP0
     obtain ⟨a0, a1, a2, a3, a4, a5, a6, a7, a8, a9⟩ := Blk.cells10y (s := ⟨s0, s1, s2, s3, s4, s5, s6, s7, s8, s9⟩) kS
     go_wp2_with fail
     refine (HP1.out _).mono ?_
     rintro e w4 ⟨v, rfl, ⟨A4, c4, rfl, ls4⟩, hb4⟩
     rw [HN1.out]
     have hB4 := hB3.trans (hb4.mono hB3.size)
     replace kS := kS.below hb4 kS.lt
     replace kU := kU.below hb4 kU.lt
     replace kO := kO.below hb4 kO.lt
     clear hb4 hB3
     clear a0 a1 a2 a3 a4 a5 a6 a7 a8 a9
     go_wp2_with fail
     refine (HT1.out _ A4 c4 hB4 ls4).mono ?_
     rintro e w5 ⟨rfl, hb5⟩
     have hB5 := hB4.trans (hb5.mono hB4.size)
     replace kS := kS.below hb5 kS.lt
     replace kU := kU.below hb5 kU.lt
     replace kO := kO.below hb5 kO.lt
     clear hb5 hB4 ls4
     obtain ⟨a0, a1, a2, a3, a4, a5, a6, a7, a8, a9⟩ := Blk.cells10y (s := ⟨t0, t1, t2, t3, t4, t5, t6, t7, t8, t9⟩) kU
     go_wp2_with fail
     refine (HP2.out _).mono ?_
     rintro e w6 ⟨v, rfl, ⟨A6, c6, rfl, ls6⟩, hb6⟩
     rw [HN2.out]
     have hB6 := hB5.trans (hb6.mono hB5.size)
     replace kS := kS.below hb6 kS.lt
     replace kU := kU.below hb6 kU.lt
     replace kO := kO.below hb6 kO.lt
     clear hb6 hB5
     clear a0 a1 a2 a3 a4 a5 a6 a7 a8 a9
     go_wp2_with fail
     refine (HT2.out _ A6 c6 hB6 ls6).mono ?_
     rintro e w7 ⟨rfl, hb7⟩
     have hB7 := hB6.trans (hb7.mono hB6.size)
     replace kS := kS.below hb7 kS.lt
     replace kU := kU.below hb7 kU.lt
     replace kO := kO.below hb7 kO.lt
     clear hb7 hB6 ls6
     have hst : ∀ f ∈ ([⟨4, 30, FLs (parY ⟨s0, s1, s2, s3, s4, s5, s6, s7, s8, s9⟩)⟩] : List Fact), f.ok := List.forall_mem_cons.2 ⟨fls_ok _ _ _, fun _ h => by cases h⟩
     go_upto_region 6 with (fail)
     refine wp_region_told (w1 := w7) (K := [⟨4, 30, FLs (parY ⟨s0, s1, s2, s3, s4, s5, s6, s7, s8, s9⟩)⟩]) (ix := 1000) (R0 := fun _ _ _ => True) (R1 := fun _ _ _ => True) [30] (⟨#[.agg #[.bool s0, .bool s1, .bool s2, .bool s3, .bool s4, .bool s5, .bool s6, .int .i64 s7, .int .i64 s8, .int .i64 s9], .agg #[.bool t0, .bool t1, .bool t2, .bool t3, .bool t4, .bool t5, .bool t6, .int .i64 t7, .int .i64 t8, .int .i64 t9], .agg #[.bool o0, .bool o1, .bool o2, .bool o3, .bool o4, .bool o5, .bool o6, .int .i64 o7, .int .i64 o8, .int .i64 o9], .pointer (some ⟨w.heap.size, 0, none⟩), .pointer (some ⟨(w.heap.size + 1), 0, none⟩), .pointer (some ⟨(w.heap.size + 2), 0, none⟩), .bool true, .bool true, .string ⟨TA.toArray⟩, .string ⟨TB.toArray⟩, .bool true, .agg #[.bool s0, .bool s1, .bool s2, .bool s3, .bool s4, .bool s5, .bool s6, .int .i64 s7, .int .i64 s8, .int .i64 s9], .bool true, .bool false, .bool false, .agg #[.bool t0, .bool t1, .bool t2, .bool t3, .bool t4, .bool t5, .bool t6, .int .i64 t7, .int .i64 t8, .int .i64 t9], .bool true, .bool false, .bool false, undef, .agg #[.bool s0, .bool s1, .bool s2, .bool s3, .bool s4, .bool s5, .bool s6, .int .i64 s7, .int .i64 s8, .int .i64 s9], .slice A4 n1 c4, .string ⟨TA.toArray⟩, .agg #[.bool t0, .bool t1, .bool t2, .bool t3, .bool t4, .bool t5, .bool t6, .int .i64 t7, .int .i64 t8, .int .i64 t9], .slice A6 n2 c6, .string ⟨TB.toArray⟩, .bool true, .bool true, .agg #[.bool o0, .bool o1, .bool o2, .bool o3, .bool o4, .bool o5, .bool o6, .int .i64 o7, .int .i64 o8, .int .i64 o9], .agg #[.bool s0, .bool s1, .bool s2, .bool s3, .bool s4, .bool s5, .bool s6, .int .i64 s7, .int .i64 s8, .int .i64 s9], undef, .agg #[.bool s0, .bool s1, .bool s2, .bool s3, .bool s4, .bool s5, .bool s6, .int .i64 s7, .int .i64 s8, .int .i64 s9], .agg #[.bool s0, .bool s1, .bool s2, .bool s3, .bool s4, .bool s5, .bool s6, .int .i64 s7, .int .i64 s8, .int .i64 s9], .bool true, .bool true, .bool true, .string ⟨TA.toArray⟩, .string ⟨TB.toArray⟩, .bool r, .agg #[.bool s0, .bool s1, .bool s2, .bool s3, .bool s4, .bool s5, .bool s6, .int .i64 s7, .int .i64 s8, .int .i64 s9], .agg #[.bool t0, .bool t1, .bool t2, .bool t3, .bool t4, .bool t5, .bool t6, .int .i64 t7, .int .i64 t8, .int .i64 t9], .bool r, .bool true, .bool true], []⟩) (fun g => ⟨#[.agg #[.bool s0, .bool s1, .bool s2, .bool s3, .bool s4, .bool s5, .bool s6, .int .i64 s7, .int .i64 s8, .int .i64 s9], .agg #[.bool t0, .bool t1, .bool t2, .bool t3, .bool t4, .bool t5, .bool t6, .int .i64 t7, .int .i64 t8, .int .i64 t9], .agg #[.bool o0, .bool o1, .bool o2, .bool o3, .bool o4, .bool o5, .bool o6, .int .i64 o7, .int .i64 o8, .int .i64 o9], .pointer (some ⟨w.heap.size, 0, none⟩), .pointer (some ⟨(w.heap.size + 1), 0, none⟩), .pointer (some ⟨(w.heap.size + 2), 0, none⟩), .bool true, .bool true, .string ⟨TA.toArray⟩, .string ⟨TB.toArray⟩, .bool true, .agg #[.bool s0, .bool s1, .bool s2, .bool s3, .bool s4, .bool s5, .bool s6, .int .i64 s7, .int .i64 s8, .int .i64 s9], .bool true, .bool false, .bool false, .agg #[.bool t0, .bool t1, .bool t2, .bool t3, .bool t4, .bool t5, .bool t6, .int .i64 t7, .int .i64 t8, .int .i64 t9], .bool true, .bool false, .bool false, undef, .agg #[.bool s0, .bool s1, .bool s2, .bool s3, .bool s4, .bool s5, .bool s6, .int .i64 s7, .int .i64 s8, .int .i64 s9], .slice A4 n1 c4, .string ⟨TA.toArray⟩, .agg #[.bool t0, .bool t1, .bool t2, .bool t3, .bool t4, .bool t5, .bool t6, .int .i64 t7, .int .i64 t8, .int .i64 t9], .slice A6 n2 c6, .string ⟨TB.toArray⟩, .bool true, .bool true, .agg #[.bool o0, .bool o1, .bool o2, .bool o3, .bool o4, .bool o5, .bool o6, .int .i64 o7, .int .i64 o8, .int .i64 o9], .agg #[.bool s0, .bool s1, .bool s2, .bool s3, .bool s4, .bool s5, .bool s6, .int .i64 s7, .int .i64 s8, .int .i64 s9], (g 30), .agg #[.bool s0, .bool s1, .bool s2, .bool s3, .bool s4, .bool s5, .bool s6, .int .i64 s7, .int .i64 s8, .int .i64 s9], .agg #[.bool s0, .bool s1, .bool s2, .bool s3, .bool s4, .bool s5, .bool s6, .int .i64 s7, .int .i64 s8, .int .i64 s9], .bool true, .bool true, .bool true, .string ⟨TA.toArray⟩, .string ⟨TB.toArray⟩, .bool r, .agg #[.bool s0, .bool s1, .bool s2, .bool s3, .bool s4, .bool s5, .bool s6, .int .i64 s7, .int .i64 s8, .int .i64 s9], .agg #[.bool t0, .bool t1, .bool t2, .bool t3, .bool t4, .bool t5, .bool t6, .int .i64 t7, .int .i64 t8, .int .i64 t9], .bool r, .bool true, .bool true], []⟩) [.bool true, .bool true, .agg #[.bool o0, .bool o1, .bool o2, .bool o3, .bool o4, .bool o5, .bool o6, .int .i64 o7, .int .i64 o8, .int .i64 o9], .agg #[.bool s0, .bool s1, .bool s2, .bool s3, .bool s4, .bool s5, .bool s6, .int .i64 s7, .int .i64 s8, .int .i64 s9], undef, .agg #[.bool s0, .bool s1, .bool s2, .bool s3, .bool s4, .bool s5, .bool s6, .int .i64 s7, .int .i64 s8, .int .i64 s9], .agg #[.bool s0, .bool s1, .bool s2, .bool s3, .bool s4, .bool s5, .bool s6, .int .i64 s7, .int .i64 s8, .int .i64 s9], .bool true, .bool true, .bool true, .string ⟨TA.toArray⟩, .string ⟨TB.toArray⟩, .bool r, .agg #[.bool s0, .bool s1, .bool s2, .bool s3, .bool s4, .bool s5, .bool s6, .int .i64 s7, .int .i64 s8, .int .i64 s9], .agg #[.bool t0, .bool t1, .bool t2, .bool t3, .bool t4, .bool t5, .bool t6, .int .i64 t7, .int .i64 t8, .int .i64 t9], .bool r, .bool true, .bool true, .bool true] (by kernel_rfl) (by kernel_rfl) (by kernel_rfl) (fun g => by kernel_rfl) (by kernel_rfl) (Below.refl _ _).drew (by decide) (by kernel_rfl)
      (goes_cons (gkP (fun _ => .bool true))
      (goes_cons (gkP (fun _ => .bool true))
      (goes_cons (gkL hst (fun W hW => kO.below hW kO.lt) Tryd.underlying23)
      (goes_cons (gkL hst (fun W hW => kS.below hW kS.lt) Tryd.underlying23)
      (goes_cons (gkG (fun g => #[.agg #[.bool s0, .bool s1, .bool s2, .bool s3, .bool s4, .bool s5, .bool s6, .int .i64 s7, .int .i64 s8, .int .i64 s9]]) hst 0 (fun g W hW hin => HP1.out W))
      (goes_cons (gkK (fun g => #[.agg #[.bool o0, .bool o1, .bool o2, .bool o3, .bool o4, .bool o5, .bool o6, .int .i64 o7, .int .i64 o8, .int .i64 o9], (g 30)]) hst (fun g W hW hin => (by obtain ⟨A, c, hv, hl⟩ := hin 0 _ rfl (by kernel_rfl); simp only at hv; have h := HAP.out W A c hl; rw [← hv] at h; exact h)))
      (goes_cons (gkL hst (fun W hW => kS.below hW kS.lt) Tryd.underlying23)
      (goes_cons (goesK_bin (v := .bool true) (xv := .agg #[.bool s0, .bool s1, .bool s2, .bool s3, .bool s4, .bool s5, .bool s6, .int .i64 s7, .int .i64 s8, .int .i64 s9]) (yv := .agg #[.bool s0, .bool s1, .bool s2, .bool s3, .bool s4, .bool s5, .bool s6, .int .i64 s7, .int .i64 s8, .int .i64 s9]) rfl (by decide) (by decide) (by kernel_rfl) (fun g => by kernel_rfl) rfl (fun g => by kernel_rfl) rfl (fun g => by kernel_rfl) (fun g => by kernel_rfl) (fun w => by go_simp))
      (goes_cons (gkP (fun _ => .bool true))
      (goes_cons (gkP (fun _ => .bool true))
      (goes_cons (gkP (fun _ => .string ⟨TA.toArray⟩))
      (goes_cons (gkP (fun _ => .string ⟨TB.toArray⟩))
      (goes_cons (gkB (.bool r) (.string ⟨TA.toArray⟩) (.string ⟨TB.toArray⟩) (HSE.out _ _))
      (goes_cons (gkL hst (fun W hW => kS.below hW kS.lt) Tryd.underlying23)
      (goes_cons (gkL hst (fun W hW => kU.below hW kU.lt) Tryd.underlying23)
      (goes_cons (gkB (.bool r) (.agg #[.bool s0, .bool s1, .bool s2, .bool s3, .bool s4, .bool s5, .bool s6, .int .i64 s7, .int .i64 s8, .int .i64 s9]) (.agg #[.bool t0, .bool t1, .bool t2, .bool t3, .bool t4, .bool t5, .bool t6, .int .i64 t7, .int .i64 t8, .int .i64 t9]) (HSY.out _ _))
      (goes_cons (goesK_bin (v := .bool true) (xv := .bool r) (yv := .bool r) rfl (by decide) (by decide) (by kernel_rfl) (fun g => by kernel_rfl) rfl (fun g => by kernel_rfl) rfl (fun g => by kernel_rfl) (fun g => by kernel_rfl) (hsimpZ r))
      (goes_cons (gkP (fun _ => .bool true))
      (goes_cons (gkP (fun _ => .bool true)) goes_nil))))))))))))))))))) ?_
     intro g W hW _
     have hB9 := hB7.trans (hW.mono hB7.size)
     generalize g 30 = v30
     clear hst
     go_wp2_with fail
     go_ret
     exact ⟨rfl, hB9⟩
end Go.Proofs.YthcafgningpdnaaDoor
