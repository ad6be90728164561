/-
  Stage 18's laws, walked: StylePlain.
-/
import Derived.Test.YthcafgningpdnaaDoorG29
import Derived.Test.YthcafgningpdnaaDoorG30
namespace Go.Proofs.YthcafgningpdnaaDoor
open Go.RowKit
theorem sgr_may {l : List (List Int)} (h : parOk l = true ∨ l = []) : mayS ⟨1, 0, l, [], 109, []⟩ = 0 := by
 have hp : parOk l = true := by
  rcases h with h | h
  ·exact h
  ·subst h; decide
 have h2 : btw 64 126 109 = true := by decide
 have ho : okS ⟨1, 0, l, [], 109, []⟩ = true := by
  unfold okS
  simp [privOk, lastOk, bareOk, hp, h2]
 unfold mayS
 rw [if_neg (by simp), if_pos ho]
theorem ls_lit (w : World) (p : List Int) (k : Nat) (hk : p.length = k) (hin : ∀ n ∈ p, in18 n) : LsIn ((w.alloc (.cells (is_ p).toArray 3)).alloc (.cells #[.slice (some ⟨w.heap.size, 0, none⟩) k k] 35)) (some ⟨w.heap.size + 1, 0, none⟩) [p] := by
 subst hk
 have hr : Rd (w.alloc (.cells (is_ p).toArray 3)) (some ⟨w.heap.size, 0, none⟩) (is_ p) := Rd.block (heap_alloc_new w _) (by simp)
 refine ⟨fun _ => ⟨w.heap.size + 1, 0, rfl, by simp, fun k hk => ?_⟩, fun q hq => ?_⟩
 ·have : k = 0 := by simpa using hk
  subst this
  refine ⟨_, _, Nat.le_refl _, ?_, hr.alloc _⟩
  have := Rd.block (heap_alloc_new (w.alloc (.cells (is_ p).toArray 3)) (.cells #[Value.slice (some ⟨w.heap.size, 0, none⟩) p.length p.length] 35)) (xs := [Value.slice (some ⟨w.heap.size, 0, none⟩) p.length p.length]) (by simp)
  obtain ⟨b, o, e, _, hc⟩ := this (by simp)
  rw [World.size_alloc] at e
  injection e with e
  injection e with e1 e2
  subst e1 e2
  exact hc 0 _ rfl
 ·rw [List.mem_singleton.1 hq]
  exact hin
set_option maxRecDepth 100000 in
set_option maxHeartbeats 16000000 in
theorem stylePlain_walk (s : Sy) (hs : okSy s) (A : Option Addr) (l : List (List Int)) (c : Nat) (_hl : l.length ≤ maxLen) (_hlp : ∀ p ∈ l, p.length ≤ maxLen) (w : World) (hA : LsIn w A l) (ht : Tab w) : Calls Tryd.prog 7 #[syV s, .slice A l.length c] w fun e w' => e = .returned (.bool true) ∧ Below w.heap.size w w' := by
 obtain ⟨n, hn⟩ : ∃ n, l.length = n := ⟨_, rfl⟩
 rw [hn]
 obtain ⟨r, hr⟩ : ∃ r, applyY s l = r := ⟨_, rfl⟩
 obtain ⟨q, hq⟩ : ∃ q, mayY s = q := ⟨_, rfl⟩
 obtain ⟨m, hm⟩ : ∃ m, (parY s).length = m := ⟨_, rfl⟩
 have hmq : decide (0 < m) = q := by
  rw [← hm, ← hq]
  cases h : mayY s with
  | true => exact decide_eq_true (List.length_pos_iff.2 (spar_ok h).2)
  | false => rw [show parY s = [] from if_neg (by rw [h]; decide)]; rfl
 have hmay : mayS ⟨1, 0, parY s, [], 109, []⟩ = 0 := sgr_may (by
  cases h : mayY s with
  | true => exact .inl (spar_ok h).1
  | false => exact .inr (if_neg (by rw [h]; decide)))
 have HMS : Hid (∀ (W : World) (C : Option Addr) (f : Nat), LsIn W C (parY s) → Calls Tryd.prog 20 #[.agg #[.int .i64 1, .int .u8 0, .slice C m f, .string ⟨#[]⟩, .int .u8 109, .string ⟨#[]⟩]] W fun e w' => e = .returned (.int .i64 0) ∧ Below W.heap.size W w') := Lib.hid fun W C f hl => by
  have h := may_any ⟨1, 0, parY s, [], 109, []⟩ C f 0 W hmay (by show (parY s).length ≤ _; have := (par_lens s).1; omega) (by simp) hl.rd.rdp
  unfold sqV at h
  simp only [hm] at h
  exact h
 have HM : Hid (∀ W, Calls Tryd.prog 12 #[syV s] W fun e w' => e = .returned (.bool q) ∧ Below W.heap.size W w') := Lib.hid fun W => smay_any s q hq W
 have HP : Hid (∀ W, Calls Tryd.prog 10 #[syV s] W fun e w' => ∃ C f, e = .returned (.slice C m f) ∧ LsIn w' C (parY s) ∧ Below W.heap.size W w') := Lib.hid fun W => by
  refine (sParams_f s hs W).mono ?_
  rintro e w' ⟨v, rfl, ⟨C, f, rfl, hl⟩, hb⟩
  exact ⟨C, f, by rw [hm], hl, hb⟩
 have HPU : Hid (∀ W, Calls Tryd.prog 10 #[.agg #[.bool false, .bool false, .bool false, .bool false, .bool false, .bool false, .bool false, .int .i64 0, .int .i64 (-1), .int .i64 (-1)]] W fun e w' => ∃ C f, e = .returned (.slice C 1 f) ∧ LsIn w' C [[0]] ∧ Below W.heap.size W w') := Lib.hid fun W => by
  refine (sParams_f usualY ⟨⟨by decide, by decide⟩, ⟨by decide, by decide⟩, ⟨by decide, by decide⟩⟩ W).mono ?_
  rintro e w' ⟨v, rfl, ⟨C, f, rfl, hl⟩, hb⟩
  rw [par_usual] at hl ⊢
  exact ⟨C, f, rfl, hl, hb⟩
 have HTU : Hid (∀ (W : World) (C : Option Addr) (f : Nat), Below w.heap.size w W → LsIn W C [[0]] → Calls Tryd.prog 15 #[.slice C 1 f] W fun e w' => e = .returned (.string ⟨#[48]⟩) ∧ Below W.heap.size W w') := Lib.hid fun W C f hW hl => by
  have hp0 : parL [[0]] = [48] := by decide +kernel
  have h := sText_any C [[0]] 1 f rfl (by decide) (fun p hp => by rw [List.mem_singleton.1 hp]; exact ⟨by decide, by decide +kernel⟩) (by rw [hp0]; decide) W (ht.below hW) hl
  rw [hp0] at h
  exact h
 have HF1 : Hid (∀ W, Below w.heap.size w W → Calls Tryd.prog 17 #[.slice A n c] W (FewE l W)) := Lib.hid fun W hW => few18_any A l n c hn W (hA.below hW)
 have HA1 : Hid (n ≤ 40 → ∀ W, Below w.heap.size w W → Calls Tryd.prog 18 #[syV s, .slice A n c] W fun e w' => e = .returned (syV r) ∧ Below W.heap.size W w') := Lib.hid fun h W hW => by rw [← hr]; exact sApply_any s A l n c hn (by omega) W (hA.below hW)
 have HA2 : Hid (∀ (W : World) (C : Option Addr), LsIn W C [[0]] → Calls Tryd.prog 18 #[syV r, .slice C 1 1] W fun e w' => e = .returned (.agg #[.bool false, .bool false, .bool false, .bool false, .bool false, .bool false, .bool false, .int .i64 0, .int .i64 (-1), .int .i64 (-1)]) ∧ Below W.heap.size W w') := Lib.hid fun W C hl => sApply_any r C [[0]] 1 1 rfl (by decide) W hl
 have HN := Lib.hid hn
 clear hr hq hmay hs hn hm
 obtain ⟨s0, s1, s2, s3, s4, s5, s6, s7, s8, s9⟩ := s
 obtain ⟨r0, r1, r2, r3, r4, r5, r6, r7, r8, r9⟩ := r
 unfold syV at HM HP HA1 HA2 ⊢
 simp only at HM HP HA1 HA2 ⊢
 have k0 := Blk.new w 23 #[.bool s0, .bool s1, .bool s2, .bool s3, .bool s4, .bool s5, .bool s6, .int .i64 s7, .int .i64 s8, .int .i64 s9]
 have hB0 : Below w.heap.size w (w.alloc (.cells #[.bool s0, .bool s1, .bool s2, .bool s3, .bool s4, .bool s5, .bool s6, .int .i64 s7, .int .i64 s8, .int .i64 s9] 23)) := (Below.refl _ w).alloc (Nat.le_refl _) _
 go_enter Tryd.func7, Tryd.ntmps7
 go_wp2_with fail
 refine (styAwake _ (ht.below hB0)).mono ?_
 rintro e w1 ⟨rfl, hb1⟩
 have hB1 := hB0.trans (hb1.mono hB0.size)
 have kS := k0.below hb1 k0.lt
 clear hb1 hB0 k0
 go_wp2_with fail
 refine (HF1.out _ hB1).mono ?_
 rintro e w2 ⟨q1, rfl, hq1, hb2⟩
 have hB2 := hB1.trans (hb2.mono hB1.size)
 replace kS := kS.below hb2 kS.lt
 clear hb2 hB1 HF1
 cases q1 with
 | false =>
   go_wp2_with fail
   go_ret
   exact ⟨rfl, hB2⟩
 | true =>
   have hn40 : n ≤ 40 := by have := (hq1 rfl).1; have := HN.out; omega
   clear hq1
   have HA1 := Lib.hid (HA1.out hn40)
   have kU := Blk.new w2 23 #[.bool false, .bool false, .bool false, .bool false, .bool false, .bool false, .bool false, .int .i64 0, .int .i64 (-1), .int .i64 (-1)]
   replace kS := kS.alloc (.cells #[.bool false, .bool false, .bool false, .bool false, .bool false, .bool false, .bool false, .int .i64 0, .int .i64 (-1), .int .i64 (-1)] 23)
   have hB3 := hB2.alloc hB2.size (.cells #[.bool false, .bool false, .bool false, .bool false, .bool false, .bool false, .bool false, .int .i64 0, .int .i64 (-1), .int .i64 (-1)] 23)
   obtain ⟨a0, a1, a2, a3, a4, a5, a6, a7, a8, a9⟩ := Blk.cells10y (s := ⟨s0, s1, s2, s3, s4, s5, s6, s7, s8, s9⟩) kS
   go_wp2_with fail
   refine (HA1.out _ hB3).mono ?_
   rintro e w4 ⟨rfl, hb4⟩
   have hB4 := hB3.trans (hb4.mono hB3.size)
   replace kS := kS.below hb4 kS.lt
   replace kU := kU.below hb4 kU.lt
   have ls4 := ls_lit w4 [0] 1 rfl (fun n hn => by rw [List.mem_singleton.1 hn]; exact ⟨by decide, by decide⟩)
   have hB5 := (hB4.alloc hB4.size (.cells #[.int .i64 0] 3)).alloc (hB4.alloc hB4.size (.cells #[.int .i64 0] 3)).size (.cells #[.slice (some ⟨w4.heap.size, 0, none⟩) 1 1] 35)
   replace kS := (kS.alloc (.cells #[.int .i64 0] 3)).alloc (.cells #[.slice (some ⟨w4.heap.size, 0, none⟩) 1 1] 35)
   replace kU := (kU.alloc (.cells #[.int .i64 0] 3)).alloc (.cells #[.slice (some ⟨w4.heap.size, 0, none⟩) 1 1] 35)
   clear a0 a1 a2 a3 a4 a5 a6 a7 a8 a9 hb4 hB3 hB2 hB4
   go_wp2_with fail
   refine (HA2.out _ _ ls4).mono ?_
   rintro e w6 ⟨rfl, hb6⟩
   have hB6 := hB5.trans (hb6.mono hB5.size)
   have kE := Blk.new w6 23 #[.bool false, .bool false, .bool false, .bool false, .bool false, .bool false, .bool false, .int .i64 0, .int .i64 (-1), .int .i64 (-1)]
   replace kS := (kS.below hb6 kS.lt).alloc (.cells #[.bool false, .bool false, .bool false, .bool false, .bool false, .bool false, .bool false, .int .i64 0, .int .i64 (-1), .int .i64 (-1)] 23)
   replace kU := (kU.below hb6 kU.lt).alloc (.cells #[.bool false, .bool false, .bool false, .bool false, .bool false, .bool false, .bool false, .int .i64 0, .int .i64 (-1), .int .i64 (-1)] 23)
   have hB7 := hB6.alloc hB6.size (.cells #[.bool false, .bool false, .bool false, .bool false, .bool false, .bool false, .bool false, .int .i64 0, .int .i64 (-1), .int .i64 (-1)] 23)
   clear hb6 hB6 hB5 ls4
   go_upto_region 6 with (fail)
   obtain ⟨w7, hw7⟩ : ∃ w7, w6.alloc (.cells #[.bool false, .bool false, .bool false, .bool false, .bool false, .bool false, .bool false, .int .i64 0, .int .i64 (-1), .int .i64 (-1)] 23) = w7 := ⟨_, rfl⟩
   rw [hw7] at kS kU kE hB7 ⊢
   clear hw7
   obtain ⟨a0, a1, a2, a3, a4, a5, a6, a7, a8, a9⟩ := Blk.cells10y (s := ⟨s0, s1, s2, s3, s4, s5, s6, s7, s8, s9⟩) kS
   go_wp2_with fail
   refine (HP.out _).mono ?_
   rintro e w8 ⟨C8, f8, rfl, ls8, hb8⟩
   have hB8 := hB7.trans (hb8.mono hB7.size)
   replace kS := kS.below hb8 kS.lt
   replace kU := kU.below hb8 kU.lt
   replace kE := kE.below hb8 kE.lt
   clear a0 a1 a2 a3 a4 a5 a6 a7 a8 a9 hb8 hB7
   have kQ := Blk.new w8 37 #[.int .i64 1, .int .u8 0, .slice C8 m f8, .string ⟨#[]⟩, .int .u8 109, .string ⟨#[]⟩]
   replace kS := kS.alloc (.cells #[.int .i64 1, .int .u8 0, .slice C8 m f8, .string ⟨#[]⟩, .int .u8 109, .string ⟨#[]⟩] 37)
   replace kU := kU.alloc (.cells #[.int .i64 1, .int .u8 0, .slice C8 m f8, .string ⟨#[]⟩, .int .u8 109, .string ⟨#[]⟩] 37)
   replace kE := kE.alloc (.cells #[.int .i64 1, .int .u8 0, .slice C8 m f8, .string ⟨#[]⟩, .int .u8 109, .string ⟨#[]⟩] 37)
   replace ls8 : LsIn _ C8 _ := ls8.below ((Below.refl w8.heap.size w8).alloc (Nat.le_refl _) (.cells #[.int .i64 1, .int .u8 0, .slice C8 m f8, .string ⟨#[]⟩, .int .u8 109, .string ⟨#[]⟩] 37))
   have hB9 := hB8.alloc hB8.size (.cells #[.int .i64 1, .int .u8 0, .slice C8 m f8, .string ⟨#[]⟩, .int .u8 109, .string ⟨#[]⟩] 37)
   go_upto_region 8 with (fail)
   obtain ⟨w9, hw9⟩ : ∃ w9, w8.alloc (.cells #[.int .i64 1, .int .u8 0, .slice C8 m f8, .string ⟨#[]⟩, .int .u8 109, .string ⟨#[]⟩] 37) = w9 := ⟨_, rfl⟩
   rw [hw9] at kS kU kE kQ ls8 hB9 ⊢
   clear hw9 hB8
   obtain ⟨a0, a1, a2, a3, a4, a5, a6, a7, a8, a9⟩ := Blk.cells10y (s := usualY) kU
   obtain ⟨b0, b1, b2, b3, b4, b5, b6, b7, b8, b9⟩ := Blk.cells10y (s := usualY) kE
   unfold usualY at a0 a1 a2 a3 a4 a5 a6 a7 a8 a9 b0 b1 b2 b3 b4 b5 b6 b7 b8 b9
   simp only at a0 a1 a2 a3 a4 a5 a6 a7 a8 a9 b0 b1 b2 b3 b4 b5 b6 b7 b8 b9
   go_wp2_with fail
   refine (HPU.out _).mono ?_
   rintro e w10 ⟨C10, f10, rfl, ls10, hb10⟩
   have hB10 := hB9.trans (hb10.mono hB9.size)
   replace kS := kS.below hb10 kS.lt
   replace kQ := kQ.below hb10 kQ.lt
   replace ls8 := ls8.below hb10
   clear a0 a1 a2 a3 a4 a5 a6 a7 a8 a9 b0 b1 b2 b3 b4 b5 b6 b7 b8 b9 kU kE hb10 hB9
   go_wp2_with fail
   refine (HTU.out _ C10 f10 hB10 ls10).mono ?_
   rintro e w11 ⟨rfl, hb11⟩
   have hB11 := hB10.trans (hb11.mono hB10.size)
   replace kS := kS.below hb11 kS.lt
   replace kQ := kQ.below hb11 kQ.lt
   replace ls8 := ls8.below hb11
   clear hb11 hB10 ls10
   obtain ⟨c0, c1, c2, c3, c4, c5⟩ := Blk.cells6 kQ
   go_wp2_with fail
   refine (HMS.out _ C8 f8 ls8).mono ?_
   rintro e w12 ⟨rfl, hb12⟩
   have hB12 := hB11.trans (hb12.mono hB11.size)
   replace kS := kS.below hb12 kS.lt
   clear c0 c1 c2 c3 c4 c5 kQ hb12 hB11 ls8
   obtain ⟨a0, a1, a2, a3, a4, a5, a6, a7, a8, a9⟩ := Blk.cells10y (s := ⟨s0, s1, s2, s3, s4, s5, s6, s7, s8, s9⟩) kS
   go_wp2_with fail
   refine (HM.out _).mono ?_
   rintro e w13 ⟨rfl, hb13⟩
   have hB13 := hB12.trans (hb13.mono hB12.size)
   clear a0 a1 a2 a3 a4 a5 a6 a7 a8 a9 kS hb13 hB12
   subst hmq
   have hdm : decide ((0 : Int) < (m : Int)) = decide (0 < m) := decide_eq_decide.2 (by omega)
   by_cases h0 : 0 < m
   ·have h0' : (0 : Int) < (m : Int) := by omega
    go_wp2_with fail
    go_ret
    exact ⟨ret_b (by simp), hB13⟩
   ·have h0' : ¬ ((0 : Int) < (m : Int)) := by omega
    go_wp2_with fail
    go_ret
    exact ⟨ret_b (by simp), hB13⟩
end Go.Proofs.YthcafgningpdnaaDoor
