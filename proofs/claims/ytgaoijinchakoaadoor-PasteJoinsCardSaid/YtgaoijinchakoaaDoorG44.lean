/-
  Stage 17's laws, walked: PasteJoins.
-/
import Derived.Test.YtgaoijinchakoaaDoorG43
import Derived.Deep.RegionHeld3
namespace Go.Proofs.YtgaoijinchakoaaDoor
open Go.RowKit
theorem cat_str17 {L M : List UInt8} (h : L.length + M.length ≤ 9223372036854775807) (W : World) : (binOp .add 9 (.string ⟨L.toArray⟩) (.string ⟨M.toArray⟩)).run Tryd.prog W = .ok (.string ⟨(L ++ M).toArray⟩) W := by
 have hsum : (⟨L.toArray⟩ : ByteArray).size + (⟨M.toArray⟩ : ByteArray).size ≤ 9223372036854775807 := h
 simp only [binOp, run_string_add_sum (P := Tryd.prog) W _ _ hsum, ByteArray.mk_append_mk]
set_option maxRecDepth 100000 in
set_option maxHeartbeats 16000000 in
theorem pasteJoins_walk (A : Option Addr) (l : List UInt8) (c : Nat) (hlc : l.length ≤ c) (za : l.length ≤ 140737488351232) (B : Option Addr) (j : List UInt8) (d : Nat) (hjd : j.length ≤ d) (zb : j.length ≤ 140737488351232) (w : World) (hr : Rd w A (bs l)) (hs : Rd w B (bs j)) (hi : Siz w ∧ Tab w) : Calls Tryd.prog 7 #[.slice A l.length c, .slice B j.length d] w fun e w' => e = .returned (.bool true) ∧ Below w.heap.size w w' := by
 obtain ⟨n, hn⟩ : ∃ n, l.length = n := ⟨_, rfl⟩
 obtain ⟨m, hm⟩ : ∃ n, j.length = n := ⟨_, rfl⟩
 rw [hn] at hlc za ⊢
 rw [hm] at hjd zb ⊢
 obtain ⟨i0, hi0, hz0, hz1, hz2⟩ : ∃ i, Tryd.prog.info? 5 = some i ∧ i.zero = some (.int .u8 0) ∧ i.size = 1 ∧ i.bytes = 1 := ⟨_, rfl, rfl, rfl, rfl⟩
 have HT : Hid (∀ W, Below w.heap.size w W → Tab W) := Lib.hid fun W hW => hi.2.below hW
 have HS : Hid (∀ W, Below w.heap.size w W → Siz W) := Lib.hid fun W hW => hi.1.below' hW
 by_cases h : 200 < n + m
 ·have h2 : (200 : Int) < (n : Int) + (m : Int) := by omega
  have hw : IntKind.i64.wrap ((n : Int) + (m : Int)) = (n : Int) + (m : Int) := by rw [IntKind.wrap_i64]; omega
  go_enter Tryd.func7, Tryd.ntmps7
  go_wp2_with fail
  refine (pasAwake _ hi.2 hi.1).mono ?_
  rintro e w1 ⟨rfl, hb1⟩
  go_wp2_with fail
  go_ret
  exact ⟨rfl, hb1⟩
 have h2 : ¬ ((200 : Int) < (n : Int) + (m : Int)) := by omega
 have hw : IntKind.i64.wrap ((n : Int) + (m : Int)) = (n : Int) + (m : Int) := by rw [IntKind.wrap_i64]; omega
 obtain ⟨L1, hL1⟩ : ∃ L, clnL l = L := ⟨_, rfl⟩
 obtain ⟨L2, hL2⟩ : ∃ L, clnL j = L := ⟨_, rfl⟩
 obtain ⟨S1, hS1⟩ : ∃ S, sendP true l = S := ⟨_, rfl⟩
 obtain ⟨S2, hS2⟩ : ∃ S, sendP true j = S := ⟨_, rfl⟩
 have hjoin := cln_join l j
 have hp2 := send_pos j
 have hback := paste_back l S2
 have hback2 := paste_back j []
 have hsl1 := send_le l
 have hsl2 := send_le j
 have hl1 := clnL_le l
 have hl2 := clnL_le j
 rw [hL1, hL2] at hjoin
 rw [hS1, hL1] at hback
 rw [hS2, hL2, List.append_nil] at hback2
 rw [hS1] at hsl1
 rw [hS2] at hsl2 hp2
 rw [hL1] at hl1
 rw [hL2] at hl2
 obtain ⟨k1, hk1⟩ : ∃ k, S1.length = k := ⟨_, rfl⟩
 obtain ⟨k2, hk2⟩ : ∃ k, S2.length = k := ⟨_, rfl⟩
 obtain ⟨x1, hx1⟩ : ∃ k, L1.length = k := ⟨_, rfl⟩
 obtain ⟨x2, hx2⟩ : ∃ k, L2.length = k := ⟨_, rfl⟩
 rw [hk1] at hback hsl1
 rw [hk2] at hback2 hsl2 hp2
 rw [hx1] at hl1
 rw [hx2] at hl2
 have HP : Hid (∀ W, Below w.heap.size w W → Calls Tryd.prog 12 #[.agg #[.bool false, .bool false, .bool false, .bool false, .bool true, .bool false, .bool false, .int .i64 0, .int .i64 0, .int .i64 0], .slice A n c] W (OutP S1 k1 W)) := Lib.hid fun W hW => passend_any ⟨false, false, false, false, true, false, false, 0, 0, 0⟩ A n c l hn W (HS.out W hW) (HT.out W hW) (by omega) hlc (hr.below hW) S1 k1 hS1 hk1
 have HQ : Hid (∀ W, Below w.heap.size w W → Calls Tryd.prog 12 #[.agg #[.bool false, .bool false, .bool false, .bool false, .bool true, .bool false, .bool false, .int .i64 0, .int .i64 0, .int .i64 0], .slice B m d] W (OutP S2 k2 W)) := Lib.hid fun W hW => passend_any ⟨false, false, false, false, true, false, false, 0, 0, 0⟩ B m d j hm W (HS.out W hW) (HT.out W hW) (by omega) hjd (hs.below hW) S2 k2 hS2 hk2
 have HC1 : Hid (∀ W, Below w.heap.size w W → Calls Tryd.prog 10 #[.slice A n c] W (OutP L1 x1 W)) := Lib.hid fun W hW => by rw [← hx1, ← hL1]; exact pclean_any A n c l hn W (HS.out W hW) (by omega) hlc (hr.below hW)
 have HC2 : Hid (∀ W, Below w.heap.size w W → Calls Tryd.prog 10 #[.slice B m d] W (OutP L2 x2 W)) := Lib.hid fun W hW => by rw [← hx2, ← hL2]; exact pclean_any B m d j hm W (HS.out W hW) (by omega) hjd (hs.below hW)
 have HCB : Hid (∀ (W : World) (C : Option Addr) (f : Nat), Below w.heap.size w W → x1 + x2 ≤ f → Rd W C (bs (L1 ++ L2)) → Calls Tryd.prog 10 #[.slice C (x1 + x2) f] W (OutP (L1 ++ L2) (L1 ++ L2).length W)) := Lib.hid fun W C f hW hf hr => by
  have := pclean_any C (x1 + x2) f (L1 ++ L2) (by rw [List.length_append]; omega) W (HS.out W hW) (by omega) hf hr
  rw [hjoin] at this
  exact this
 have HT1 : Hid (∀ (C : Option Addr) (f : Nat) (W : World), Below w.heap.size w W → k1 + k2 ≤ f → Rd W C (bs (S1 ++ S2)) → Calls Tryd.prog 16 #[.slice C (k1 + k2) f] W fun y w' => ∃ D f', y = .returned (.tuple #[.slice D x1 f', .int .i64 (k1 : Nat), .bool true]) ∧ Rd w' D (bs L1) ∧ Below W.heap.size W w') := Lib.hid fun C f W hW hf hr => by
  refine (pastake_any C (k1 + k2) f (S1 ++ S2) (by rw [List.length_append]; omega) W (HS.out W hW) (HT.out W hW) (by omega) (by omega) hr).mono ?_
  rintro y w' ⟨D, f', rfl, ho, hb⟩
  rw [hback] at ho ⊢
  simp only [hx1] at ho ⊢
  exact ⟨D, f', rfl, ho.rd, hb⟩
 have HT2 : Hid (∀ (C : Option Addr) (f : Nat) (W : World), Below w.heap.size w W → k2 ≤ f → Rd W C (bs S2) → Calls Tryd.prog 16 #[.slice C k2 f] W fun y w' => ∃ D f', y = .returned (.tuple #[.slice D x2 f', .int .i64 (k2 : Nat), .bool true]) ∧ Rd w' D (bs L2) ∧ Below W.heap.size W w') := Lib.hid fun C f W hW hf hr => by
  refine (pastake_any C k2 f S2 hk2 W (HS.out W hW) (HT.out W hW) (by omega) (by omega) hr).mono ?_
  rintro y w' ⟨D, f', rfl, ho, hb⟩
  rw [hback2] at ho ⊢
  simp only [hx2] at ho ⊢
  exact ⟨D, f', rfl, ho.rd, hb⟩
 have HK1 := Lib.hid hk1
 have HK2 := Lib.hid hk2
 have HX1 := Lib.hid hx1
 have HX2 := Lib.hid hx2
 have H12 : Hid ((L1 ++ L2).length = x1 + x2) := Lib.hid (by rw [List.length_append, hx1, hx2])
 have HB1 : Hid (0 + k1 + k2 ≤ 1000 ∧ 0 + x1 + x2 ≤ 1000 ∧ 0 < k2) := Lib.hid (by omega)
 have hsimpC := cat_str17 (L := L1) (M := L2) (by rw [hx1, hx2]; omega)
 have hsimpS : ∀ W : World, (binOp .add 3 (.int .i64 (k1 : Int)) (.int .i64 (k2 : Int))).run Tryd.prog W = .ok (.int .i64 ((k1 : Int) + (k2 : Int))) W := fun W => by
  have : IntKind.i64.wrap ((k1 : Int) + (k2 : Int)) = (k1 : Int) + (k2 : Int) := by rw [IntKind.wrap_i64]; omega
  go_simp
 have hsimpE : ∀ W : World, (binOp .eql 3 (.int .i64 ((k1 : Int) + (k2 : Int))) (.int .i64 ((k1 + k2 : Nat) : Int))).run Tryd.prog W = .ok (.bool true) W := fun W => by
  go_simp
 clear hL1 hL2 hS1 hS2 hjoin hback hback2 hsl1 hsl2 hl1 hl2 hp2 hn hm hk1 hk2 hx1 hx2 h hr hs hlc hjd
 go_enter Tryd.func7, Tryd.ntmps7
 go_wp2_with fail
 refine (pasAwake _ hi.2 hi.1).mono ?_
 rintro e w1 ⟨rfl, hb1⟩
 go_upto_region 5 with (fail)
 have kE := Blk.new w1 23 #[.bool false, .bool false, .bool false, .bool false, .bool true, .bool false, .bool false, .int .i64 0, .int .i64 0, .int .i64 0]
 have hBE := hb1.alloc hb1.size (.cells #[.bool false, .bool false, .bool false, .bool false, .bool true, .bool false, .bool false, .int .i64 0, .int .i64 0, .int .i64 0] 23)
 obtain ⟨wE, hwE⟩ : ∃ wE, w1.alloc (.cells #[.bool false, .bool false, .bool false, .bool false, .bool true, .bool false, .bool false, .int .i64 0, .int .i64 0, .int .i64 0] 23) = wE := ⟨_, rfl⟩
 rw [hwE] at kE hBE ⊢
 clear hwE
 have HM : Hid (∀ W, Below wE.heap.size wE W → Blk W w1.heap.size 23 #[.bool false, .bool false, .bool false, .bool false, .bool true, .bool false, .bool false, .int .i64 0, .int .i64 0, .int .i64 0]) := Lib.hid fun W hW => kE.below hW kE.lt
 have hownE : Own (wE.drew.alloc (.cells #[] 5)) wE.heap.size 5 1 (.slice (some ⟨wE.drew.heap.size, 0, none⟩) 0 0) 0 [] := Own.of (World.ownsRow_made wE.drew #[] 0 (Nat.le_refl _) (by decide) rfl)
 have HE := Lib.hid hownE
 have hBd : Below wE.heap.size wE wE.drew := (Below.refl _ _).drew
 have hBa : Below wE.heap.size wE (wE.drew.alloc (.cells #[] 5)) := hBd.alloc (Nat.le_refl _) _
 clear hownE kE hb1
 go_region_held3 (fun W => W.cell? ⟨w1.heap.size, 0, none⟩ = some (.bool false) ∧ W.cell? ⟨w1.heap.size, 1, none⟩ = some (.bool false) ∧ W.cell? ⟨w1.heap.size, 2, none⟩ = some (.bool false) ∧ W.cell? ⟨w1.heap.size, 3, none⟩ = some (.bool false) ∧ W.cell? ⟨w1.heap.size, 4, none⟩ = some (.bool true) ∧ W.cell? ⟨w1.heap.size, 5, none⟩ = some (.bool false) ∧ W.cell? ⟨w1.heap.size, 6, none⟩ = some (.bool false) ∧ W.cell? ⟨w1.heap.size, 7, none⟩ = some (.int .i64 0) ∧ W.cell? ⟨w1.heap.size, 8, none⟩ = some (.int .i64 0) ∧ W.cell? ⟨w1.heap.size, 9, none⟩ = some (.int .i64 0))
  (first
    | exact Blk.cells10 (HM.out _ hBd)
    | exact Blk.cells10 (HM.out _ hBa)
    | exact Blk.cells10 (HM.out _ hb9)
    | exact Blk.cells10 (HM.out _ hb8)
    | exact Blk.cells10 (HM.out _ hb7)
    | exact Blk.cells10 (HM.out _ hb6)
    | exact Blk.cells10 (HM.out _ (hb6.alloc hb6.size _)))
  (first
    | ((fail_if_success have := own6); go_at_call 12; refine (HP.out (wE.drew.alloc (.cells #[] 5)) (hBE.trans (hBa.mono hBE.size))).mono ?_; rintro y w6 ⟨A6, c6, rfl, own6, hq6⟩
       have hb6 := hBa.trans (hq6.mono hBa.size)
       have ownE6 := HE.out.below hq6 (fun j hj => (HE.out.lt j hj).2)
       have hr6 := own6.rd
       clear hq6)
    | ((fail_if_success have := own6); go_at_call 12; refine (HP.out wE.drew (hBE.trans (hBd.mono hBE.size))).mono ?_; rintro y w6 ⟨A6, c6, rfl, own6, hq6⟩
       have hb6 := hBd.trans (hq6.mono hBd.size)
       have hr6 := own6.rd
       clear hq6)
    | (go_at_call 12; refine (HQ.out w7 (hBE.trans (hb7.mono hBE.size))).mono ?_; rintro y w8 ⟨A8, c8, rfl, own8, hq8⟩
       have hb8 := hb7.trans (hq8.mono hb7.size)
       have own78 := own7.below hq8 (fun j hj => (own7.lt j hj).2)
       have hr8 := own8.rd
       clear hq8)
    | (refine step_app _ rfl (.tmp 24) (.tmp 27) 24 rfl wE.heap.size 5 i0 _ 1 1 Tryd.underlying24 hi0 hz0 hz1 hz2 rfl Nat.one_pos (.slice (some ⟨wE.drew.heap.size, 0, none⟩) 0 0) 0 [] (by simp [Act.eval]) ownE6 A6 k1 c6 (bs S1) (by simp [Act.eval]) (by rw [bs_length, HK1.out, Nat.mul_one]) hr6 (bs_one S1) (by have := HB1.out; simp only [maxLen]; omega) (by have := HB1.out; omega) hb6.size ?_; intro v7 w7 own7 hg7
       have hb7 := hb6.grown hg7 hb6.size (fun j hj => (ownE6.lt j hj).1)
       obtain ⟨v24, hv24⟩ : ∃ v, v = Value.slice (some ⟨wE.heap.size, 0, none⟩) 0 0 := ⟨_, rfl⟩
       clear hg7)
    | (refine step_app _ rfl (.tmp 24) (.tmp 27) 24 rfl wE.heap.size 5 i0 _ 1 1 Tryd.underlying24 hi0 hz0 hz1 hz2 rfl Nat.one_pos (.slice (some ⟨w6.heap.size, 0, none⟩) 0 0) 0 [] (by simp [Act.eval]) (Own.of (World.ownsRow_made w6 #[] 0 hb6.size (by decide) rfl)) A6 k1 c6 (bs S1) (by simp [Act.eval]) (by rw [bs_length, HK1.out, Nat.mul_one]) (hr6.alloc _) (bs_one S1) (by have := HB1.out; simp only [maxLen]; omega) (by have := HB1.out; omega) (by rw [World.size_alloc]; exact Nat.le_succ_of_le hb6.size) ?_; intro v7 w7 own7 hg7
       have hb7 := (hb6.alloc hb6.size (.cells #[] 5)).grown hg7 (hb6.alloc hb6.size _).size (fun j hj => by have h0 : some w6.heap.size = some j := hj; injection h0 with h0; have := hb6.size; omega)
       obtain ⟨v24, hv24⟩ : ∃ v, v = Value.slice (some ⟨w6.heap.size, 0, none⟩) 0 0 := ⟨_, rfl⟩
       clear hg7)
    | (refine step_app _ rfl (.tmp 28) (.tmp 31) 24 rfl wE.heap.size 5 i0 _ 1 1 Tryd.underlying24 hi0 hz0 hz1 hz2 rfl Nat.one_pos v7 _ _ (by simp [Act.eval]) own78 A8 k2 c8 (bs S2) (by simp [Act.eval]) (by rw [bs_length, HK2.out, Nat.mul_one]) hr8 (bs_one S2) (by have := HB1.out; simp only [maxLen]; omega) (by have := HB1.out; omega) hb8.size ?_; intro v9 w9 own9 hg9
       have hb9 := hb8.grown hg9 hb8.size (fun j hj => (own78.lt j hj).1)
       obtain ⟨A9, c9, rfl, _⟩ := own9.form
       clear hg9))
 all_goals
  have r9 : Rd w9 A9 (bs (S1 ++ S2)) := by rw [bs_append]; simpa using own9.rd
  have hc9 : k1 + k2 ≤ c9 := by have := own9.cap.1; omega
  have hB9 : Below w.heap.size w w9 := hBE.trans (hb9.mono hBE.size)
  obtain ⟨A11, hcut, hrd⟩ := cutl_run (P := Tryd.prog) (T := 24) (e := 5) rfl Tryd.underlying24 (fun w => rfl) A9 (k1 + k2) c9 k1 (by omega) hc9
  rw [show k1 + k2 - k1 = k2 from by omega] at hcut
  have r11 : Rd w9 A11 (bs S2) := by
   have := (hrd (fun _ => False) w9 (bs (S1 ++ S2)) (by rw [bs_length, List.length_append, HK1.out, HK2.out]) (RdOff.of_rdIn (RdIn.of r9) (Nat.le_refl _) (fun k hk => hk.elim))).rd
   rw [bs_append, ← HK1.out, ← bs_length S1, List.drop_left] at this
   exact this
  try clear ownE6
  rw [← hv24]
  clear hv24
  clear HE HM hBE hBd hBa own6 own7 own78 own8 own9 hb6 hb7 hb8 hb9 hr6 hr8 hrd HP HQ
  go_wp2_with fail
  refine (HT1.out A9 c9 _ hB9 hc9 r9).mono ?_
  rintro y w10 ⟨A10, c10, rfl, r10, hb10⟩
  have hB10 : Below w.heap.size w w10 := hB9.trans (hb10.mono hB9.size)
  replace r11 := r11.below hb10
  clear hB9 hb10 r9 HT1
  go_wp2_with fail
  refine (HT2.out A11 (c9 - k1) _ hB10 (by omega) r11).mono ?_
  rintro y w12 ⟨A12, c12, rfl, r12, hb12⟩
  have hB12 : Below w.heap.size w w12 := hB10.trans (hb12.mono hB10.size)
  replace r10 := r10.below hb12
  clear hB10 hb12 r11 HT2 hcut
  have hmk : Own (w12.alloc (.cells #[] 5)) w12.heap.size 5 1 (.slice (some ⟨w12.heap.size, 0, none⟩) 0 0) 0 [] := Own.of (World.ownsRow_made w12 #[] 0 (Nat.le_refl _) (by decide) rfl)
  have qk : Below w12.heap.size w12 (w12.alloc (.cells #[] 5)) := (Below.refl _ _).alloc (Nat.le_refl _) _
  go_wp2_with fail
  refine (HC1.out _ (hB12.trans (qk.mono hB12.size))).mono ?_
  rintro y w13 ⟨A13, c13, rfl, ho13, hb13⟩
  have q13 := qk.trans (hb13.mono qk.size)
  replace hmk := hmk.below hb13 (fun j hj => (hmk.lt j hj).2)
  have r13 := ho13.rd
  have sz13 := q13.size
  clear ho13 hb13 qk
  go_wp2_with (first
   | (at_builtin; refine list_app _ rfl (.tmp 47) (.tmp 49) 24 rfl w12.heap.size 5 i0 _ 1 1 Tryd.underlying24 hi0 hz0 hz1 hz2 rfl Nat.one_pos (.slice (some ⟨w12.heap.size, 0, none⟩) 0 0) 0 [] rfl hmk A13 x1 c13 (bs L1) rfl (by rw [bs_length, HX1.out, Nat.mul_one]) r13 (bs_one _) (by have := HB1.out; simp only [maxLen]; omega) (by have := HB1.out; omega) sz13 ?_; intro v14 w14 ho14 hg14
      have q14 := q13.grown hg14 sz13 (fun j hj => (hmk.lt j hj).1)))
  refine (HC2.out _ (hB12.trans (q14.mono hB12.size))).mono ?_
  rintro y w15 ⟨A15, c15, rfl, ho15, hb15⟩
  have q15 := q14.trans (hb15.mono q14.size)
  replace ho14 := ho14.below hb15 (fun j hj => (ho14.lt j hj).2)
  have r15 := ho15.rd
  have sz15 := q15.size
  clear ho15 hb15 q14 q13 hmk hg14 r13 sz13 HC1 HC2
  go_wp2_with (first
   | (at_builtin; refine list_app _ rfl (.tmp 50) (.tmp 52) 24 rfl w12.heap.size 5 i0 _ 1 1 Tryd.underlying24 hi0 hz0 hz1 hz2 rfl Nat.one_pos v14 _ _ rfl ho14 A15 x2 c15 (bs L2) rfl (by rw [bs_length, HX2.out, Nat.mul_one]) r15 (bs_one _) (by have := HB1.out; simp only [maxLen]; omega) (by have := HB1.out; omega) sz15 ?_; intro v16 w16 ho16 hg16
      have q16 := q15.grown hg16 sz15 (fun j hj => (ho14.lt j hj).1)
      obtain ⟨A16, c16, rfl, _⟩ := ho16.form))
  have r16 : Rd w16 A16 (bs (L1 ++ L2)) := by rw [bs_append]; simpa using ho16.rd
  have hc16 : x1 + x2 ≤ c16 := by have := ho16.cap.1; omega
  have hB16 : Below w.heap.size w w16 := hB12.trans (q16.mono hB12.size)
  replace r10 := r10.below q16
  replace r12 := r12.below q16
  clear ho14 ho16 hg16 q15 q16 r15 sz15 hB12 HT HS
  have hst : ∀ f ∈ ([⟨27, 81, FB (L1 ++ L2)⟩] : List Fact), f.ok := List.forall_mem_cons.2 ⟨fb_ok _ _ _, fun _ h => by cases h⟩
  refine wp_region_told (w1 := w16) (K := [⟨27, 81, FB (L1 ++ L2)⟩]) (ix := 1000) (R0 := fun _ _ _ => True) (R1 := fun _ _ _ => True) [81] (⟨#[.slice A n c, .slice B m d, undef, undef, .bool true, .bool true, .pointer (some ⟨w1.heap.size, 0, none⟩), .slice A9 (k1 + k2) c9, .slice A10 x1 c10, .int .i64 (k1 : Int), .bool true, .slice A12 x2 c12, .int .i64 (k2 : Int), .bool true, .slice A16 (x1 + x2) c16, .bool true, .slice A n c, .int .i64 (n : Int), .slice B m d, .int .i64 (m : Int), .int .i64 ((n : Int) + (m : Int)), .bool (decide ((200 : Int) < (n : Int) + (m : Int))), undef, .agg #[.bool false, .bool false, .bool false, .bool false, .bool true, .bool false, .bool false, .int .i64 0, .int .i64 0, .int .i64 0], v24, .agg #[.bool false, .bool false, .bool false, .bool false, .bool true, .bool false, .bool false, .int .i64 0, .int .i64 0, .int .i64 0], .slice A n c, .slice A6 k1 c6, v7, .agg #[.bool false, .bool false, .bool false, .bool false, .bool true, .bool false, .bool false, .int .i64 0, .int .i64 0, .int .i64 0], .slice B m d, .slice A8 k2 c8, .slice A9 (k1 + k2) c9, .tuple #[.slice A10 x1 c10, .int .i64 (k1 : Int), .bool true], .slice A9 (k1 + k2) c9, .tuple #[.slice A10 x1 c10, .int .i64 (k1 : Int), .bool true], .slice A10 x1 c10, .int .i64 (k1 : Int), .bool true, .tuple #[.slice A12 x2 c12, .int .i64 (k2 : Int), .bool true], .slice A9 (k1 + k2) c9, .int .i64 (k1 : Int), .slice A11 k2 (c9 - k1), .tuple #[.slice A12 x2 c12, .int .i64 (k2 : Int), .bool true], .slice A12 x2 c12, .int .i64 (k2 : Int), .bool true, .slice (some ⟨w12.heap.size, 0, none⟩) 0 0, .slice A n c, .slice A13 x1 c13, v14, .slice B m d, .slice A15 x2 c15, .slice A16 (x1 + x2) c16, .bool true, .bool true, .bool true, .bool true, .bool true, .bool true, .bool true, .bool true, .int .i64 (k1 : Int), .int .i64 (k2 : Int), .int .i64 ((k1 : Int) + (k2 : Int)), .slice A9 (k1 + k2) c9, .int .i64 ((k1 + k2 : Nat) : Int), .bool true, .bool true, .bool true, .slice A10 x1 c10, .string ⟨L1.toArray⟩, .slice A12 x2 c12, .string ⟨L2.toArray⟩, .string ⟨(L1 ++ L2).toArray⟩, .slice A16 (x1 + x2) c16, .string ⟨(L1 ++ L2).toArray⟩, .bool true, .bool true, .bool true, .slice A16 (x1 + x2) c16, undef, .string ⟨(L1 ++ L2).toArray⟩, .slice A16 (x1 + x2) c16, .string ⟨(L1 ++ L2).toArray⟩, .bool true, .bool true], []⟩) (fun g => ⟨#[.slice A n c, .slice B m d, undef, undef, .bool true, .bool true, .pointer (some ⟨w1.heap.size, 0, none⟩), .slice A9 (k1 + k2) c9, .slice A10 x1 c10, .int .i64 (k1 : Int), .bool true, .slice A12 x2 c12, .int .i64 (k2 : Int), .bool true, .slice A16 (x1 + x2) c16, .bool true, .slice A n c, .int .i64 (n : Int), .slice B m d, .int .i64 (m : Int), .int .i64 ((n : Int) + (m : Int)), .bool (decide ((200 : Int) < (n : Int) + (m : Int))), undef, .agg #[.bool false, .bool false, .bool false, .bool false, .bool true, .bool false, .bool false, .int .i64 0, .int .i64 0, .int .i64 0], v24, .agg #[.bool false, .bool false, .bool false, .bool false, .bool true, .bool false, .bool false, .int .i64 0, .int .i64 0, .int .i64 0], .slice A n c, .slice A6 k1 c6, v7, .agg #[.bool false, .bool false, .bool false, .bool false, .bool true, .bool false, .bool false, .int .i64 0, .int .i64 0, .int .i64 0], .slice B m d, .slice A8 k2 c8, .slice A9 (k1 + k2) c9, .tuple #[.slice A10 x1 c10, .int .i64 (k1 : Int), .bool true], .slice A9 (k1 + k2) c9, .tuple #[.slice A10 x1 c10, .int .i64 (k1 : Int), .bool true], .slice A10 x1 c10, .int .i64 (k1 : Int), .bool true, .tuple #[.slice A12 x2 c12, .int .i64 (k2 : Int), .bool true], .slice A9 (k1 + k2) c9, .int .i64 (k1 : Int), .slice A11 k2 (c9 - k1), .tuple #[.slice A12 x2 c12, .int .i64 (k2 : Int), .bool true], .slice A12 x2 c12, .int .i64 (k2 : Int), .bool true, .slice (some ⟨w12.heap.size, 0, none⟩) 0 0, .slice A n c, .slice A13 x1 c13, v14, .slice B m d, .slice A15 x2 c15, .slice A16 (x1 + x2) c16, .bool true, .bool true, .bool true, .bool true, .bool true, .bool true, .bool true, .bool true, .int .i64 (k1 : Int), .int .i64 (k2 : Int), .int .i64 ((k1 : Int) + (k2 : Int)), .slice A9 (k1 + k2) c9, .int .i64 ((k1 + k2 : Nat) : Int), .bool true, .bool true, .bool true, .slice A10 x1 c10, .string ⟨L1.toArray⟩, .slice A12 x2 c12, .string ⟨L2.toArray⟩, .string ⟨(L1 ++ L2).toArray⟩, .slice A16 (x1 + x2) c16, .string ⟨(L1 ++ L2).toArray⟩, .bool true, .bool true, .bool true, .slice A16 (x1 + x2) c16, (g 81), .string ⟨(L1 ++ L2).toArray⟩, .slice A16 (x1 + x2) c16, .string ⟨(L1 ++ L2).toArray⟩, .bool true, .bool true], []⟩) [.bool true, .bool true, .bool true, .bool true, .bool true, .bool true, .bool true, .bool true, .int .i64 (k1 : Int), .int .i64 (k2 : Int), .int .i64 ((k1 : Int) + (k2 : Int)), .slice A9 (k1 + k2) c9, .int .i64 ((k1 + k2 : Nat) : Int), .bool true, .bool true, .bool true, .slice A10 x1 c10, .string ⟨L1.toArray⟩, .slice A12 x2 c12, .string ⟨L2.toArray⟩, .string ⟨(L1 ++ L2).toArray⟩, .slice A16 (x1 + x2) c16, .string ⟨(L1 ++ L2).toArray⟩, .bool true, .bool true, .bool true, .slice A16 (x1 + x2) c16, undef, .string ⟨(L1 ++ L2).toArray⟩, .slice A16 (x1 + x2) c16, .string ⟨(L1 ++ L2).toArray⟩, .bool true, .bool true, .bool true] (by kernel_rfl) (by kernel_rfl) (by kernel_rfl) (fun g => by kernel_rfl) (by kernel_rfl) (Below.refl _ _).drew (by decide) (by kernel_rfl)
   (goes_cons (gkP (fun _ => .bool true))
   (goes_cons (gkP (fun _ => .bool true))
   (goes_cons (gkP (fun _ => .bool true))
   (goes_cons (gkP (fun _ => .bool true))
   (goes_cons (gkP (fun _ => .bool true))
   (goes_cons (gkP (fun _ => .bool true))
   (goes_cons (gkP (fun _ => .bool true))
   (goes_cons (gkP (fun _ => .bool true))
   (goes_cons (gkP (fun _ => .int .i64 (k1 : Int)))
   (goes_cons (gkP (fun _ => .int .i64 (k2 : Int)))
   (goes_cons (goesK_bin (v := .int .i64 ((k1 : Int) + (k2 : Int))) (xv := .int .i64 (k1 : Int)) (yv := .int .i64 (k2 : Int)) rfl (by decide) (by decide) (by kernel_rfl) (fun g => by kernel_rfl) rfl (fun g => by kernel_rfl) rfl (fun g => by kernel_rfl) (fun g => by kernel_rfl) hsimpS)
   (goes_cons (gkP (fun _ => .slice A9 (k1 + k2) c9))
   (goes_cons (gkP (fun _ => .int .i64 ((k1 + k2 : Nat) : Int)))
   (goes_cons (goesK_bin (v := .bool true) (xv := .int .i64 ((k1 : Int) + (k2 : Int))) (yv := .int .i64 ((k1 + k2 : Nat) : Int)) rfl (by decide) (by decide) (by kernel_rfl) (fun g => by kernel_rfl) rfl (fun g => by kernel_rfl) rfl (fun g => by kernel_rfl) (fun g => by kernel_rfl) hsimpE)
   (goes_cons (gkP (fun _ => .bool true))
   (goes_cons (gkP (fun _ => .bool true))
   (goes_cons (gkP (fun _ => .slice A10 x1 c10))
   (goes_cons (goesK_conv (c := c10) HX1.out (fun W hW => r10.below hW) Tryd.underlying24 Tryd.underlying5 Tryd.underlying9 hst (ahead_none (by decide)) rfl (by decide) (by decide) (by kernel_rfl) (fun g => by kernel_rfl) rfl (fun g => by kernel_rfl) rfl (fun g => by kernel_rfl))
   (goes_cons (gkP (fun _ => .slice A12 x2 c12))
   (goes_cons (goesK_conv (c := c12) HX2.out (fun W hW => r12.below hW) Tryd.underlying24 Tryd.underlying5 Tryd.underlying9 hst (ahead_none (by decide)) rfl (by decide) (by decide) (by kernel_rfl) (fun g => by kernel_rfl) rfl (fun g => by kernel_rfl) rfl (fun g => by kernel_rfl))
   (goes_cons (goesK_bin (v := .string ⟨(L1 ++ L2).toArray⟩) (xv := .string ⟨L1.toArray⟩) (yv := .string ⟨L2.toArray⟩) rfl (by decide) (by decide) (by kernel_rfl) (fun g => by kernel_rfl) rfl (fun g => by kernel_rfl) rfl (fun g => by kernel_rfl) (fun g => by kernel_rfl) hsimpC)
   (goes_cons (gkP (fun _ => .slice A16 (x1 + x2) c16))
   (goes_cons (goesK_conv (c := c16) H12.out (fun W hW => r16.below hW) Tryd.underlying24 Tryd.underlying5 Tryd.underlying9 hst (ahead_none (by decide)) rfl (by decide) (by decide) (by kernel_rfl) (fun g => by kernel_rfl) rfl (fun g => by kernel_rfl) rfl (fun g => by kernel_rfl))
   (goes_cons (goesK_bin (v := .bool true) (xv := .string ⟨(L1 ++ L2).toArray⟩) (yv := .string ⟨(L1 ++ L2).toArray⟩) rfl (by decide) (by decide) (by kernel_rfl) (fun g => by kernel_rfl) rfl (fun g => by kernel_rfl) rfl (fun g => by kernel_rfl) (fun g => by kernel_rfl) (fun w => by go_simp))
   (goes_cons (gkP (fun _ => .bool true))
   (goes_cons (gkP (fun _ => .bool true))
   (goes_cons (gkP (fun _ => .slice A16 (x1 + x2) c16))
   (goes_cons (gkG (fun g => #[.slice A16 (x1 + x2) c16]) hst 0 (fun g W hW hin => outP_b17 (HCB.out W A16 c16 (hB16.trans (hW.mono hB16.size)) hc16 (r16.below hW))))
   (goes_cons (goesK_str 0 rfl (by kernel_rfl) Tryd.underlying24 Tryd.underlying5 Tryd.underlying9 hst (ahead_none (by decide)) rfl (by decide) (by decide) (by kernel_rfl) (fun g => by kernel_rfl) rfl (fun g => by kernel_rfl) rfl (fun g => by kernel_rfl))
   (goes_cons (gkP (fun _ => .slice A16 (x1 + x2) c16))
   (goes_cons (goesK_conv (c := c16) H12.out (fun W hW => r16.below hW) Tryd.underlying24 Tryd.underlying5 Tryd.underlying9 hst (ahead_none (by decide)) rfl (by decide) (by decide) (by kernel_rfl) (fun g => by kernel_rfl) rfl (fun g => by kernel_rfl) rfl (fun g => by kernel_rfl))
   (goes_cons (goesK_bin (v := .bool true) (xv := .string ⟨(L1 ++ L2).toArray⟩) (yv := .string ⟨(L1 ++ L2).toArray⟩) rfl (by decide) (by decide) (by kernel_rfl) (fun g => by kernel_rfl) rfl (fun g => by kernel_rfl) rfl (fun g => by kernel_rfl) (fun g => by kernel_rfl) (fun w => by go_simp))
   (goes_cons (gkP (fun _ => .bool true))
   (goes_cons (gkP (fun _ => .bool true)) goes_nil)))))))))))))))))))))))))))))))))) ?_
  intro g W hW _
  have hB9 := hB16.trans (hW.mono hB16.size)
  generalize g 81 = v81
  clear hst
  go_wp2_with fail
  go_ret
  exact ⟨rfl, hB9⟩
end Go.Proofs.YtgaoijinchakoaaDoor
