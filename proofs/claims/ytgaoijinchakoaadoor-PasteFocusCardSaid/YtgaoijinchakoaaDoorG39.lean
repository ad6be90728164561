/-
  Stage 17, the landed paste, walked: Looked. Stage 17: awake.
-/
import Derived.Test.YtgaoijinchakoaaDoorG21
import Derived.Test.YtgaoijinchakoaaDoorG38
namespace Go.Proofs.YtgaoijinchakoaaDoor
open Go.RowKit Go.Maps
set_option maxRecDepth 100000 in
set_option maxHeartbeats 16000000 in
theorem paslooked_any (A0 : Option Addr) (n0 c0 : Nat) (l : List UInt8) (hn : l.length = n0) (w : World) (ht : Tab w) (hc : n0 ≤ c0) (hr : Rd w A0 (bs l)) :
 Calls Tryd.prog 18 #[.slice A0 n0 c0] w fun e w' => e = .returned (.tuple #[.bool (begB l inB), .bool (begB l inB || begB l outB)]) ∧ Below w.heap.size w w' := by
 go_enter Tryd.func18, Tryd.ntmps18
 go_wp2_with fail
 refine (paslooks_any _).mono ?_
 rintro e w1 ⟨b, mn, A, B, c, d, rfl, ho, hb⟩
 have hB2 := hb.alloc hb.size (.cells #[.bool true, .bool false] 4)
 have kB := Blk.new w1 4 #[.bool true, .bool false]
 obtain ⟨w2, hw2⟩ : ∃ w2, w1.alloc (.cells #[.bool true, .bool false] 4) = w2 := ⟨_, rfl⟩
 have ho := own_below17 ho ((Below.refl _ w1).alloc (Nat.le_refl _) (.cells #[.bool true, .bool false] 4))
 obtain ⟨g, hg⟩ : ∃ g, w1.heap.size = g := ⟨_, rfl⟩
 rw [hw2] at ho kB hB2
 rw [hg] at kB
 go_wp2_with fail
 clear hw2 hg hb
 go_loopw [10] (fun i wr => ∃ k : Nat, k ≤ 2 ∧ i = .int .i64 k ∧ ((1 ≤ k → begB l inB = false) ∧ (2 ≤ k → begB l outB = false)) ∧ Below w2.heap.size w2 wr ∧ Below w.heap.size w wr) (fun i _ => 2 - (intOf i).toNat)
 case atStart => exact ⟨0, by decide, rfl, ⟨fun h => absurd h (by decide), fun h => absurd h (by decide)⟩, Below.refl _ _, hB2⟩
 case round =>
  obtain ⟨k, hk, rfl, hno, hb3, hbr⟩ := hrel
  clear hB2
  by_cases hlt : k < 2
  ·match k, hlt with
   | 0, _ =>
     have hlk : (Instr.lookup 54 (.map (some b)) (.bool true) false).run Tryd.prog wr = .ok (lkV A c 73) wr := paslooks_at true (own_below17 ho hb3)
     have cx := (kB.below hb3 kB.lt).cell 0
     have HPP : Hid (∀ W, Below w.heap.size w W → Calls Tryd.prog 27 #[lkV A c 73] W (OutP inB 3 W)) := Lib.hid fun W hW => lk_put A c W (ht.below hW)
     obtain ⟨q, hq⟩ : ∃ q, begB l inB = q := ⟨_, rfl⟩
     have HH : Hid (∀ B d W, Below w.heap.size w W → Rd W B (bs inB) → Calls Tryd.prog 33 #[.slice A0 n0 c0, .slice B 3 d] W fun e w' => e = .returned (.bool q) ∧ W = w') := Lib.hid fun B d W hW hB => hasp_any A0 B n0 c0 3 d l inB q W hn rfl hc hq (hr.below hW) hB
     cases q with
     | true =>
       go_wp2_with fail
       refine (HPP.out _ hbr).mono ?_
       rintro e w5 ⟨A5, c5, rfl, ho5, hb5⟩
       have hB5 := hbr.trans (hb5.mono hbr.size)
       go_wp2_with fail
       refine (HH.out A5 c5 _ hB5 ho5.rd).mono ?_
       rintro e w6 ⟨rfl, rfl⟩
       go_wp2_with fail
       refine bodyPost_ret (v := .tuple #[.bool true, .bool true]) (by simp [results, Tryd.results18, go_sem]) rfl ?_
       exact ⟨by rw [hq]; rfl, hB5⟩
     | false =>
       go_wp2_with fail
       refine (HPP.out _ hbr).mono ?_
       rintro e w5 ⟨A5, c5, rfl, ho5, hb5⟩
       have hB5 := hbr.trans (hb5.mono hbr.size)
       go_wp2_with fail
       refine (HH.out A5 c5 _ hB5 ho5.rd).mono ?_
       rintro e w6 ⟨rfl, rfl⟩
       go_wp2_with fail
       go_roundw
       case rel => exact ⟨1, by decide, rfl, ⟨fun _ => hq, fun h => absurd h (by decide)⟩, hb3.trans (hb5.mono hb3.size), hB5⟩
       case measure => decide
   | 1, _ =>
     have hlk : (Instr.lookup 54 (.map (some b)) (.bool false) false).run Tryd.prog wr = .ok (lkV B d 79) wr := paslooks_at false (own_below17 ho hb3)
     have cx := (kB.below hb3 kB.lt).cell 1
     have HPP : Hid (∀ W, Below w.heap.size w W → Calls Tryd.prog 27 #[lkV B d 79] W (OutP outB 3 W)) := Lib.hid fun W hW => lk_put2 B d W (ht.below hW)
     obtain ⟨q, hq⟩ : ∃ q, begB l outB = q := ⟨_, rfl⟩
     have HH : Hid (∀ B d W, Below w.heap.size w W → Rd W B (bs outB) → Calls Tryd.prog 33 #[.slice A0 n0 c0, .slice B 3 d] W fun e w' => e = .returned (.bool q) ∧ W = w') := Lib.hid fun B d W hW hB => hasp_any A0 B n0 c0 3 d l outB q W hn rfl hc hq (hr.below hW) hB
     cases q with
     | true =>
       go_wp2_with fail
       refine (HPP.out _ hbr).mono ?_
       rintro e w5 ⟨A5, c5, rfl, ho5, hb5⟩
       have hB5 := hbr.trans (hb5.mono hbr.size)
       go_wp2_with fail
       refine (HH.out A5 c5 _ hB5 ho5.rd).mono ?_
       rintro e w6 ⟨rfl, rfl⟩
       go_wp2_with fail
       refine bodyPost_ret (v := .tuple #[.bool false, .bool true]) (by simp [results, Tryd.results18, go_sem]) rfl ?_
       exact ⟨by rw [hno.1 (by decide), hq]; rfl, hB5⟩
     | false =>
       go_wp2_with fail
       refine (HPP.out _ hbr).mono ?_
       rintro e w5 ⟨A5, c5, rfl, ho5, hb5⟩
       have hB5 := hbr.trans (hb5.mono hbr.size)
       go_wp2_with fail
       refine (HH.out A5 c5 _ hB5 ho5.rd).mono ?_
       rintro e w6 ⟨rfl, rfl⟩
       go_wp2_with fail
       go_roundw
       case rel => exact ⟨2, by decide, rfl, ⟨fun _ => hno.1 (by decide), fun _ => hq⟩, hb3.trans (hb5.mono hb3.size), hB5⟩
       case measure => decide
  ·obtain rfl : k = 2 := by omega
   go_wp2_with fail
   refine bodyPost_ret (v := .tuple #[.bool false, .bool false]) (by simp [results, Tryd.results18, go_sem]) rfl ?_
   exact ⟨by rw [hno.1 (by decide), hno.2 (by decide)]; rfl, hbr⟩
end Go.Proofs.YtgaoijinchakoaaDoor
namespace Go.Proofs.YtgaoijinchakoaaDoor
open Go.RowKit
theorem conv17w {w : World} {A : Option Addr} {L : List UInt8} {n c : Nat} (hn : L.length = n) (h : Rd w A (bs L)) : (convert 24 9 (.slice A n c)).run Tryd.prog w = .ok (.string ⟨L.toArray⟩) w :=
 conv_str (P := Tryd.prog) Tryd.underlying24 Tryd.underlying5 hn h _ Tryd.underlying9
set_option maxRecDepth 100000 in
set_option maxHeartbeats 16000000 in
theorem pasAwake (w0 : World) (ht : Tab w0) (hz : Siz w0) : Calls Tryd.prog 9 #[] w0 fun e w' => e = .returned (.bool true) ∧ Below w0.heap.size w0 w' := by
 have HS : Hid (∀ A W, Below w0.heap.size w0 W → Rd W A (bs [97, 27, 98]) → Calls Tryd.prog 12 #[.agg #[.bool false, .bool false, .bool false, .bool false, .bool true, .bool false, .bool false, .int .i64 0, .int .i64 0, .int .i64 0], .slice A 3 3] W (OutP [27, 91, 50, 48, 48, 126, 97, 98, 27, 91, 50, 48, 49, 126] 14 W)) := Lib.hid fun A W hW hr => passend_any ⟨false, false, false, false, true, false, false, 0, 0, 0⟩ A 3 3 [97, 27, 98] rfl W (hz.below' hW) (ht.below hW) (by decide) (by decide) hr [27, 91, 50, 48, 48, 126, 97, 98, 27, 91, 50, 48, 49, 126] 14 (by decide +kernel) rfl
 have HT : Hid (∀ A W, Below w0.heap.size w0 W → Rd W A (bs [27, 91, 50, 48, 48, 126, 97, 98, 27, 91, 50, 48, 49, 126, 120]) → Calls Tryd.prog 16 #[.slice A 15 15] W fun e w' => ∃ B d, e = .returned (.tuple #[.slice B 2 d, .int .i64 14, .bool true]) ∧ Rd w' B (bs [97, 98]) ∧ Below W.heap.size W w') := Lib.hid fun A W hW hr => by
  refine (pastake_any A 15 15 [27, 91, 50, 48, 48, 126, 97, 98, 27, 91, 50, 48, 49, 126, 120] rfl W (hz.below' hW) (ht.below hW) (by decide) (by decide) hr).mono ?_
  rintro e w' ⟨B, d, rfl, ho, hb⟩
  have h1 : takeP [27, 91, 50, 48, 48, 126, 97, 98, 27, 91, 50, 48, 49, 126, 120] = ([97, 98], 14, true) := by decide +kernel
  rw [h1] at ho ⊢
  exact ⟨B, d, rfl, ho.rd, hb⟩
 have HL : Hid (∀ A W, Below w0.heap.size w0 W → Rd W A (bs [27, 91, 73, 120]) → Calls Tryd.prog 18 #[.slice A 4 4] W fun e w' => e = .returned (.tuple #[.bool true, .bool true]) ∧ Below W.heap.size W w') := Lib.hid fun A W hW hr => paslooked_any A 4 4 [27, 91, 73, 120] rfl W (ht.below hW) (by decide) hr
 have HC : Hid (∀ A W, Below w0.heap.size w0 W → Rd W A (bs [97, 27, 98]) → Calls Tryd.prog 10 #[.slice A 3 3] W (OutP [97, 98] 2 W)) := Lib.hid fun A W hW hr => by
  have h := pclean_any A 3 3 [97, 27, 98] rfl W (hz.below' hW) (by decide) (by decide) hr
  have h1 : clnL [97, 27, 98] = [97, 98] := by decide +kernel
  rw [h1] at h
  exact h
 have HF : Hid (∀ W, Below w0.heap.size w0 W → Calls Tryd.prog 14 #[.agg #[.bool false, .bool false, .bool false, .bool true, .bool false, .bool false, .bool false, .int .i64 0, .int .i64 0, .int .i64 0], .bool false] W (OutP outB 3 W)) := Lib.hid fun W hW => pasfocus_any ⟨false, false, false, true, false, false, false, 0, 0, 0⟩ false W (ht.below hW) outB 3 rfl rfl
 clear ht hz
 have hB0 := Below.refl w0.heap.size w0
 have hcv1 := Joins.run_convert_bytes_const_at (P := Tryd.prog) w0 24 5 #[.int .u8 97, .int .u8 27, .int .u8 98] 3 3 w0.heap.size (by simp) Tryd.underlying24 Tryd.underlying5
 have hC1 := hB0.alloc hB0.size (.cells #[.int .u8 97, .int .u8 27, .int .u8 98] 5 (3, 4))
 have hl1 : Rd (w0.alloc (.cells #[.int .u8 97, .int .u8 27, .int .u8 98] 5 (3, 4))) (some ⟨w0.heap.size, 0, none⟩) (bs [97, 27, 98]) := (own_mark17 w0 0 5 3 #[.int .u8 97, .int .u8 27, .int .u8 98] (Nat.zero_le _) rfl (by simp [maxLen])).rd
 go_enter Tryd.func9, Tryd.ntmps9
 go_wp2_with fail
 refine (HS.out _ _ hC1 hl1).mono ?_
 rintro e w1 ⟨A1, c1, rfl, ho1, hb1⟩
 have hB1 := hC1.trans (hb1.mono hC1.size)
 have hr1 := ho1.rd
 clear hcv1 hC1 hl1 hb1 ho1 HS
 have hcv2 := Joins.run_convert_bytes_const_at (P := Tryd.prog) w1 24 5 #[.int .u8 27, .int .u8 91, .int .u8 50, .int .u8 48, .int .u8 48, .int .u8 126, .int .u8 97, .int .u8 98, .int .u8 27, .int .u8 91, .int .u8 50, .int .u8 48, .int .u8 49, .int .u8 126, .int .u8 120] 15 15 w1.heap.size (by simp) Tryd.underlying24 Tryd.underlying5
 have hC2 := hB1.alloc hB1.size (.cells #[.int .u8 27, .int .u8 91, .int .u8 50, .int .u8 48, .int .u8 48, .int .u8 126, .int .u8 97, .int .u8 98, .int .u8 27, .int .u8 91, .int .u8 50, .int .u8 48, .int .u8 49, .int .u8 126, .int .u8 120] 5 (15, 16))
 have hl2 : Rd (w1.alloc (.cells #[.int .u8 27, .int .u8 91, .int .u8 50, .int .u8 48, .int .u8 48, .int .u8 126, .int .u8 97, .int .u8 98, .int .u8 27, .int .u8 91, .int .u8 50, .int .u8 48, .int .u8 49, .int .u8 126, .int .u8 120] 5 (15, 16))) (some ⟨w1.heap.size, 0, none⟩) (bs [27, 91, 50, 48, 48, 126, 97, 98, 27, 91, 50, 48, 49, 126, 120]) := (own_mark17 w1 0 5 15 #[.int .u8 27, .int .u8 91, .int .u8 50, .int .u8 48, .int .u8 48, .int .u8 126, .int .u8 97, .int .u8 98, .int .u8 27, .int .u8 91, .int .u8 50, .int .u8 48, .int .u8 49, .int .u8 126, .int .u8 120] (Nat.zero_le _) rfl (by simp [maxLen])).rd
 go_wp2_with fail
 refine (HT.out _ _ hC2 hl2).mono ?_
 rintro e w2 ⟨A2, c2, rfl, hr2, hb2⟩
 have hB2 := hC2.trans (hb2.mono hC2.size)
 replace hr1 := (hr1.alloc (.cells #[.int .u8 27, .int .u8 91, .int .u8 50, .int .u8 48, .int .u8 48, .int .u8 126, .int .u8 97, .int .u8 98, .int .u8 27, .int .u8 91, .int .u8 50, .int .u8 48, .int .u8 49, .int .u8 126, .int .u8 120] 5 (15, 16))).below hb2
 clear hcv2 hC2 hl2 hb2 HT
 have hcv3 := Joins.run_convert_bytes_const_at (P := Tryd.prog) w2 24 5 #[.int .u8 27, .int .u8 91, .int .u8 73, .int .u8 120] 4 4 w2.heap.size (by simp) Tryd.underlying24 Tryd.underlying5
 have hC3 := hB2.alloc hB2.size (.cells #[.int .u8 27, .int .u8 91, .int .u8 73, .int .u8 120] 5 (4, 5))
 have hl3 : Rd (w2.alloc (.cells #[.int .u8 27, .int .u8 91, .int .u8 73, .int .u8 120] 5 (4, 5))) (some ⟨w2.heap.size, 0, none⟩) (bs [27, 91, 73, 120]) := (own_mark17 w2 0 5 4 #[.int .u8 27, .int .u8 91, .int .u8 73, .int .u8 120] (Nat.zero_le _) rfl (by simp [maxLen])).rd
 go_wp2_with fail
 refine (HL.out _ _ hC3 hl3).mono ?_
 rintro e w3 ⟨rfl, hb3⟩
 have hB3 := hC3.trans (hb3.mono hC3.size)
 replace hr1 := (hr1.alloc (.cells #[.int .u8 27, .int .u8 91, .int .u8 73, .int .u8 120] 5 (4, 5))).below hb3
 replace hr2 := (hr2.alloc (.cells #[.int .u8 27, .int .u8 91, .int .u8 73, .int .u8 120] 5 (4, 5))).below hb3
 clear hcv3 hC3 hl3 hb3 HL
 have hcv4 := Joins.run_convert_bytes_const_at (P := Tryd.prog) w3 24 5 #[.int .u8 97, .int .u8 27, .int .u8 98] 3 3 w3.heap.size (by simp) Tryd.underlying24 Tryd.underlying5
 have hC4 := hB3.alloc hB3.size (.cells #[.int .u8 97, .int .u8 27, .int .u8 98] 5 (3, 4))
 have hl4 : Rd (w3.alloc (.cells #[.int .u8 97, .int .u8 27, .int .u8 98] 5 (3, 4))) (some ⟨w3.heap.size, 0, none⟩) (bs [97, 27, 98]) := (own_mark17 w3 0 5 3 #[.int .u8 97, .int .u8 27, .int .u8 98] (Nat.zero_le _) rfl (by simp [maxLen])).rd
 go_wp2_with fail
 refine (HC.out _ _ hC4 hl4).mono ?_
 rintro e w4 ⟨A4, c4, rfl, ho4, hb4⟩
 have hB4 := hC4.trans (hb4.mono hC4.size)
 replace hr1 := (hr1.alloc (.cells #[.int .u8 97, .int .u8 27, .int .u8 98] 5 (3, 4))).below hb4
 replace hr2 := (hr2.alloc (.cells #[.int .u8 97, .int .u8 27, .int .u8 98] 5 (3, 4))).below hb4
 have s4 := conv17w (n := 2) (c := c4) rfl ho4.rd
 have s1 := conv17w (n := 14) (c := c1) rfl hr1
 have s2 := conv17w (n := 2) (c := c2) rfl hr2
 clear hcv4 hC4 hl4 hb4 HC ho4 hr1 hr2
 go_wp2_with fail
 refine (HF.out _ hB4).mono ?_
 rintro e w5 ⟨A5, c5, rfl, ho5, hb5⟩
 have hB5 := hB4.trans (hb5.mono hB4.size)
 have s5 := conv17w (n := 3) (c := c5) rfl ho5.rd
 clear s1 s2 s4 HF hb5 ho5
 go_wp2_with fail
 go_ret
 exact ⟨rfl, hB5⟩
end Go.Proofs.YtgaoijinchakoaaDoor
