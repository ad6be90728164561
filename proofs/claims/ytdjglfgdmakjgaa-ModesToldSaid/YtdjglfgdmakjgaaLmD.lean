/-
  Layer 6: the walk of ModesTold.
-/
import Derived.Test.YtdjglfgdmakjgaaLmS
namespace Go.Proofs.Ytdjglfgdmakjgaa
open Go.RowKit

section
variable {Inv : World → Prop}
set_option maxRecDepth 100000 in
set_option maxHeartbeats 16000000 in
theorem told_no (H : ModC Inv) (m : Mo) (n : Int) (hn : inI n) (p on : Bool) (w : World) (hv : Inv w) (hc : canM p n = false) :
    Calls Try.prog 4 #[moV m, .int .i64 n, .agg #[.bool p, .bool on]] w fun e w' => e = .returned (.bool true) ∧ Below w.heap.size w w' := by
  have HN := Lib.hid hn
  have HS1 := Lib.hid (set_no (m := m) (on := on) hc)
  obtain ⟨k, hk⟩ : ∃ k, getM m p n = k := ⟨_, rfl⟩
  have hk1 : k ≠ 1 ∧ k ≠ 2 := by
    have := fixed_rng p n
    rw [← hk, get_no hc]
    omega
  have HK := Lib.hid hk
  have t1 : (k == 1) = false := beq_false_of_ne hk1.1
  have t2 : (k == 2) = false := beq_false_of_ne hk1.2
  obtain ⟨h1, h2⟩ := hk1
  clear hn hk hc
  have hbe : Below w.heap.size w ((w.alloc (.cells (moC m) 23)).alloc (.cells #[.bool p, .bool on] 24)) := ((Below.refl _ w).alloc (Nat.le_refl _) _).alloc (by simp) _
  have L2 := ((Bl.nil w).add 23 (moC m)).add 24 #[.bool p, .bool on]
  simp only [World.size_alloc, moC] at L2
  rw [moV]
  go_enter Try.func4, Try.ntmps4
  go_wp2_with fail
  refine (modesAwake H _ (H.invB hv hbe)).mono ?_
  rintro e w1 ⟨rfl, hb1⟩
  have L3 := L2.below hb1
  have hbe1 := below_step hbe hb1 hbe.size
  clear L2 hbe hb1
  obtain ⟨c0, c1, c2, c3, c4, c5, c6, c7, c8, c9⟩ := Blk.cells10 L3.tail.head
  have d0 := L3.head.cell 0
  have d1 := L3.head.cell 1
  go_wp2_with fail
  refine (H.set_at w1 (H.invB hv hbe1) HN.out HS1.out).mono ?_
  rintro e w2 ⟨rfl, hb2⟩
  have L4 := (L3.below hb2).add 23 (moC m)
  have hbe2 := below_step hbe1 hb2 hbe1.size
  have hbe3 := hbe2.alloc hbe2.size (.cells (moC m) 23)
  simp only [moC] at L4 hbe3
  clear c0 c1 c2 c3 c4 c5 c6 c7 c8 c9 d0 d1 L3 hbe1 hbe2 hb2
  obtain ⟨c0, c1, c2, c3, c4, c5, c6, c7, c8, c9⟩ := Blk.cells10 L4.head
  obtain ⟨a0, a1, a2, a3, a4, a5, a6, a7, a8, a9⟩ := Blk.cells10 L4.tail.tail.head
  have d0 := L4.tail.head.cell 0
  have d1 := L4.tail.head.cell 1
  rw [moV]
  go_wp2_with fail
  refine (H.get_at _ (H.invB hv hbe3) HN.out HK.out).mono ?_
  rintro e w3 ⟨rfl, hb3⟩
  have L5 := L4.below hb3
  have hbe4 := below_step hbe3 hb3 hbe3.size
  clear c0 c1 c2 c3 c4 c5 c6 c7 c8 c9 a0 a1 a2 a3 a4 a5 a6 a7 a8 a9 d0 d1 L4 hbe3 hb3
  obtain ⟨a0, a1, a2, a3, a4, a5, a6, a7, a8, a9⟩ := Blk.cells10 L5.tail.tail.head
  have d0 := L5.tail.head.cell 0
  have d1 := L5.tail.head.cell 1
  go_wp2_with fail
  refine (H.get_at _ (H.invB hv hbe4) HN.out HK.out).mono ?_
  rintro e w4 ⟨rfl, hb4⟩
  have hbe5 := below_step hbe4 hb4 hbe4.size
  go_wp2_with fail
  go_ret
  exact ⟨ret_b (by first | rfl | simp [*]), hbe5⟩
set_option maxRecDepth 100000 in
set_option maxHeartbeats 16000000 in
theorem told_yes (H : ModC Inv) (m : Mo) (hm : okM m) (n : Int) (hn : inI n) (p on : Bool) (w : World) (hv : Inv w) (hc : canM p n = true) :
    Calls Try.prog 4 #[moV m, .int .i64 n, .agg #[.bool p, .bool on]] w fun e w' => e = .returned (.bool true) ∧ Below w.heap.size w w' := by
  have HN := Lib.hid hn
  obtain ⟨m', hs⟩ : ∃ m', setM m p n on = (m', true) := ⟨(setM m p n on).1, by rw [← hc, ← set_can m p n on]⟩
  have h2 := set_twice m p n on
  have h3 := get_set (m := m) hc on
  have h4 := may_set m p n on
  have h5 := ok_set hm p hn on
  rw [hs, hc] at h2
  rw [hs] at h3 h4 h5
  have HS1 := Lib.hid hs
  have HS2 := Lib.hid h2
  have HG := Lib.hid h3
  have HO := Lib.hid hm
  have HO' := Lib.hid h5
  obtain ⟨y, hy⟩ : ∃ y, mayM m = y := ⟨_, rfl⟩
  have HY := Lib.hid hy
  have HY' := Lib.hid h4
  clear hn hs h2 h3 h4 h5 hc hy
  have hbe : Below w.heap.size w ((w.alloc (.cells (moC m) 23)).alloc (.cells #[.bool p, .bool on] 24)) := ((Below.refl _ w).alloc (Nat.le_refl _) _).alloc (by simp) _
  have L2 := ((Bl.nil w).add 23 (moC m)).add 24 #[.bool p, .bool on]
  simp only [World.size_alloc, moC] at L2
  rw [moV]
  go_enter Try.func4, Try.ntmps4
  go_wp2_with fail
  refine (modesAwake H _ (H.invB hv hbe)).mono ?_
  rintro e w1 ⟨rfl, hb1⟩
  have L3 := L2.below hb1
  have hbe1 := below_step hbe hb1 hbe.size
  clear L2 hbe hb1
  obtain ⟨c0, c1, c2, c3, c4, c5, c6, c7, c8, c9⟩ := Blk.cells10 L3.tail.head
  have d0 := L3.head.cell 0
  have d1 := L3.head.cell 1
  go_wp2_with fail
  refine (H.set_at w1 (H.invB hv hbe1) HN.out HS1.out).mono ?_
  rintro e w2 ⟨rfl, hb2⟩
  have L4 := (L3.below hb2).add 23 (moC m')
  have hbe2 := below_step hbe1 hb2 hbe1.size
  have hbe3 := hbe2.alloc hbe2.size (.cells (moC m') 23)
  simp only [moC] at L4 hbe3
  clear c0 c1 c2 c3 c4 c5 c6 c7 c8 c9 d0 d1 L3 hbe1 hbe2 hb2
  obtain ⟨c0, c1, c2, c3, c4, c5, c6, c7, c8, c9⟩ := Blk.cells10 L4.head
  have d0 := L4.tail.head.cell 0
  have d1 := L4.tail.head.cell 1
  rw [moV]
  go_wp2_with fail
  refine (H.set_at _ (H.invB hv hbe3) HN.out HS2.out).mono ?_
  rintro e w3 ⟨rfl, hb3⟩
  have L5 := (L4.below hb3).add 23 (moC m')
  have hbe4 := below_step hbe3 hb3 hbe3.size
  have hbe5 := hbe4.alloc hbe4.size (.cells (moC m') 23)
  simp only [moC] at L5 hbe5
  clear c0 c1 c2 c3 c4 c5 c6 c7 c8 c9 d0 d1 L4 hbe3 hbe4 hb3
  obtain ⟨c0, c1, c2, c3, c4, c5, c6, c7, c8, c9⟩ := Blk.cells10 L5.tail.head
  have d0 := L5.tail.tail.head.cell 0
  have d1 := L5.tail.tail.head.cell 1
  rw [moV]
  cases on with
  | true =>
    go_wp2_with fail
    refine (H.get_at (k := 1) _ (H.invB hv hbe5) HN.out HG.out).mono ?_
    rintro e w4 ⟨rfl, hb4⟩
    have L6 := L5.below hb4
    have hbe6 := below_step hbe5 hb4 hbe5.size
    clear c0 c1 c2 c3 c4 c5 c6 c7 c8 c9 d0 d1 L5 hbe5 hb4
    obtain ⟨c0, c1, c2, c3, c4, c5, c6, c7, c8, c9⟩ := Blk.cells10 L6.tail.head
    obtain ⟨a0, a1, a2, a3, a4, a5, a6, a7, a8, a9⟩ := Blk.cells10 L6.head
    obtain ⟨b0, b1, b2, b3, b4, b5, b6, b7, b8, b9⟩ := Blk.cells10 L6.tail.tail.tail.head
    go_wp2_with fail
    refine (H.may_at _ (H.invB hv hbe6) HO.out HY.out).mono ?_
    rintro e w5 ⟨rfl, hb5⟩
    have L7 := L6.below hb5
    have hbe7 := below_step hbe6 hb5 hbe6.size
    clear c0 c1 c2 c3 c4 c5 c6 c7 c8 c9 a0 a1 a2 a3 a4 a5 a6 a7 a8 a9 b0 b1 b2 b3 b4 b5 b6 b7 b8 b9 L6 hbe6 hb5
    obtain ⟨c0, c1, c2, c3, c4, c5, c6, c7, c8, c9⟩ := Blk.cells10 L7.tail.head
    cases y with
    | false =>
      go_wp2_with fail
      go_ret
      exact ⟨rfl, hbe7⟩
    | true =>
      go_wp2_with fail
      refine (H.may_at (q := true) _ (H.invB hv hbe7) HO'.out (HY'.out HY.out)).mono ?_
      rintro e w6 ⟨rfl, hb6⟩
      have hbe8 := below_step hbe7 hb6 hbe7.size
      go_wp2_with fail
      go_ret
      exact ⟨rfl, hbe8⟩
  | false =>
    go_wp2_with fail
    refine (H.get_at (k := 2) _ (H.invB hv hbe5) HN.out HG.out).mono ?_
    rintro e w4 ⟨rfl, hb4⟩
    have L6 := L5.below hb4
    have hbe6 := below_step hbe5 hb4 hbe5.size
    clear c0 c1 c2 c3 c4 c5 c6 c7 c8 c9 d0 d1 L5 hbe5 hb4
    obtain ⟨c0, c1, c2, c3, c4, c5, c6, c7, c8, c9⟩ := Blk.cells10 L6.tail.head
    obtain ⟨a0, a1, a2, a3, a4, a5, a6, a7, a8, a9⟩ := Blk.cells10 L6.head
    obtain ⟨b0, b1, b2, b3, b4, b5, b6, b7, b8, b9⟩ := Blk.cells10 L6.tail.tail.tail.head
    go_wp2_with fail
    refine (H.may_at _ (H.invB hv hbe6) HO.out HY.out).mono ?_
    rintro e w5 ⟨rfl, hb5⟩
    have L7 := L6.below hb5
    have hbe7 := below_step hbe6 hb5 hbe6.size
    clear c0 c1 c2 c3 c4 c5 c6 c7 c8 c9 a0 a1 a2 a3 a4 a5 a6 a7 a8 a9 b0 b1 b2 b3 b4 b5 b6 b7 b8 b9 L6 hbe6 hb5
    obtain ⟨c0, c1, c2, c3, c4, c5, c6, c7, c8, c9⟩ := Blk.cells10 L7.tail.head
    cases y with
    | false =>
      go_wp2_with fail
      go_ret
      exact ⟨rfl, hbe7⟩
    | true =>
      go_wp2_with fail
      refine (H.may_at (q := true) _ (H.invB hv hbe7) HO'.out (HY'.out HY.out)).mono ?_
      rintro e w6 ⟨rfl, hb6⟩
      have hbe8 := below_step hbe7 hb6 hbe7.size
      go_wp2_with fail
      go_ret
      exact ⟨rfl, hbe8⟩
theorem modesTold_walk (H : ModC Inv) (m : Mo) (hm : okM m) (n : Int) (lo : -9223372036854775808 ≤ n) (hi : n ≤ 9223372036854775807) (p on : Bool) (w : World) (hv : Inv w) :
    Calls Try.prog 4 #[moV m, .int .i64 n, .agg #[.bool p, .bool on]] w fun e w' => e = .returned (.bool true) ∧ Below w.heap.size w w' := by
  cases hc : canM p n with
  | false => exact told_no H m n ⟨lo, hi⟩ p on w hv hc
  | true => exact told_yes H m hm n ⟨lo, hi⟩ p on w hv hc
end
end Go.Proofs.Ytdjglfgdmakjgaa
