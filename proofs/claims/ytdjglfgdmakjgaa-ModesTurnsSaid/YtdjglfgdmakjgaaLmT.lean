/-
  Layer 6: the walk of ModesTurns.
-/
import Derived.Test.YtdjglfgdmakjgaaLmS
namespace Go.Proofs.Ytdjglfgdmakjgaa
open Go.RowKit

section
variable {Inv : World → Prop}
set_option maxRecDepth 100000 in
set_option maxHeartbeats 16000000 in
theorem turns_skip (H : ModC Inv) (m : Mo) (n k : Int) (x y : Bool) (w : World) (hv : Inv w) (h : n = k ∨ (9 ≤ n ∧ n ≤ 1003 ∧ n ≠ 66 ∧ n ≠ 67) ∨ (1005 ≤ n ∧ n ≤ 1015)) :
    Calls Try.prog 8 #[moV m, .agg #[.int .i64 n, .int .i64 k], .agg #[.bool x, .bool y]] w fun e w' => e = .returned (.bool true) ∧ Below w.heap.size w w' := by
  have hbe : Below w.heap.size w (((w.alloc (.cells (moC m) 23)).alloc (.cells #[.int .i64 n, .int .i64 k] 31)).alloc (.cells #[.bool x, .bool y] 24)) := (((Below.refl _ w).alloc (Nat.le_refl _) _).alloc (by simp) _).alloc (by simp; omega) _
  have L2 := (((Bl.nil w).add 23 (moC m)).add 31 #[.int .i64 n, .int .i64 k]).add 24 #[.bool x, .bool y]
  simp only [World.size_alloc, moC] at L2
  rw [moV]
  have h' : n = k ∨ (n ≠ k ∧ 9 ≤ n ∧ n ≤ 1003 ∧ n ≠ 66 ∧ n ≠ 67) ∨ (n ≠ k ∧ 1005 ≤ n ∧ n ≤ 1015) := by omega
  clear h
  rcases h' with rfl | ⟨h0, h1, h2, h3, h4⟩ | ⟨h0, h1, h2⟩
  · go_enter Try.func8, Try.ntmps8
    go_wp2_with fail
    refine (modesAwake H _ (H.invB hv hbe)).mono ?_
    rintro e w1 ⟨rfl, hb1⟩
    have L3 := L2.below hb1
    have hbe1 := below_step hbe hb1 hbe.size
    clear L2 hbe hb1
    have d0 := L3.tail.head.cell 0
    have d1 := L3.tail.head.cell 1
    go_wp2_with fail
    go_ret
    exact ⟨rfl, hbe1⟩
  · have t0 : (n == k) = false := beq_false_of_ne h0
    have t3 : (n == 66) = false := beq_false_of_ne h3
    have t4 : (n == 67) = false := beq_false_of_ne h4
    clear h0
    go_enter Try.func8, Try.ntmps8
    go_wp2_with fail
    refine (modesAwake H _ (H.invB hv hbe)).mono ?_
    rintro e w1 ⟨rfl, hb1⟩
    have L3 := L2.below hb1
    have hbe1 := below_step hbe hb1 hbe.size
    clear L2 hbe hb1
    have d0 := L3.tail.head.cell 0
    have d1 := L3.tail.head.cell 1
    go_wp2_with fail
    go_ret
    exact ⟨rfl, hbe1⟩
  · have t0 : (n == k) = false := beq_false_of_ne h0
    clear h0
    go_enter Try.func8, Try.ntmps8
    go_wp2_with fail
    refine (modesAwake H _ (H.invB hv hbe)).mono ?_
    rintro e w1 ⟨rfl, hb1⟩
    have L3 := L2.below hb1
    have hbe1 := below_step hbe hb1 hbe.size
    clear L2 hbe hb1
    have d0 := L3.tail.head.cell 0
    have d1 := L3.tail.head.cell 1
    go_wp2_with fail
    go_ret
    exact ⟨rfl, hbe1⟩
set_option maxRecDepth 100000 in
set_option maxHeartbeats 16000000 in
theorem turns_go (H : ModC Inv) (m : Mo) (n k : Int) (hn : inI n) (hk : inI k) (x y : Bool) (w : World) (hv : Inv w) (hnk : n ≠ k) (h : n < 9 ∨ n = 66 ∨ n = 67 ∨ n = 1004 ∨ 1015 < n) :
    Calls Try.prog 8 #[moV m, .agg #[.int .i64 n, .int .i64 k], .agg #[.bool x, .bool y]] w fun e w' => e = .returned (.bool true) ∧ Below w.heap.size w w' := by
  have hmn : mouseN n = false := by
    cases hh : mouseN n with
    | false => rfl
    | true => have := (mouseN_iff n).1 hh; omega
  have hcn : codingN n = false := by
    cases hh : codingN n with
    | false => rfl
    | true => have := (codingN_iff n).1 hh; omega
  have ht := set_turns m (n := n) (k := k) x y hnk hmn hcn
  obtain ⟨ma, qa, ha⟩ : ∃ m' q, setM m true n x = (m', q) := ⟨_, _, rfl⟩
  obtain ⟨mb, qb, hb⟩ : ∃ m' q, setM ma true k y = (m', q) := ⟨_, _, rfl⟩
  obtain ⟨mc, qc, hc⟩ : ∃ m' q, setM m true k y = (m', q) := ⟨_, _, rfl⟩
  obtain ⟨md, qd, hd⟩ : ∃ m' q, setM mc true n x = (m', q) := ⟨_, _, rfl⟩
  rw [ha, hb, hc, hd] at ht
  obtain rfl : mb = md := ht
  have HA := Lib.hid ha
  have HB := Lib.hid hb
  have HC := Lib.hid hc
  have HD := Lib.hid hd
  have HN := Lib.hid hn
  have HK := Lib.hid hk
  have t0 : (n == k) = false := beq_false_of_ne hnk
  clear ha hb hc hd hn hk hmn hcn hnk
  have hbe : Below w.heap.size w (((w.alloc (.cells (moC m) 23)).alloc (.cells #[.int .i64 n, .int .i64 k] 31)).alloc (.cells #[.bool x, .bool y] 24)) := (((Below.refl _ w).alloc (Nat.le_refl _) _).alloc (by simp) _).alloc (by simp; omega) _
  have L2 := (((Bl.nil w).add 23 (moC m)).add 31 #[.int .i64 n, .int .i64 k]).add 24 #[.bool x, .bool y]
  simp only [World.size_alloc, moC] at L2
  rw [moV]
  rcases h with h | rfl | rfl | rfl | h
  all_goals
    go_enter Try.func8, Try.ntmps8
    go_wp2_with fail
    refine (modesAwake H _ (H.invB hv hbe)).mono ?_
    rintro e w1 ⟨rfl, hb1⟩
    have L3 := L2.below hb1
    have hbe1 := below_step hbe hb1 hbe.size
    clear L2 hbe hb1
    obtain ⟨c0, c1, c2, c3, c4, c5, c6, c7, c8, c9⟩ := Blk.cells10 L3.tail.tail.head
    have d0 := L3.tail.head.cell 0
    have d1 := L3.tail.head.cell 1
    have f0 := L3.head.cell 0
    have f1 := L3.head.cell 1
    go_wp2_with fail
    refine (H.set_at w1 (H.invB hv hbe1) HN.out HA.out).mono ?_
    rintro e w2 ⟨rfl, hb2⟩
    have L4 := (L3.below hb2).add 23 (moC ma)
    have hbe2 := below_step hbe1 hb2 hbe1.size
    have hbe3 := hbe2.alloc hbe2.size (.cells (moC ma) 23)
    simp only [moC] at L4 hbe3
    clear c0 c1 c2 c3 c4 c5 c6 c7 c8 c9 d0 d1 f0 f1 L3 hbe1 hbe2 hb2
    obtain ⟨c0, c1, c2, c3, c4, c5, c6, c7, c8, c9⟩ := Blk.cells10 L4.head
    have d0 := L4.tail.tail.head.cell 0
    have d1 := L4.tail.tail.head.cell 1
    have f0 := L4.tail.head.cell 0
    have f1 := L4.tail.head.cell 1
    rw [moV]
    go_wp2_with fail
    refine (H.set_at _ (H.invB hv hbe3) HK.out HB.out).mono ?_
    rintro e w3 ⟨rfl, hb3⟩
    have L5 := (L4.below hb3).add 23 (moC mb)
    have hbe4 := below_step hbe3 hb3 hbe3.size
    have hbe5 := hbe4.alloc hbe4.size (.cells (moC mb) 23)
    simp only [moC] at L5 hbe5
    clear c0 c1 c2 c3 c4 c5 c6 c7 c8 c9 d0 d1 f0 f1 L4 hbe3 hbe4 hb3
    obtain ⟨c0, c1, c2, c3, c4, c5, c6, c7, c8, c9⟩ := Blk.cells10 L5.tail.tail.tail.tail.head
    have d0 := L5.tail.tail.tail.head.cell 0
    have d1 := L5.tail.tail.tail.head.cell 1
    have f0 := L5.tail.tail.head.cell 0
    have f1 := L5.tail.tail.head.cell 1
    rw [moV]
    go_wp2_with fail
    refine (H.set_at _ (H.invB hv hbe5) HK.out HC.out).mono ?_
    rintro e w4 ⟨rfl, hb4⟩
    have L6 := (L5.below hb4).add 23 (moC mc)
    have hbe6 := below_step hbe5 hb4 hbe5.size
    have hbe7 := hbe6.alloc hbe6.size (.cells (moC mc) 23)
    simp only [moC] at L6 hbe7
    clear c0 c1 c2 c3 c4 c5 c6 c7 c8 c9 d0 d1 f0 f1 L5 hbe5 hbe6 hb4
    obtain ⟨c0, c1, c2, c3, c4, c5, c6, c7, c8, c9⟩ := Blk.cells10 L6.head
    have d0 := L6.tail.tail.tail.tail.head.cell 0
    have d1 := L6.tail.tail.tail.tail.head.cell 1
    have f0 := L6.tail.tail.tail.head.cell 0
    have f1 := L6.tail.tail.tail.head.cell 1
    rw [moV]
    go_wp2_with fail
    refine (H.set_at _ (H.invB hv hbe7) HN.out HD.out).mono ?_
    rintro e w5 ⟨rfl, hb5⟩
    have L7 := (L6.below hb5).add 23 (moC mb)
    have hbe8 := below_step hbe7 hb5 hbe7.size
    have hbe9 := hbe8.alloc hbe8.size (.cells (moC mb) 23)
    simp only [moC] at L7 hbe9
    clear c0 c1 c2 c3 c4 c5 c6 c7 c8 c9 d0 d1 f0 f1 L6 hbe7 hbe8 hb5
    obtain ⟨c0, c1, c2, c3, c4, c5, c6, c7, c8, c9⟩ := Blk.cells10 L7.head
    obtain ⟨d0, d1, d2, d3, d4, d5, d6, d7, d8, d9⟩ := Blk.cells10 L7.tail.tail.head
    rw [moV]
    go_wp2_with fail
    go_ret
    exact ⟨rfl, hbe9⟩
theorem modesTurns_walk (H : ModC Inv) (m : Mo) (_hm : okM m) (n k : Int) (hn : -9223372036854775808 ≤ n ∧ n ≤ 9223372036854775807) (hk : -9223372036854775808 ≤ k ∧ k ≤ 9223372036854775807) (x y : Bool) (w : World) (hv : Inv w) :
    Calls Try.prog 8 #[moV m, .agg #[.int .i64 n, .int .i64 k], .agg #[.bool x, .bool y]] w fun e w' => e = .returned (.bool true) ∧ Below w.heap.size w w' := by
  by_cases h : n = k ∨ (9 ≤ n ∧ n ≤ 1003 ∧ n ≠ 66 ∧ n ≠ 67) ∨ (1005 ≤ n ∧ n ≤ 1015)
  · exact turns_skip H m n k x y w hv h
  · exact turns_go H m n k hn hk x y w hv (by omega) (by omega)
end
end Go.Proofs.Ytdjglfgdmakjgaa
