/-
  Layer 6: the walk of ModesOwn.
-/
import Derived.Test.YtdjglfgdmakjgaaLmS
namespace Go.Proofs.Ytdjglfgdmakjgaa
open Go.RowKit

theorem own_len : ownM.length = 12 := rfl
/-- Whether it is among the first k. -/
def inOwn (n : Int) (k : Nat) : Bool := (ownM.take k).contains n
theorem inOwn_succ (n : Int) (k : Nat) (h : k < 12) : inOwn n (k + 1) = (inOwn n k || ((ownM[k]'h) == n)) := by
  unfold inOwn
  rw [take_step k h, List.contains_append, List.contains_cons, List.contains_nil, Bool.or_false]
  congr 1
  rw [Bool.eq_iff_iff, beq_iff_eq, beq_iff_eq]
  exact ⟨Eq.symm, Eq.symm⟩
theorem inOwn_all (n : Int) : inOwn n 12 = canM true n := by
  rw [can_own]
  rfl
theorem can_plain (n : Int) : canM false n = decide (n = 2 ∨ n = 20) := by simp [canM]
theorem own_inI {k : Nat} (h : k < 12) : inI (ownM[k]'h) := by
  have : ∀ x ∈ ownM, inI x := by
    intro x hx
    simp only [ownM, List.mem_cons, List.mem_nil_iff, or_false] at hx
    rcases hx with rfl | rfl | rfl | rfl | rfl | rfl | rfl | rfl | rfl | rfl | rfl | rfl <;> exact ⟨by decide, by decide⟩
  exact this _ (List.getElem_mem h)
section
variable {Inv : World → Prop}
set_option maxRecDepth 100000 in
set_option maxHeartbeats 16000000 in
theorem modesOwn_walk (H : ModC Inv) (m : Mo) (_hm : okM m) (n : Int) (lo : -9223372036854775808 ≤ n) (hi : n ≤ 9223372036854775807) (w : World) (hv : Inv w) :
    Calls Try.prog 7 #[moV m, .int .i64 n] w fun e w' => e = .returned (.bool true) ∧ Below w.heap.size w w' := by
  have HN := Lib.hid (show inI n from ⟨lo, hi⟩)
  obtain ⟨m1, q1, h1⟩ : ∃ m' q, setM m true n true = (m', q) := ⟨_, _, rfl⟩
  obtain ⟨m2, q2, h2⟩ : ∃ m' q, setM m false n true = (m', q) := ⟨_, _, rfl⟩
  have e1 : q1 = canM true n := by rw [← set_can m true n true, h1]
  have e2 : q2 = canM false n := by rw [← set_can m false n true, h2]
  have H1 := Lib.hid h1
  have H2 := Lib.hid h2
  have E1 := Lib.hid e1
  have E2 := Lib.hid e2
  clear lo hi h1 h2 e1 e2
  have hbe : Below w.heap.size w (w.alloc (.cells (moC m) 23)) := (Below.refl _ w).alloc (Nat.le_refl _) _
  have L2 := (Bl.nil w).add 23 (moC m)
  rw [moV]
  go_enter Try.func7, Try.ntmps7
  go_wp2_with fail
  refine (modesAwake H _ (H.invB hv hbe)).mono ?_
  rintro e w1 ⟨rfl, hb1⟩
  have L3 := L2.below hb1
  have hbe1 := below_step hbe hb1 hbe.size
  clear L2 hbe hb1
  go_wp2_with fail
  refine (H.own w1 (H.invB hv hbe1)).mono ?_
  rintro e w2 ⟨A, c, rfl, hc12, hr, hb2⟩
  have L4 := L3.below hb2
  have hbe2 := below_step hbe1 hb2 hbe1.size
  clear L3 hbe1 hb2
  obtain ⟨b, o, rfl, hbl, hcell⟩ := hr.int_at (by decide)
  clear hr
  go_wp2_with fail
  go_loop [7, 8] (fun y i => ∃ k : Nat, k ≤ 12 ∧ i = .int .i64 k ∧ y = .bool (inOwn n k)) (fun _ i => 12 - (intOf i).toNat)
  case atStart => exact ⟨0, Nat.zero_le _, rfl, rfl⟩
  case round =>
    obtain ⟨k, hk, rfl, rfl⟩ := hrel
    by_cases hlt : k < 12
    · have hck := hcell k hlt
      have hst := inOwn_succ n k hlt
      obtain ⟨x, hx⟩ : ∃ x, ownM[k]'hlt = x := ⟨_, rfl⟩
      rw [hx] at hst
      have hck2 : w2.cell? ⟨b, o + k, none⟩ = some (.int .i64 x) := by rw [← hx]; exact hck
      obtain ⟨y, hy⟩ : ∃ y, inOwn n k = y := ⟨_, rfl⟩
      rw [hy] at hst ⊢
      obtain ⟨z, hz⟩ : ∃ z, (x == n) = z := ⟨_, rfl⟩
      rw [hz] at hst
      have HST := Lib.hid hst
      clear hst hy hx hck
      cases y with
      | true =>
        go_wp2
        go_round
        case rel => exact ⟨k + 1, by omega, by go_num, by rw [HST.out]; rfl⟩
        case measure => simp [intOf]; omega
      | false =>
        cases z with
        | true =>
          go_wp2
          go_round
          case rel => exact ⟨k + 1, by omega, by go_num, by rw [HST.out]; rfl⟩
          case measure => simp [intOf]; omega
        | false =>
          go_wp2
          go_round
          case rel => exact ⟨k + 1, by omega, by go_num, by rw [HST.out]; rfl⟩
          case measure => simp [intOf]; omega
    · obtain rfl : k = 12 := by omega
      rw [inOwn_all, ← E1.out]
      clear hcell hlt hk
      obtain ⟨c0, c1, c2, c3, c4, c5, c6, c7, c8, c9⟩ := Blk.cells10 L4.head
      go_wp2_with fail
      refine (H.set_at w2 (H.invB hv hbe2) HN.out H1.out).mono ?_
      rintro e w3 ⟨rfl, hb3⟩
      have L5 := (L4.below hb3).add 23 (moC m1)
      have hbe3 := below_step hbe2 hb3 hbe2.size
      have hbe4 := hbe3.alloc hbe3.size (.cells (moC m1) 23)
      simp only [moC] at L5 hbe4
      clear c0 c1 c2 c3 c4 c5 c6 c7 c8 c9 L4 hbe2 hbe3 hb3
      obtain ⟨c0, c1, c2, c3, c4, c5, c6, c7, c8, c9⟩ := Blk.cells10 L5.tail.head
      rw [moV]
      go_wp2_with fail
      refine (H.set_at _ (H.invB hv hbe4) HN.out H2.out).mono ?_
      rintro e w4 ⟨rfl, hb4⟩
      have hbe5 := below_step hbe4 hb4 hbe4.size
      have hbe6 := hbe5.alloc hbe5.size (.cells (moC m2) 23)
      simp only [moC] at hbe6
      clear c0 c1 c2 c3 c4 c5 c6 c7 c8 c9 L5 hbe4 hbe5 hb4
      rw [moV]
      have e2 := E2.out
      rw [can_plain] at e2
      by_cases n2 : n = 2
      · subst n2
        obtain rfl : q2 = true := e2
        go_wp2_with fail
        go_ret
        exact ⟨ret_b (by first | rfl | simp), hbe6⟩
      · by_cases n20 : n = 20
        · subst n20
          obtain rfl : q2 = true := e2
          go_wp2_with fail
          go_ret
          exact ⟨ret_b (by first | rfl | simp), hbe6⟩
        · obtain rfl : q2 = false := by rw [e2]; simp [n2, n20]
          clear e2
          have t2 : (n == 2) = false := beq_false_of_ne n2
          have t20 : (n == 20) = false := beq_false_of_ne n20
          go_wp2_with fail
          go_ret
          exact ⟨ret_b (by first | rfl | simp [*]), hbe6⟩
end
end Go.Proofs.Ytdjglfgdmakjgaa
