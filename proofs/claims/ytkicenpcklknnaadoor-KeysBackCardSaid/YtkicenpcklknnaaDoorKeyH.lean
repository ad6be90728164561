/-
  Layer 9: the walk of KeysBack.
-/
import Derived.Test.YtkicenpcklknnaaDoorKeyG
namespace Go.Proofs.YtkicenpcklknnaaDoor
open Go.RowKit

theorem rng_fin : ∀ k : Fin 111, (0 ≤ (lookE (57344 + (k.1 : Int))).fin ∧ (lookE (57344 + (k.1 : Int))).fin ≤ 255) ∧ 0 ≤ (lookE (57344 + (k.1 : Int))).num ∧ (lookE (57344 + (k.1 : Int))).num ≤ 255 := by decide +kernel
theorem look_rng (c : Int) : (0 ≤ (lookE c).fin ∧ (lookE c).fin ≤ 255) ∧ 0 ≤ (lookE c).num ∧ (lookE c).num ≤ 255 := by
  by_cases h : c < 57344 ∨ 57455 ≤ c
  · rw [look_out h]
    exact ⟨⟨Int.le_refl _, by show (0 : Int) ≤ 255; decide⟩, Int.le_refl _, by show (0 : Int) ≤ 255; decide⟩
  · obtain ⟨k, hk2⟩ : ∃ k : Fin 111, c = 57344 + (k.1 : Int) := ⟨⟨(c - 57344).toNat, by omega⟩, by simp; omega⟩
    rw [hk2]
    exact rng_fin k
theorem back_main {c K F N C : Int} {B : Bool} (hE : lookE c = ⟨K, F, N, C, B⟩) :
    (K = 3 ∧ B = false ∧ findE F N = (c, true)) ∨ (K = 3 ∧ B = true) ∨ (K = 4 ∧ B = false ∧ findE 126 N = (c, true)) ∨ (K = 4 ∧ B = true) ∨ ((K == 3) = false ∧ (K == 4) = false) := by
  have h := @main_found c
  rw [hE] at h
  simp only at h
  by_cases h3 : K = 3
  · cases B with
    | true => exact .inr (.inl ⟨h3, rfl⟩)
    | false =>
      have := h (.inl h3) rfl
      rw [if_neg (by omega)] at this
      exact .inl ⟨h3, rfl, this⟩
  · by_cases h4 : K = 4
    · cases B with
      | true => exact .inr (.inr (.inr (.inl ⟨h4, rfl⟩)))
      | false =>
        have := h (.inr h4) rfl
        rw [if_pos h4] at this
        exact .inr (.inr (.inl ⟨h4, rfl, this⟩))
    · exact .inr (.inr (.inr (.inr ⟨beq_false_of_ne h3, beq_false_of_ne h4⟩)))
theorem found_cases {f n b : Int} {t : Bool} (hE : findE f n = (b, t)) :
    (t = false ∧ b = 0) ∨ (t = true ∧ in64 b ∧ ∃ N C, lookE b = ⟨3, f, N, C, false⟩) ∨ (t = true ∧ in64 b ∧ f = 126 ∧ ∃ F C, lookE b = ⟨4, F, n, C, false⟩) := by
  cases t with
  | false =>
    have h : (findE f n).2 = false := by rw [hE]
    have := (find_none f n 55 57344 h).1
    have e : (findE f n).1 = 0 := this
    rw [hE] at e
    exact .inl ⟨rfl, e⟩
  | true =>
    have h : (findE f n).2 = true := by rw [hE]
    obtain ⟨_, h2, h3⟩ := find_hit f n 55 57344 h
    have h2' : 57344 ≤ (findE f n).1 := h2
    have h3' : (findE f n).1 < 57344 + 55 := h3
    have hr := found_right h
    rw [hE] at hr h2' h3'
    simp only at hr h2' h3'
    have hi : in64 b := ⟨by omega, by omega⟩
    obtain ⟨⟨K, F, N, C, B⟩, hb⟩ : ∃ E, lookE b = E := ⟨_, rfl⟩
    unfold hasE at hr
    rw [hb] at hr
    obtain ⟨h1, h2⟩ := hr
    simp only at h2
    subst h2
    simp only [Bool.or_eq_true, Bool.and_eq_true, beq_iff_eq] at h1
    rcases h1 with ⟨rfl, rfl⟩ | ⟨⟨rfl, rfl⟩, rfl⟩
    · exact .inr (.inl ⟨rfl, hi, N, C, hb⟩)
    · exact .inr (.inr ⟨rfl, hi, rfl, F, C, hb⟩)
section
variable {Inv : World → Prop}
set_option maxRecDepth 100000 in
set_option maxHeartbeats 32000000 in
theorem back_0_0 (H : KeysC Inv) (c F N C n f : Int)  (w : World) (hv : Inv w)
    (HL : Hid (∀ W, Inv W → Calls Tryd.prog 10 #[.int .i64 c] W fun e w' => e = .returned (.agg #[.int .i64 3, .int .u8 F, .int .i64 N, .int .i64 C, .bool false]) ∧ Below W.heap.size W w'))
    (HA : Hid (∀ W, Inv W → Calls Tryd.prog 13 #[.int .u8 F, .int .i64 N] W fun e w' => e = .returned (.tuple #[.int .i64 c, .bool true]) ∧ Below W.heap.size W w'))
    (HB : Hid (∀ W, Inv W → Calls Tryd.prog 13 #[.int .u8 f, .int .i64 n] W fun e w' => e = .returned (.tuple #[.int .i64 0, .bool false]) ∧ Below W.heap.size W w'))
    (HX : Hid (∀ W, Inv W → Calls Tryd.prog 10 #[.int .i64 0] W fun e w' => e = .returned (.agg #[.int .i64 0, .int .u8 0, .int .i64 0, .int .i64 0, .bool false]) ∧ Below W.heap.size W w')) :
    Calls Tryd.prog 6 #[.int .i64 c, .int .u8 f, .int .i64 n] w fun e w' => e = .returned (.bool true) ∧ Below w.heap.size w w' := by
  have ha := keysAwake H _ hv
  go_enter Tryd.func6, Tryd.ntmps6
  go_wp2_with fail
  refine ha.mono ?_
  rintro e w1 ⟨rfl, hb1⟩
  go_wp2_with fail
  refine (HL.out _ (H.invB hv hb1)).mono ?_
  rintro e w2 ⟨rfl, hb2⟩
  have hbx := (below_step9 hb1 hb2 hb1.size).alloc (below_step9 hb1 hb2 hb1.size).size (.cells #[.int .i64 3, .int .u8 F, .int .i64 N, .int .i64 C, .bool false] 24)
  have q0 := Blk.new w2 24 #[.int .i64 3, .int .u8 F, .int .i64 N, .int .i64 C, .bool false]
  go_wp2_with fail
  refine (HA.out _ (H.invB hv hbx)).mono ?_
  rintro e w3 ⟨rfl, hb3⟩
  have hbe3 := below_step9 hbx hb3 hbx.size
  have q1 := q0.below hb3 q0.lt
  have d0 := q1.cell 0
  have d4 := q1.cell 4
  clear ha hb1 hb2 q0 hbx
  go_wp2_with fail
  refine (HB.out _ (H.invB hv hbe3)).mono ?_
  rintro e w4 ⟨rfl, hb4⟩
  have hbe4 := below_step9 hbe3 hb4 hbe3.size
  clear d0 d4 q1 hb3
  go_wp2_with fail
  refine (HX.out _ (H.invB hv hbe4)).mono ?_
  rintro e w5 ⟨rfl, hb5⟩
  have hbE := (below_step9 hbe4 hb5 hbe4.size).alloc (below_step9 hbe4 hb5 hbe4.size).size (.cells #[.int .i64 0, .int .u8 0, .int .i64 0, .int .i64 0, .bool false] 24)
  go_wp2_with fail
  go_ret
  exact ⟨rfl, hbE⟩
set_option maxRecDepth 100000 in
set_option maxHeartbeats 32000000 in
theorem back_0_1 (H : KeysC Inv) (c F N C n b f N2 C2 : Int)  (w : World) (hv : Inv w)
    (HL : Hid (∀ W, Inv W → Calls Tryd.prog 10 #[.int .i64 c] W fun e w' => e = .returned (.agg #[.int .i64 3, .int .u8 F, .int .i64 N, .int .i64 C, .bool false]) ∧ Below W.heap.size W w'))
    (HA : Hid (∀ W, Inv W → Calls Tryd.prog 13 #[.int .u8 F, .int .i64 N] W fun e w' => e = .returned (.tuple #[.int .i64 c, .bool true]) ∧ Below W.heap.size W w'))
    (HB : Hid (∀ W, Inv W → Calls Tryd.prog 13 #[.int .u8 f, .int .i64 n] W fun e w' => e = .returned (.tuple #[.int .i64 b, .bool true]) ∧ Below W.heap.size W w'))
    (HX : Hid (∀ W, Inv W → Calls Tryd.prog 10 #[.int .i64 b] W fun e w' => e = .returned (.agg #[.int .i64 3, .int .u8 f, .int .i64 N2, .int .i64 C2, .bool false]) ∧ Below W.heap.size W w')) :
    Calls Tryd.prog 6 #[.int .i64 c, .int .u8 f, .int .i64 n] w fun e w' => e = .returned (.bool true) ∧ Below w.heap.size w w' := by
  have ha := keysAwake H _ hv
  go_enter Tryd.func6, Tryd.ntmps6
  go_wp2_with fail
  refine ha.mono ?_
  rintro e w1 ⟨rfl, hb1⟩
  go_wp2_with fail
  refine (HL.out _ (H.invB hv hb1)).mono ?_
  rintro e w2 ⟨rfl, hb2⟩
  have hbx := (below_step9 hb1 hb2 hb1.size).alloc (below_step9 hb1 hb2 hb1.size).size (.cells #[.int .i64 3, .int .u8 F, .int .i64 N, .int .i64 C, .bool false] 24)
  have q0 := Blk.new w2 24 #[.int .i64 3, .int .u8 F, .int .i64 N, .int .i64 C, .bool false]
  go_wp2_with fail
  refine (HA.out _ (H.invB hv hbx)).mono ?_
  rintro e w3 ⟨rfl, hb3⟩
  have hbe3 := below_step9 hbx hb3 hbx.size
  have q1 := q0.below hb3 q0.lt
  have d0 := q1.cell 0
  have d4 := q1.cell 4
  clear ha hb1 hb2 q0 hbx
  go_wp2_with fail
  refine (HB.out _ (H.invB hv hbe3)).mono ?_
  rintro e w4 ⟨rfl, hb4⟩
  have hbe4 := below_step9 hbe3 hb4 hbe3.size
  clear d0 d4 q1 hb3
  go_wp2_with fail
  refine (HX.out _ (H.invB hv hbe4)).mono ?_
  rintro e w5 ⟨rfl, hb5⟩
  have hbE := (below_step9 hbe4 hb5 hbe4.size).alloc (below_step9 hbe4 hb5 hbe4.size).size (.cells #[.int .i64 3, .int .u8 f, .int .i64 N2, .int .i64 C2, .bool false] 24)
  go_wp2_with fail
  go_ret
  exact ⟨rfl, hbE⟩
set_option maxRecDepth 100000 in
set_option maxHeartbeats 32000000 in
theorem back_0_2 (H : KeysC Inv) (c F N C n b C2 F2 : Int)  (w : World) (hv : Inv w)
    (HL : Hid (∀ W, Inv W → Calls Tryd.prog 10 #[.int .i64 c] W fun e w' => e = .returned (.agg #[.int .i64 3, .int .u8 F, .int .i64 N, .int .i64 C, .bool false]) ∧ Below W.heap.size W w'))
    (HA : Hid (∀ W, Inv W → Calls Tryd.prog 13 #[.int .u8 F, .int .i64 N] W fun e w' => e = .returned (.tuple #[.int .i64 c, .bool true]) ∧ Below W.heap.size W w'))
    (HB : Hid (∀ W, Inv W → Calls Tryd.prog 13 #[.int .u8 126, .int .i64 n] W fun e w' => e = .returned (.tuple #[.int .i64 b, .bool true]) ∧ Below W.heap.size W w'))
    (HX : Hid (∀ W, Inv W → Calls Tryd.prog 10 #[.int .i64 b] W fun e w' => e = .returned (.agg #[.int .i64 4, .int .u8 F2, .int .i64 n, .int .i64 C2, .bool false]) ∧ Below W.heap.size W w')) :
    Calls Tryd.prog 6 #[.int .i64 c, .int .u8 126, .int .i64 n] w fun e w' => e = .returned (.bool true) ∧ Below w.heap.size w w' := by
  have ha := keysAwake H _ hv
  go_enter Tryd.func6, Tryd.ntmps6
  go_wp2_with fail
  refine ha.mono ?_
  rintro e w1 ⟨rfl, hb1⟩
  go_wp2_with fail
  refine (HL.out _ (H.invB hv hb1)).mono ?_
  rintro e w2 ⟨rfl, hb2⟩
  have hbx := (below_step9 hb1 hb2 hb1.size).alloc (below_step9 hb1 hb2 hb1.size).size (.cells #[.int .i64 3, .int .u8 F, .int .i64 N, .int .i64 C, .bool false] 24)
  have q0 := Blk.new w2 24 #[.int .i64 3, .int .u8 F, .int .i64 N, .int .i64 C, .bool false]
  go_wp2_with fail
  refine (HA.out _ (H.invB hv hbx)).mono ?_
  rintro e w3 ⟨rfl, hb3⟩
  have hbe3 := below_step9 hbx hb3 hbx.size
  have q1 := q0.below hb3 q0.lt
  have d0 := q1.cell 0
  have d4 := q1.cell 4
  clear ha hb1 hb2 q0 hbx
  go_wp2_with fail
  refine (HB.out _ (H.invB hv hbe3)).mono ?_
  rintro e w4 ⟨rfl, hb4⟩
  have hbe4 := below_step9 hbe3 hb4 hbe3.size
  clear d0 d4 q1 hb3
  go_wp2_with fail
  refine (HX.out _ (H.invB hv hbe4)).mono ?_
  rintro e w5 ⟨rfl, hb5⟩
  have hbE := (below_step9 hbe4 hb5 hbe4.size).alloc (below_step9 hbe4 hb5 hbe4.size).size (.cells #[.int .i64 4, .int .u8 F2, .int .i64 n, .int .i64 C2, .bool false] 24)
  go_wp2_with fail
  go_ret
  exact ⟨rfl, hbE⟩
set_option maxRecDepth 100000 in
set_option maxHeartbeats 32000000 in
theorem back_1_0 (H : KeysC Inv) (c F N C n a f : Int) (is : Bool)  (w : World) (hv : Inv w)
    (HL : Hid (∀ W, Inv W → Calls Tryd.prog 10 #[.int .i64 c] W fun e w' => e = .returned (.agg #[.int .i64 3, .int .u8 F, .int .i64 N, .int .i64 C, .bool true]) ∧ Below W.heap.size W w'))
    (HA : Hid (∀ W, Inv W → Calls Tryd.prog 13 #[.int .u8 F, .int .i64 N] W fun e w' => e = .returned (.tuple #[.int .i64 a, .bool is]) ∧ Below W.heap.size W w'))
    (HB : Hid (∀ W, Inv W → Calls Tryd.prog 13 #[.int .u8 f, .int .i64 n] W fun e w' => e = .returned (.tuple #[.int .i64 0, .bool false]) ∧ Below W.heap.size W w'))
    (HX : Hid (∀ W, Inv W → Calls Tryd.prog 10 #[.int .i64 0] W fun e w' => e = .returned (.agg #[.int .i64 0, .int .u8 0, .int .i64 0, .int .i64 0, .bool false]) ∧ Below W.heap.size W w')) :
    Calls Tryd.prog 6 #[.int .i64 c, .int .u8 f, .int .i64 n] w fun e w' => e = .returned (.bool true) ∧ Below w.heap.size w w' := by
  have ha := keysAwake H _ hv
  go_enter Tryd.func6, Tryd.ntmps6
  go_wp2_with fail
  refine ha.mono ?_
  rintro e w1 ⟨rfl, hb1⟩
  go_wp2_with fail
  refine (HL.out _ (H.invB hv hb1)).mono ?_
  rintro e w2 ⟨rfl, hb2⟩
  have hbx := (below_step9 hb1 hb2 hb1.size).alloc (below_step9 hb1 hb2 hb1.size).size (.cells #[.int .i64 3, .int .u8 F, .int .i64 N, .int .i64 C, .bool true] 24)
  have q0 := Blk.new w2 24 #[.int .i64 3, .int .u8 F, .int .i64 N, .int .i64 C, .bool true]
  go_wp2_with fail
  refine (HA.out _ (H.invB hv hbx)).mono ?_
  rintro e w3 ⟨rfl, hb3⟩
  have hbe3 := below_step9 hbx hb3 hbx.size
  have q1 := q0.below hb3 q0.lt
  have d0 := q1.cell 0
  have d4 := q1.cell 4
  clear ha hb1 hb2 q0 hbx
  go_wp2_with fail
  refine (HB.out _ (H.invB hv hbe3)).mono ?_
  rintro e w4 ⟨rfl, hb4⟩
  have hbe4 := below_step9 hbe3 hb4 hbe3.size
  clear d0 d4 q1 hb3
  go_wp2_with fail
  refine (HX.out _ (H.invB hv hbe4)).mono ?_
  rintro e w5 ⟨rfl, hb5⟩
  have hbE := (below_step9 hbe4 hb5 hbe4.size).alloc (below_step9 hbe4 hb5 hbe4.size).size (.cells #[.int .i64 0, .int .u8 0, .int .i64 0, .int .i64 0, .bool false] 24)
  go_wp2_with fail
  go_ret
  exact ⟨rfl, hbE⟩
set_option maxRecDepth 100000 in
set_option maxHeartbeats 32000000 in
theorem back_1_1 (H : KeysC Inv) (c F N C n a b f N2 C2 : Int) (is : Bool)  (w : World) (hv : Inv w)
    (HL : Hid (∀ W, Inv W → Calls Tryd.prog 10 #[.int .i64 c] W fun e w' => e = .returned (.agg #[.int .i64 3, .int .u8 F, .int .i64 N, .int .i64 C, .bool true]) ∧ Below W.heap.size W w'))
    (HA : Hid (∀ W, Inv W → Calls Tryd.prog 13 #[.int .u8 F, .int .i64 N] W fun e w' => e = .returned (.tuple #[.int .i64 a, .bool is]) ∧ Below W.heap.size W w'))
    (HB : Hid (∀ W, Inv W → Calls Tryd.prog 13 #[.int .u8 f, .int .i64 n] W fun e w' => e = .returned (.tuple #[.int .i64 b, .bool true]) ∧ Below W.heap.size W w'))
    (HX : Hid (∀ W, Inv W → Calls Tryd.prog 10 #[.int .i64 b] W fun e w' => e = .returned (.agg #[.int .i64 3, .int .u8 f, .int .i64 N2, .int .i64 C2, .bool false]) ∧ Below W.heap.size W w')) :
    Calls Tryd.prog 6 #[.int .i64 c, .int .u8 f, .int .i64 n] w fun e w' => e = .returned (.bool true) ∧ Below w.heap.size w w' := by
  have ha := keysAwake H _ hv
  go_enter Tryd.func6, Tryd.ntmps6
  go_wp2_with fail
  refine ha.mono ?_
  rintro e w1 ⟨rfl, hb1⟩
  go_wp2_with fail
  refine (HL.out _ (H.invB hv hb1)).mono ?_
  rintro e w2 ⟨rfl, hb2⟩
  have hbx := (below_step9 hb1 hb2 hb1.size).alloc (below_step9 hb1 hb2 hb1.size).size (.cells #[.int .i64 3, .int .u8 F, .int .i64 N, .int .i64 C, .bool true] 24)
  have q0 := Blk.new w2 24 #[.int .i64 3, .int .u8 F, .int .i64 N, .int .i64 C, .bool true]
  go_wp2_with fail
  refine (HA.out _ (H.invB hv hbx)).mono ?_
  rintro e w3 ⟨rfl, hb3⟩
  have hbe3 := below_step9 hbx hb3 hbx.size
  have q1 := q0.below hb3 q0.lt
  have d0 := q1.cell 0
  have d4 := q1.cell 4
  clear ha hb1 hb2 q0 hbx
  go_wp2_with fail
  refine (HB.out _ (H.invB hv hbe3)).mono ?_
  rintro e w4 ⟨rfl, hb4⟩
  have hbe4 := below_step9 hbe3 hb4 hbe3.size
  clear d0 d4 q1 hb3
  go_wp2_with fail
  refine (HX.out _ (H.invB hv hbe4)).mono ?_
  rintro e w5 ⟨rfl, hb5⟩
  have hbE := (below_step9 hbe4 hb5 hbe4.size).alloc (below_step9 hbe4 hb5 hbe4.size).size (.cells #[.int .i64 3, .int .u8 f, .int .i64 N2, .int .i64 C2, .bool false] 24)
  go_wp2_with fail
  go_ret
  exact ⟨rfl, hbE⟩
set_option maxRecDepth 100000 in
set_option maxHeartbeats 32000000 in
theorem back_1_2 (H : KeysC Inv) (c F N C n a b C2 F2 : Int) (is : Bool)  (w : World) (hv : Inv w)
    (HL : Hid (∀ W, Inv W → Calls Tryd.prog 10 #[.int .i64 c] W fun e w' => e = .returned (.agg #[.int .i64 3, .int .u8 F, .int .i64 N, .int .i64 C, .bool true]) ∧ Below W.heap.size W w'))
    (HA : Hid (∀ W, Inv W → Calls Tryd.prog 13 #[.int .u8 F, .int .i64 N] W fun e w' => e = .returned (.tuple #[.int .i64 a, .bool is]) ∧ Below W.heap.size W w'))
    (HB : Hid (∀ W, Inv W → Calls Tryd.prog 13 #[.int .u8 126, .int .i64 n] W fun e w' => e = .returned (.tuple #[.int .i64 b, .bool true]) ∧ Below W.heap.size W w'))
    (HX : Hid (∀ W, Inv W → Calls Tryd.prog 10 #[.int .i64 b] W fun e w' => e = .returned (.agg #[.int .i64 4, .int .u8 F2, .int .i64 n, .int .i64 C2, .bool false]) ∧ Below W.heap.size W w')) :
    Calls Tryd.prog 6 #[.int .i64 c, .int .u8 126, .int .i64 n] w fun e w' => e = .returned (.bool true) ∧ Below w.heap.size w w' := by
  have ha := keysAwake H _ hv
  go_enter Tryd.func6, Tryd.ntmps6
  go_wp2_with fail
  refine ha.mono ?_
  rintro e w1 ⟨rfl, hb1⟩
  go_wp2_with fail
  refine (HL.out _ (H.invB hv hb1)).mono ?_
  rintro e w2 ⟨rfl, hb2⟩
  have hbx := (below_step9 hb1 hb2 hb1.size).alloc (below_step9 hb1 hb2 hb1.size).size (.cells #[.int .i64 3, .int .u8 F, .int .i64 N, .int .i64 C, .bool true] 24)
  have q0 := Blk.new w2 24 #[.int .i64 3, .int .u8 F, .int .i64 N, .int .i64 C, .bool true]
  go_wp2_with fail
  refine (HA.out _ (H.invB hv hbx)).mono ?_
  rintro e w3 ⟨rfl, hb3⟩
  have hbe3 := below_step9 hbx hb3 hbx.size
  have q1 := q0.below hb3 q0.lt
  have d0 := q1.cell 0
  have d4 := q1.cell 4
  clear ha hb1 hb2 q0 hbx
  go_wp2_with fail
  refine (HB.out _ (H.invB hv hbe3)).mono ?_
  rintro e w4 ⟨rfl, hb4⟩
  have hbe4 := below_step9 hbe3 hb4 hbe3.size
  clear d0 d4 q1 hb3
  go_wp2_with fail
  refine (HX.out _ (H.invB hv hbe4)).mono ?_
  rintro e w5 ⟨rfl, hb5⟩
  have hbE := (below_step9 hbe4 hb5 hbe4.size).alloc (below_step9 hbe4 hb5 hbe4.size).size (.cells #[.int .i64 4, .int .u8 F2, .int .i64 n, .int .i64 C2, .bool false] 24)
  go_wp2_with fail
  go_ret
  exact ⟨rfl, hbE⟩
set_option maxRecDepth 100000 in
set_option maxHeartbeats 32000000 in
theorem back_2_0 (H : KeysC Inv) (c F N C n f : Int)  (w : World) (hv : Inv w)
    (HL : Hid (∀ W, Inv W → Calls Tryd.prog 10 #[.int .i64 c] W fun e w' => e = .returned (.agg #[.int .i64 4, .int .u8 F, .int .i64 N, .int .i64 C, .bool false]) ∧ Below W.heap.size W w'))
    (HA : Hid (∀ W, Inv W → Calls Tryd.prog 13 #[.int .u8 126, .int .i64 N] W fun e w' => e = .returned (.tuple #[.int .i64 c, .bool true]) ∧ Below W.heap.size W w'))
    (HB : Hid (∀ W, Inv W → Calls Tryd.prog 13 #[.int .u8 f, .int .i64 n] W fun e w' => e = .returned (.tuple #[.int .i64 0, .bool false]) ∧ Below W.heap.size W w'))
    (HX : Hid (∀ W, Inv W → Calls Tryd.prog 10 #[.int .i64 0] W fun e w' => e = .returned (.agg #[.int .i64 0, .int .u8 0, .int .i64 0, .int .i64 0, .bool false]) ∧ Below W.heap.size W w')) :
    Calls Tryd.prog 6 #[.int .i64 c, .int .u8 f, .int .i64 n] w fun e w' => e = .returned (.bool true) ∧ Below w.heap.size w w' := by
  have ha := keysAwake H _ hv
  go_enter Tryd.func6, Tryd.ntmps6
  go_wp2_with fail
  refine ha.mono ?_
  rintro e w1 ⟨rfl, hb1⟩
  go_wp2_with fail
  refine (HL.out _ (H.invB hv hb1)).mono ?_
  rintro e w2 ⟨rfl, hb2⟩
  have hbx := (below_step9 hb1 hb2 hb1.size).alloc (below_step9 hb1 hb2 hb1.size).size (.cells #[.int .i64 4, .int .u8 F, .int .i64 N, .int .i64 C, .bool false] 24)
  have q0 := Blk.new w2 24 #[.int .i64 4, .int .u8 F, .int .i64 N, .int .i64 C, .bool false]
  go_wp2_with fail
  refine (HA.out _ (H.invB hv hbx)).mono ?_
  rintro e w3 ⟨rfl, hb3⟩
  have hbe3 := below_step9 hbx hb3 hbx.size
  have q1 := q0.below hb3 q0.lt
  have d0 := q1.cell 0
  have d4 := q1.cell 4
  clear ha hb1 hb2 q0 hbx
  go_wp2_with fail
  refine (HB.out _ (H.invB hv hbe3)).mono ?_
  rintro e w4 ⟨rfl, hb4⟩
  have hbe4 := below_step9 hbe3 hb4 hbe3.size
  clear d0 d4 q1 hb3
  go_wp2_with fail
  refine (HX.out _ (H.invB hv hbe4)).mono ?_
  rintro e w5 ⟨rfl, hb5⟩
  have hbE := (below_step9 hbe4 hb5 hbe4.size).alloc (below_step9 hbe4 hb5 hbe4.size).size (.cells #[.int .i64 0, .int .u8 0, .int .i64 0, .int .i64 0, .bool false] 24)
  go_wp2_with fail
  go_ret
  exact ⟨rfl, hbE⟩
set_option maxRecDepth 100000 in
set_option maxHeartbeats 32000000 in
theorem back_2_1 (H : KeysC Inv) (c F N C n b f N2 C2 : Int)  (w : World) (hv : Inv w)
    (HL : Hid (∀ W, Inv W → Calls Tryd.prog 10 #[.int .i64 c] W fun e w' => e = .returned (.agg #[.int .i64 4, .int .u8 F, .int .i64 N, .int .i64 C, .bool false]) ∧ Below W.heap.size W w'))
    (HA : Hid (∀ W, Inv W → Calls Tryd.prog 13 #[.int .u8 126, .int .i64 N] W fun e w' => e = .returned (.tuple #[.int .i64 c, .bool true]) ∧ Below W.heap.size W w'))
    (HB : Hid (∀ W, Inv W → Calls Tryd.prog 13 #[.int .u8 f, .int .i64 n] W fun e w' => e = .returned (.tuple #[.int .i64 b, .bool true]) ∧ Below W.heap.size W w'))
    (HX : Hid (∀ W, Inv W → Calls Tryd.prog 10 #[.int .i64 b] W fun e w' => e = .returned (.agg #[.int .i64 3, .int .u8 f, .int .i64 N2, .int .i64 C2, .bool false]) ∧ Below W.heap.size W w')) :
    Calls Tryd.prog 6 #[.int .i64 c, .int .u8 f, .int .i64 n] w fun e w' => e = .returned (.bool true) ∧ Below w.heap.size w w' := by
  have ha := keysAwake H _ hv
  go_enter Tryd.func6, Tryd.ntmps6
  go_wp2_with fail
  refine ha.mono ?_
  rintro e w1 ⟨rfl, hb1⟩
  go_wp2_with fail
  refine (HL.out _ (H.invB hv hb1)).mono ?_
  rintro e w2 ⟨rfl, hb2⟩
  have hbx := (below_step9 hb1 hb2 hb1.size).alloc (below_step9 hb1 hb2 hb1.size).size (.cells #[.int .i64 4, .int .u8 F, .int .i64 N, .int .i64 C, .bool false] 24)
  have q0 := Blk.new w2 24 #[.int .i64 4, .int .u8 F, .int .i64 N, .int .i64 C, .bool false]
  go_wp2_with fail
  refine (HA.out _ (H.invB hv hbx)).mono ?_
  rintro e w3 ⟨rfl, hb3⟩
  have hbe3 := below_step9 hbx hb3 hbx.size
  have q1 := q0.below hb3 q0.lt
  have d0 := q1.cell 0
  have d4 := q1.cell 4
  clear ha hb1 hb2 q0 hbx
  go_wp2_with fail
  refine (HB.out _ (H.invB hv hbe3)).mono ?_
  rintro e w4 ⟨rfl, hb4⟩
  have hbe4 := below_step9 hbe3 hb4 hbe3.size
  clear d0 d4 q1 hb3
  go_wp2_with fail
  refine (HX.out _ (H.invB hv hbe4)).mono ?_
  rintro e w5 ⟨rfl, hb5⟩
  have hbE := (below_step9 hbe4 hb5 hbe4.size).alloc (below_step9 hbe4 hb5 hbe4.size).size (.cells #[.int .i64 3, .int .u8 f, .int .i64 N2, .int .i64 C2, .bool false] 24)
  go_wp2_with fail
  go_ret
  exact ⟨rfl, hbE⟩
set_option maxRecDepth 100000 in
set_option maxHeartbeats 32000000 in
theorem back_2_2 (H : KeysC Inv) (c F N C n b C2 F2 : Int)  (w : World) (hv : Inv w)
    (HL : Hid (∀ W, Inv W → Calls Tryd.prog 10 #[.int .i64 c] W fun e w' => e = .returned (.agg #[.int .i64 4, .int .u8 F, .int .i64 N, .int .i64 C, .bool false]) ∧ Below W.heap.size W w'))
    (HA : Hid (∀ W, Inv W → Calls Tryd.prog 13 #[.int .u8 126, .int .i64 N] W fun e w' => e = .returned (.tuple #[.int .i64 c, .bool true]) ∧ Below W.heap.size W w'))
    (HB : Hid (∀ W, Inv W → Calls Tryd.prog 13 #[.int .u8 126, .int .i64 n] W fun e w' => e = .returned (.tuple #[.int .i64 b, .bool true]) ∧ Below W.heap.size W w'))
    (HX : Hid (∀ W, Inv W → Calls Tryd.prog 10 #[.int .i64 b] W fun e w' => e = .returned (.agg #[.int .i64 4, .int .u8 F2, .int .i64 n, .int .i64 C2, .bool false]) ∧ Below W.heap.size W w')) :
    Calls Tryd.prog 6 #[.int .i64 c, .int .u8 126, .int .i64 n] w fun e w' => e = .returned (.bool true) ∧ Below w.heap.size w w' := by
  have ha := keysAwake H _ hv
  go_enter Tryd.func6, Tryd.ntmps6
  go_wp2_with fail
  refine ha.mono ?_
  rintro e w1 ⟨rfl, hb1⟩
  go_wp2_with fail
  refine (HL.out _ (H.invB hv hb1)).mono ?_
  rintro e w2 ⟨rfl, hb2⟩
  have hbx := (below_step9 hb1 hb2 hb1.size).alloc (below_step9 hb1 hb2 hb1.size).size (.cells #[.int .i64 4, .int .u8 F, .int .i64 N, .int .i64 C, .bool false] 24)
  have q0 := Blk.new w2 24 #[.int .i64 4, .int .u8 F, .int .i64 N, .int .i64 C, .bool false]
  go_wp2_with fail
  refine (HA.out _ (H.invB hv hbx)).mono ?_
  rintro e w3 ⟨rfl, hb3⟩
  have hbe3 := below_step9 hbx hb3 hbx.size
  have q1 := q0.below hb3 q0.lt
  have d0 := q1.cell 0
  have d4 := q1.cell 4
  clear ha hb1 hb2 q0 hbx
  go_wp2_with fail
  refine (HB.out _ (H.invB hv hbe3)).mono ?_
  rintro e w4 ⟨rfl, hb4⟩
  have hbe4 := below_step9 hbe3 hb4 hbe3.size
  clear d0 d4 q1 hb3
  go_wp2_with fail
  refine (HX.out _ (H.invB hv hbe4)).mono ?_
  rintro e w5 ⟨rfl, hb5⟩
  have hbE := (below_step9 hbe4 hb5 hbe4.size).alloc (below_step9 hbe4 hb5 hbe4.size).size (.cells #[.int .i64 4, .int .u8 F2, .int .i64 n, .int .i64 C2, .bool false] 24)
  go_wp2_with fail
  go_ret
  exact ⟨rfl, hbE⟩
set_option maxRecDepth 100000 in
set_option maxHeartbeats 32000000 in
theorem back_3_0 (H : KeysC Inv) (c F N C n a f : Int) (is : Bool)  (w : World) (hv : Inv w)
    (HL : Hid (∀ W, Inv W → Calls Tryd.prog 10 #[.int .i64 c] W fun e w' => e = .returned (.agg #[.int .i64 4, .int .u8 F, .int .i64 N, .int .i64 C, .bool true]) ∧ Below W.heap.size W w'))
    (HA : Hid (∀ W, Inv W → Calls Tryd.prog 13 #[.int .u8 126, .int .i64 N] W fun e w' => e = .returned (.tuple #[.int .i64 a, .bool is]) ∧ Below W.heap.size W w'))
    (HB : Hid (∀ W, Inv W → Calls Tryd.prog 13 #[.int .u8 f, .int .i64 n] W fun e w' => e = .returned (.tuple #[.int .i64 0, .bool false]) ∧ Below W.heap.size W w'))
    (HX : Hid (∀ W, Inv W → Calls Tryd.prog 10 #[.int .i64 0] W fun e w' => e = .returned (.agg #[.int .i64 0, .int .u8 0, .int .i64 0, .int .i64 0, .bool false]) ∧ Below W.heap.size W w')) :
    Calls Tryd.prog 6 #[.int .i64 c, .int .u8 f, .int .i64 n] w fun e w' => e = .returned (.bool true) ∧ Below w.heap.size w w' := by
  have ha := keysAwake H _ hv
  go_enter Tryd.func6, Tryd.ntmps6
  go_wp2_with fail
  refine ha.mono ?_
  rintro e w1 ⟨rfl, hb1⟩
  go_wp2_with fail
  refine (HL.out _ (H.invB hv hb1)).mono ?_
  rintro e w2 ⟨rfl, hb2⟩
  have hbx := (below_step9 hb1 hb2 hb1.size).alloc (below_step9 hb1 hb2 hb1.size).size (.cells #[.int .i64 4, .int .u8 F, .int .i64 N, .int .i64 C, .bool true] 24)
  have q0 := Blk.new w2 24 #[.int .i64 4, .int .u8 F, .int .i64 N, .int .i64 C, .bool true]
  go_wp2_with fail
  refine (HA.out _ (H.invB hv hbx)).mono ?_
  rintro e w3 ⟨rfl, hb3⟩
  have hbe3 := below_step9 hbx hb3 hbx.size
  have q1 := q0.below hb3 q0.lt
  have d0 := q1.cell 0
  have d4 := q1.cell 4
  clear ha hb1 hb2 q0 hbx
  go_wp2_with fail
  refine (HB.out _ (H.invB hv hbe3)).mono ?_
  rintro e w4 ⟨rfl, hb4⟩
  have hbe4 := below_step9 hbe3 hb4 hbe3.size
  clear d0 d4 q1 hb3
  go_wp2_with fail
  refine (HX.out _ (H.invB hv hbe4)).mono ?_
  rintro e w5 ⟨rfl, hb5⟩
  have hbE := (below_step9 hbe4 hb5 hbe4.size).alloc (below_step9 hbe4 hb5 hbe4.size).size (.cells #[.int .i64 0, .int .u8 0, .int .i64 0, .int .i64 0, .bool false] 24)
  go_wp2_with fail
  go_ret
  exact ⟨rfl, hbE⟩
set_option maxRecDepth 100000 in
set_option maxHeartbeats 32000000 in
theorem back_3_1 (H : KeysC Inv) (c F N C n a b f N2 C2 : Int) (is : Bool)  (w : World) (hv : Inv w)
    (HL : Hid (∀ W, Inv W → Calls Tryd.prog 10 #[.int .i64 c] W fun e w' => e = .returned (.agg #[.int .i64 4, .int .u8 F, .int .i64 N, .int .i64 C, .bool true]) ∧ Below W.heap.size W w'))
    (HA : Hid (∀ W, Inv W → Calls Tryd.prog 13 #[.int .u8 126, .int .i64 N] W fun e w' => e = .returned (.tuple #[.int .i64 a, .bool is]) ∧ Below W.heap.size W w'))
    (HB : Hid (∀ W, Inv W → Calls Tryd.prog 13 #[.int .u8 f, .int .i64 n] W fun e w' => e = .returned (.tuple #[.int .i64 b, .bool true]) ∧ Below W.heap.size W w'))
    (HX : Hid (∀ W, Inv W → Calls Tryd.prog 10 #[.int .i64 b] W fun e w' => e = .returned (.agg #[.int .i64 3, .int .u8 f, .int .i64 N2, .int .i64 C2, .bool false]) ∧ Below W.heap.size W w')) :
    Calls Tryd.prog 6 #[.int .i64 c, .int .u8 f, .int .i64 n] w fun e w' => e = .returned (.bool true) ∧ Below w.heap.size w w' := by
  have ha := keysAwake H _ hv
  go_enter Tryd.func6, Tryd.ntmps6
  go_wp2_with fail
  refine ha.mono ?_
  rintro e w1 ⟨rfl, hb1⟩
  go_wp2_with fail
  refine (HL.out _ (H.invB hv hb1)).mono ?_
  rintro e w2 ⟨rfl, hb2⟩
  have hbx := (below_step9 hb1 hb2 hb1.size).alloc (below_step9 hb1 hb2 hb1.size).size (.cells #[.int .i64 4, .int .u8 F, .int .i64 N, .int .i64 C, .bool true] 24)
  have q0 := Blk.new w2 24 #[.int .i64 4, .int .u8 F, .int .i64 N, .int .i64 C, .bool true]
  go_wp2_with fail
  refine (HA.out _ (H.invB hv hbx)).mono ?_
  rintro e w3 ⟨rfl, hb3⟩
  have hbe3 := below_step9 hbx hb3 hbx.size
  have q1 := q0.below hb3 q0.lt
  have d0 := q1.cell 0
  have d4 := q1.cell 4
  clear ha hb1 hb2 q0 hbx
  go_wp2_with fail
  refine (HB.out _ (H.invB hv hbe3)).mono ?_
  rintro e w4 ⟨rfl, hb4⟩
  have hbe4 := below_step9 hbe3 hb4 hbe3.size
  clear d0 d4 q1 hb3
  go_wp2_with fail
  refine (HX.out _ (H.invB hv hbe4)).mono ?_
  rintro e w5 ⟨rfl, hb5⟩
  have hbE := (below_step9 hbe4 hb5 hbe4.size).alloc (below_step9 hbe4 hb5 hbe4.size).size (.cells #[.int .i64 3, .int .u8 f, .int .i64 N2, .int .i64 C2, .bool false] 24)
  go_wp2_with fail
  go_ret
  exact ⟨rfl, hbE⟩
set_option maxRecDepth 100000 in
set_option maxHeartbeats 32000000 in
theorem back_3_2 (H : KeysC Inv) (c F N C n a b C2 F2 : Int) (is : Bool)  (w : World) (hv : Inv w)
    (HL : Hid (∀ W, Inv W → Calls Tryd.prog 10 #[.int .i64 c] W fun e w' => e = .returned (.agg #[.int .i64 4, .int .u8 F, .int .i64 N, .int .i64 C, .bool true]) ∧ Below W.heap.size W w'))
    (HA : Hid (∀ W, Inv W → Calls Tryd.prog 13 #[.int .u8 126, .int .i64 N] W fun e w' => e = .returned (.tuple #[.int .i64 a, .bool is]) ∧ Below W.heap.size W w'))
    (HB : Hid (∀ W, Inv W → Calls Tryd.prog 13 #[.int .u8 126, .int .i64 n] W fun e w' => e = .returned (.tuple #[.int .i64 b, .bool true]) ∧ Below W.heap.size W w'))
    (HX : Hid (∀ W, Inv W → Calls Tryd.prog 10 #[.int .i64 b] W fun e w' => e = .returned (.agg #[.int .i64 4, .int .u8 F2, .int .i64 n, .int .i64 C2, .bool false]) ∧ Below W.heap.size W w')) :
    Calls Tryd.prog 6 #[.int .i64 c, .int .u8 126, .int .i64 n] w fun e w' => e = .returned (.bool true) ∧ Below w.heap.size w w' := by
  have ha := keysAwake H _ hv
  go_enter Tryd.func6, Tryd.ntmps6
  go_wp2_with fail
  refine ha.mono ?_
  rintro e w1 ⟨rfl, hb1⟩
  go_wp2_with fail
  refine (HL.out _ (H.invB hv hb1)).mono ?_
  rintro e w2 ⟨rfl, hb2⟩
  have hbx := (below_step9 hb1 hb2 hb1.size).alloc (below_step9 hb1 hb2 hb1.size).size (.cells #[.int .i64 4, .int .u8 F, .int .i64 N, .int .i64 C, .bool true] 24)
  have q0 := Blk.new w2 24 #[.int .i64 4, .int .u8 F, .int .i64 N, .int .i64 C, .bool true]
  go_wp2_with fail
  refine (HA.out _ (H.invB hv hbx)).mono ?_
  rintro e w3 ⟨rfl, hb3⟩
  have hbe3 := below_step9 hbx hb3 hbx.size
  have q1 := q0.below hb3 q0.lt
  have d0 := q1.cell 0
  have d4 := q1.cell 4
  clear ha hb1 hb2 q0 hbx
  go_wp2_with fail
  refine (HB.out _ (H.invB hv hbe3)).mono ?_
  rintro e w4 ⟨rfl, hb4⟩
  have hbe4 := below_step9 hbe3 hb4 hbe3.size
  clear d0 d4 q1 hb3
  go_wp2_with fail
  refine (HX.out _ (H.invB hv hbe4)).mono ?_
  rintro e w5 ⟨rfl, hb5⟩
  have hbE := (below_step9 hbe4 hb5 hbe4.size).alloc (below_step9 hbe4 hb5 hbe4.size).size (.cells #[.int .i64 4, .int .u8 F2, .int .i64 n, .int .i64 C2, .bool false] 24)
  go_wp2_with fail
  go_ret
  exact ⟨rfl, hbE⟩
set_option maxRecDepth 100000 in
set_option maxHeartbeats 32000000 in
theorem back_4_0 (H : KeysC Inv) (c F N C n K a f : Int) (B is : Bool) (t3 : (K == 3) = false) (t4 : (K == 4) = false) (w : World) (hv : Inv w)
    (HL : Hid (∀ W, Inv W → Calls Tryd.prog 10 #[.int .i64 c] W fun e w' => e = .returned (.agg #[.int .i64 K, .int .u8 F, .int .i64 N, .int .i64 C, .bool B]) ∧ Below W.heap.size W w'))
    (HA : Hid (∀ W, Inv W → Calls Tryd.prog 13 #[.int .u8 F, .int .i64 N] W fun e w' => e = .returned (.tuple #[.int .i64 a, .bool is]) ∧ Below W.heap.size W w'))
    (HB : Hid (∀ W, Inv W → Calls Tryd.prog 13 #[.int .u8 f, .int .i64 n] W fun e w' => e = .returned (.tuple #[.int .i64 0, .bool false]) ∧ Below W.heap.size W w'))
    (HX : Hid (∀ W, Inv W → Calls Tryd.prog 10 #[.int .i64 0] W fun e w' => e = .returned (.agg #[.int .i64 0, .int .u8 0, .int .i64 0, .int .i64 0, .bool false]) ∧ Below W.heap.size W w')) :
    Calls Tryd.prog 6 #[.int .i64 c, .int .u8 f, .int .i64 n] w fun e w' => e = .returned (.bool true) ∧ Below w.heap.size w w' := by
  have ha := keysAwake H _ hv
  go_enter Tryd.func6, Tryd.ntmps6
  go_wp2_with fail
  refine ha.mono ?_
  rintro e w1 ⟨rfl, hb1⟩
  go_wp2_with fail
  refine (HL.out _ (H.invB hv hb1)).mono ?_
  rintro e w2 ⟨rfl, hb2⟩
  have hbx := (below_step9 hb1 hb2 hb1.size).alloc (below_step9 hb1 hb2 hb1.size).size (.cells #[.int .i64 K, .int .u8 F, .int .i64 N, .int .i64 C, .bool B] 24)
  have q0 := Blk.new w2 24 #[.int .i64 K, .int .u8 F, .int .i64 N, .int .i64 C, .bool B]
  go_wp2_with fail
  refine (HA.out _ (H.invB hv hbx)).mono ?_
  rintro e w3 ⟨rfl, hb3⟩
  have hbe3 := below_step9 hbx hb3 hbx.size
  have q1 := q0.below hb3 q0.lt
  have d0 := q1.cell 0
  have d4 := q1.cell 4
  clear ha hb1 hb2 q0 hbx
  go_wp2_with fail
  refine (HB.out _ (H.invB hv hbe3)).mono ?_
  rintro e w4 ⟨rfl, hb4⟩
  have hbe4 := below_step9 hbe3 hb4 hbe3.size
  clear d0 d4 q1 hb3
  go_wp2_with fail
  refine (HX.out _ (H.invB hv hbe4)).mono ?_
  rintro e w5 ⟨rfl, hb5⟩
  have hbE := (below_step9 hbe4 hb5 hbe4.size).alloc (below_step9 hbe4 hb5 hbe4.size).size (.cells #[.int .i64 0, .int .u8 0, .int .i64 0, .int .i64 0, .bool false] 24)
  go_wp2_with fail
  go_ret
  exact ⟨rfl, hbE⟩
set_option maxRecDepth 100000 in
set_option maxHeartbeats 32000000 in
theorem back_4_1 (H : KeysC Inv) (c F N C n K a b f N2 C2 : Int) (B is : Bool) (t3 : (K == 3) = false) (t4 : (K == 4) = false) (w : World) (hv : Inv w)
    (HL : Hid (∀ W, Inv W → Calls Tryd.prog 10 #[.int .i64 c] W fun e w' => e = .returned (.agg #[.int .i64 K, .int .u8 F, .int .i64 N, .int .i64 C, .bool B]) ∧ Below W.heap.size W w'))
    (HA : Hid (∀ W, Inv W → Calls Tryd.prog 13 #[.int .u8 F, .int .i64 N] W fun e w' => e = .returned (.tuple #[.int .i64 a, .bool is]) ∧ Below W.heap.size W w'))
    (HB : Hid (∀ W, Inv W → Calls Tryd.prog 13 #[.int .u8 f, .int .i64 n] W fun e w' => e = .returned (.tuple #[.int .i64 b, .bool true]) ∧ Below W.heap.size W w'))
    (HX : Hid (∀ W, Inv W → Calls Tryd.prog 10 #[.int .i64 b] W fun e w' => e = .returned (.agg #[.int .i64 3, .int .u8 f, .int .i64 N2, .int .i64 C2, .bool false]) ∧ Below W.heap.size W w')) :
    Calls Tryd.prog 6 #[.int .i64 c, .int .u8 f, .int .i64 n] w fun e w' => e = .returned (.bool true) ∧ Below w.heap.size w w' := by
  have ha := keysAwake H _ hv
  go_enter Tryd.func6, Tryd.ntmps6
  go_wp2_with fail
  refine ha.mono ?_
  rintro e w1 ⟨rfl, hb1⟩
  go_wp2_with fail
  refine (HL.out _ (H.invB hv hb1)).mono ?_
  rintro e w2 ⟨rfl, hb2⟩
  have hbx := (below_step9 hb1 hb2 hb1.size).alloc (below_step9 hb1 hb2 hb1.size).size (.cells #[.int .i64 K, .int .u8 F, .int .i64 N, .int .i64 C, .bool B] 24)
  have q0 := Blk.new w2 24 #[.int .i64 K, .int .u8 F, .int .i64 N, .int .i64 C, .bool B]
  go_wp2_with fail
  refine (HA.out _ (H.invB hv hbx)).mono ?_
  rintro e w3 ⟨rfl, hb3⟩
  have hbe3 := below_step9 hbx hb3 hbx.size
  have q1 := q0.below hb3 q0.lt
  have d0 := q1.cell 0
  have d4 := q1.cell 4
  clear ha hb1 hb2 q0 hbx
  go_wp2_with fail
  refine (HB.out _ (H.invB hv hbe3)).mono ?_
  rintro e w4 ⟨rfl, hb4⟩
  have hbe4 := below_step9 hbe3 hb4 hbe3.size
  clear d0 d4 q1 hb3
  go_wp2_with fail
  refine (HX.out _ (H.invB hv hbe4)).mono ?_
  rintro e w5 ⟨rfl, hb5⟩
  have hbE := (below_step9 hbe4 hb5 hbe4.size).alloc (below_step9 hbe4 hb5 hbe4.size).size (.cells #[.int .i64 3, .int .u8 f, .int .i64 N2, .int .i64 C2, .bool false] 24)
  go_wp2_with fail
  go_ret
  exact ⟨rfl, hbE⟩
set_option maxRecDepth 100000 in
set_option maxHeartbeats 32000000 in
theorem back_4_2 (H : KeysC Inv) (c F N C n K a b C2 F2 : Int) (B is : Bool) (t3 : (K == 3) = false) (t4 : (K == 4) = false) (w : World) (hv : Inv w)
    (HL : Hid (∀ W, Inv W → Calls Tryd.prog 10 #[.int .i64 c] W fun e w' => e = .returned (.agg #[.int .i64 K, .int .u8 F, .int .i64 N, .int .i64 C, .bool B]) ∧ Below W.heap.size W w'))
    (HA : Hid (∀ W, Inv W → Calls Tryd.prog 13 #[.int .u8 F, .int .i64 N] W fun e w' => e = .returned (.tuple #[.int .i64 a, .bool is]) ∧ Below W.heap.size W w'))
    (HB : Hid (∀ W, Inv W → Calls Tryd.prog 13 #[.int .u8 126, .int .i64 n] W fun e w' => e = .returned (.tuple #[.int .i64 b, .bool true]) ∧ Below W.heap.size W w'))
    (HX : Hid (∀ W, Inv W → Calls Tryd.prog 10 #[.int .i64 b] W fun e w' => e = .returned (.agg #[.int .i64 4, .int .u8 F2, .int .i64 n, .int .i64 C2, .bool false]) ∧ Below W.heap.size W w')) :
    Calls Tryd.prog 6 #[.int .i64 c, .int .u8 126, .int .i64 n] w fun e w' => e = .returned (.bool true) ∧ Below w.heap.size w w' := by
  have ha := keysAwake H _ hv
  go_enter Tryd.func6, Tryd.ntmps6
  go_wp2_with fail
  refine ha.mono ?_
  rintro e w1 ⟨rfl, hb1⟩
  go_wp2_with fail
  refine (HL.out _ (H.invB hv hb1)).mono ?_
  rintro e w2 ⟨rfl, hb2⟩
  have hbx := (below_step9 hb1 hb2 hb1.size).alloc (below_step9 hb1 hb2 hb1.size).size (.cells #[.int .i64 K, .int .u8 F, .int .i64 N, .int .i64 C, .bool B] 24)
  have q0 := Blk.new w2 24 #[.int .i64 K, .int .u8 F, .int .i64 N, .int .i64 C, .bool B]
  go_wp2_with fail
  refine (HA.out _ (H.invB hv hbx)).mono ?_
  rintro e w3 ⟨rfl, hb3⟩
  have hbe3 := below_step9 hbx hb3 hbx.size
  have q1 := q0.below hb3 q0.lt
  have d0 := q1.cell 0
  have d4 := q1.cell 4
  clear ha hb1 hb2 q0 hbx
  go_wp2_with fail
  refine (HB.out _ (H.invB hv hbe3)).mono ?_
  rintro e w4 ⟨rfl, hb4⟩
  have hbe4 := below_step9 hbe3 hb4 hbe3.size
  clear d0 d4 q1 hb3
  go_wp2_with fail
  refine (HX.out _ (H.invB hv hbe4)).mono ?_
  rintro e w5 ⟨rfl, hb5⟩
  have hbE := (below_step9 hbe4 hb5 hbe4.size).alloc (below_step9 hbe4 hb5 hbe4.size).size (.cells #[.int .i64 4, .int .u8 F2, .int .i64 n, .int .i64 C2, .bool false] 24)
  go_wp2_with fail
  go_ret
  exact ⟨rfl, hbE⟩
theorem keysBack_walk (H : KeysC Inv) (c : Int) (clo : -9223372036854775808 ≤ c) (chi : c ≤ 9223372036854775807) (f : Int) (flo : 0 ≤ f) (fhi : f ≤ 255) (n : Int) (lo : -9223372036854775808 ≤ n) (hi : n ≤ 9223372036854775807) (w : World) (hv : Inv w) :
    Calls Tryd.prog 6 #[.int .i64 c, .int .u8 f, .int .i64 n] w fun e w' => e = .returned (.bool true) ∧ Below w.heap.size w w' := by
  have hrng := look_rng c
  obtain ⟨⟨K, F, N, C, B⟩, hE⟩ : ∃ E, lookE c = E := ⟨_, rfl⟩
  rw [hE] at hrng
  obtain ⟨hF, hN1, hN2⟩ := hrng
  simp only at hF hN1 hN2
  have hN : in64 N := ⟨by omega, by omega⟩
  have LK : ∀ (x : Int) (e : En), lookE x = e → in64 x → Hid (∀ W, Inv W → Calls Tryd.prog 10 #[.int .i64 x] W fun e' w' => e' = .returned (enV e) ∧ Below W.heap.size W w') := fun x e h hx => Lib.hid fun W hW => by
    have := H.look x W hW hx
    rwa [h] at this
  have FD : ∀ (g m a : Int) (t : Bool), findE g m = (a, t) → (0 ≤ g ∧ g ≤ 255) → in64 m → Hid (∀ W, Inv W → Calls Tryd.prog 13 #[.int .u8 g, .int .i64 m] W fun e' w' => e' = .returned (.tuple #[.int .i64 a, .bool t]) ∧ Below W.heap.size W w') := fun g m a t h hg hm => Lib.hid fun W hW => by
    have := H.find g m W hW hg hm
    rwa [h] at this
  obtain ⟨⟨b, t⟩, hb⟩ : ∃ p, findE f n = p := ⟨_, rfl⟩
  obtain ⟨⟨a, is⟩, hfa⟩ : ∃ p, findE F N = p := ⟨_, rfl⟩
  obtain ⟨⟨a4, is4⟩, hfa4⟩ : ∃ p, findE 126 N = p := ⟨_, rfl⟩
  have L0 := LK c _ hE ⟨clo, chi⟩
  have FB := FD f n b t hb ⟨flo, fhi⟩ ⟨lo, hi⟩
  have Z := LK 0 ⟨0, 0, 0, 0, false⟩ (by decide +kernel) ⟨by decide, by decide⟩
  rcases back_main hE with ⟨rfl, rfl, hm⟩ | ⟨rfl, rfl⟩ | ⟨rfl, rfl, hm⟩ | ⟨rfl, rfl⟩ | ⟨t3, t4⟩
  · have A := FD F N c true hm hF hN
    rcases found_cases hb with ⟨rfl, rfl⟩ | ⟨rfl, hi2, N2, C2, hx⟩ | ⟨rfl, hi2, rfl, F2, C2, hx⟩
    · exact back_0_0 H _ _ _ _ _ _ w hv L0 A FB Z
    · exact back_0_1 H _ _ _ _ _ _ _ _ _ w hv L0 A FB (LK _ _ hx hi2)
    · exact back_0_2 H _ _ _ _ _ _ _ _ w hv L0 A FB (LK _ _ hx hi2)
  · have A := FD F N a is hfa hF hN
    rcases found_cases hb with ⟨rfl, rfl⟩ | ⟨rfl, hi2, N2, C2, hx⟩ | ⟨rfl, hi2, rfl, F2, C2, hx⟩
    · exact back_1_0 H _ _ _ _ _ _ _ _ w hv L0 A FB Z
    · exact back_1_1 H _ _ _ _ _ _ _ _ _ _ _ w hv L0 A FB (LK _ _ hx hi2)
    · exact back_1_2 H _ _ _ _ _ _ _ _ _ _ w hv L0 A FB (LK _ _ hx hi2)
  · have A := FD 126 N c true hm ⟨by decide, by decide⟩ hN
    rcases found_cases hb with ⟨rfl, rfl⟩ | ⟨rfl, hi2, N2, C2, hx⟩ | ⟨rfl, hi2, rfl, F2, C2, hx⟩
    · exact back_2_0 H _ _ _ _ _ _ w hv L0 A FB Z
    · exact back_2_1 H _ _ _ _ _ _ _ _ _ w hv L0 A FB (LK _ _ hx hi2)
    · exact back_2_2 H _ _ _ _ _ _ _ _ w hv L0 A FB (LK _ _ hx hi2)
  · have A := FD 126 N a4 is4 hfa4 ⟨by decide, by decide⟩ hN
    rcases found_cases hb with ⟨rfl, rfl⟩ | ⟨rfl, hi2, N2, C2, hx⟩ | ⟨rfl, hi2, rfl, F2, C2, hx⟩
    · exact back_3_0 H _ _ _ _ _ _ _ _ w hv L0 A FB Z
    · exact back_3_1 H _ _ _ _ _ _ _ _ _ _ _ w hv L0 A FB (LK _ _ hx hi2)
    · exact back_3_2 H _ _ _ _ _ _ _ _ _ _ w hv L0 A FB (LK _ _ hx hi2)
  · have A := FD F N a is hfa hF hN
    rcases found_cases hb with ⟨rfl, rfl⟩ | ⟨rfl, hi2, N2, C2, hx⟩ | ⟨rfl, hi2, rfl, F2, C2, hx⟩
    · exact back_4_0 H _ _ _ _ _ _ _ _ _ _ t3 t4 w hv L0 A FB Z
    · exact back_4_1 H _ _ _ _ _ _ _ _ _ _ _ _ _ t3 t4 w hv L0 A FB (LK _ _ hx hi2)
    · exact back_4_2 H _ _ _ _ _ _ _ _ _ _ _ _ t3 t4 w hv L0 A FB (LK _ _ hx hi2)
end
end Go.Proofs.YtkicenpcklknnaaDoor
