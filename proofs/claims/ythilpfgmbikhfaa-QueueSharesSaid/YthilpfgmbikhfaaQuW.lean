/-
  Layer 4, walked: the example that each of the layer's statements asks.
-/
import Derived.Test.YthilpfgmbikhfaaQuR
import Derived.Lib.SlBytesConst
namespace Go.Proofs.Ythilpfgmbikhfaa
open Go.RowKit

theorem made_zeros (K : Nat) : (madeCells (Value.int .u8 0).cells (K * 1)).toList = bs (List.replicate K 0) := by
  apply List.ext_getElem
  · simp [madeCells, bs, Value.cells]
  · intro i h1 h2
    simp [madeCells, bs, B8, Value.cells, Nat.mod_one]
section
variable {w : World} {S : Nat → Prop} {g room base : Nat} {v : Value} {l : List UInt8} {d : Nat}
/-- Bytes of the text, in the block that has just been laid for them. -/
theorem rd_text (w : World) (x : List UInt8) (L : Array Value) (fz : Nat × Nat) (h : L = (bs x).toArray) : Rd (w.alloc (.cells L 5 fz)) (some ⟨w.heap.size, 0, none⟩) (bs x) := by
  subst h
  exact Rd.block (heap_alloc_new w _) (by simp)
end

set_option maxRecDepth 100000 in
set_option maxHeartbeats 8000000 in
theorem awake_any (w : World) : Calls Try.prog 9 #[] w fun e w' => e = .returned (.bool true) ∧ Below w.heap.size w w' := by
  obtain ⟨i0, hi, hz0, hz1, hz2⟩ := u8_parts
  obtain ⟨N, hN⟩ : ∃ N : Nat, N = 60 := ⟨_, rfl⟩
  obtain ⟨z, hz⟩ : ∃ z : List UInt8, z = List.replicate N 0 := ⟨_, rfl⟩
  have HZ := Lib.hid hz
  have HN := Lib.hid hN
  have HL := Lib.hid (show z.length = 60 by rw [hz, List.length_replicate, hN])
  have h60 : (60 : Int) = (N : Int) := by omega
  have H60 := Lib.hid h60
  clear hz h60
  clear hN
  have kc := fun (w : World) (C : Array Value) (n c : Nat) => Lib.run_convert_bytes_const (P := Try.prog) w 28 5 C n c Try.underlying28 Try.underlying5
  go_enter Try.func9, Try.ntmps9
  go_wp2_with fail
  refine (new_yes 64 w (by omega) (by omega)).mono ?_
  rintro e w1 ⟨rfl, hw1⟩
  have q1 := QB.new w 64 w.heap.size (Nat.le_refl _) (by omega)
  have hF1 := Lib.hid ((Below.refl _ w).alloc (Nat.le_refl _) (.cells #[.int .i64 ((64 : Nat) : Int), .slice none 0 0, .int .i64 0] 54))
  rw [hw1] at q1 hF1
  have HW1 := Lib.hid hw1
  clear hw1
  obtain ⟨S1, hS1⟩ : ∃ S1, S1 = fun k => k = w.heap.size := ⟨_, rfl⟩
  rw [← hS1] at q1
  clear hS1
  go_wp2_with (at_make; refine wpList_make_full _ rfl _ _ 28 rfl w1.heap.size 5 i0 _ 1 Try.underlying28 hi hz0 hz1 _ _ _ _ N rfl rfl ?d0 ?d1 ?d2 ?d3 ?d4 ?_)
  case d0 => exact H60.out
  case d1 => exact H60.out
  case d2 => rw [hz2, HN.out]; omega
  case d3 => rw [HN.out]; decide
  case d4 => exact Nat.le_refl _
  intro w2 hown2 hg2
  have hown2 := Own.of hown2
  rw [show (madeCells #[Value.int .u8 0] N).toList = bs z by have := made_zeros N; rw [Nat.mul_one] at this; rw [HZ.out]; exact this] at hown2
  have hr2 := hown2.rd
  have q2 := q1.grown hg2 (fun k hk => by cases hk)
  have hF2 := Lib.hid (hF1.out.grown hg2 hF1.out.size (by simp))
  clear hown2 hg2 q1
  go_wp2_with fail
  refine (push_any q2 _ N N z true z 0 (by rw [HL.out, HN.out]) (by rw [HN.out]; omega) (by omega) hr2 (hasRoom_iff.2 (by rw [HL.out]; decide)) (by unfold pushL; rw [if_pos (hasRoom_iff.2 (by rw [HL.out]; decide))]; rfl) (by unfold pushD; rw [if_pos (hasRoom_iff.2 (by rw [HL.out]; decide))])).mono ?_
  rintro e w3 ⟨rfl, ⟨S2, v2, q3, _⟩, hf3⟩
  have hF3 := Lib.hid (hF2.out.trans (hf3.below hF2.out.size q2.lo))
  clear hf3 q2 hr2
  have q4 := q3.alloc (.cells #[.int .u8 49, .int .u8 50, .int .u8 51, .int .u8 52, .int .u8 53] 5 (5, 6))
  have hr4 := rd_text w3 [49, 50, 51, 52, 53] #[.int .u8 49, .int .u8 50, .int .u8 51, .int .u8 52, .int .u8 53] (5, 6) rfl
  have hF4 := Lib.hid (hF3.out.alloc hF3.out.size (.cells #[.int .u8 49, .int .u8 50, .int .u8 51, .int .u8 52, .int .u8 53] 5 (5, 6)))
  have hno : hasRoom 64 z [49, 50, 51, 52, 53] = false := by unfold hasRoom; rw [HL.out]; decide
  have HNO := Lib.hid hno
  clear hno
  go_wp2_with fail
  refine (push_any q4 _ 5 5 [49, 50, 51, 52, 53] false z 1 rfl (by omega) (by omega) hr4 HNO.out (by unfold pushL; rw [HNO.out]; rfl) (by unfold pushD; rw [HNO.out]; rfl)).mono ?_
  rintro e w5 ⟨rfl, ⟨S3, v3, q5, _⟩, hf5⟩
  have hF5 := Lib.hid (hF4.out.trans (hf5.below hF4.out.size q4.lo))
  clear hf5 q4 hr4 q3
  have q6 := q5.alloc (.cells #[.int .u8 49, .int .u8 50, .int .u8 51, .int .u8 52] 5 (4, 5))
  have hr6 := rd_text w5 [49, 50, 51, 52] #[.int .u8 49, .int .u8 50, .int .u8 51, .int .u8 52] (4, 5) rfl
  have hF6 := Lib.hid (hF5.out.alloc hF5.out.size (.cells #[.int .u8 49, .int .u8 50, .int .u8 51, .int .u8 52] 5 (4, 5)))
  have HYES := Lib.hid (show hasRoom 64 z [49, 50, 51, 52] = true by unfold hasRoom; rw [HL.out]; decide)
  obtain ⟨l, hl⟩ : ∃ l, z ++ [49, 50, 51, 52] = l := ⟨_, rfl⟩
  have HLL := Lib.hid hl
  have HL2 := Lib.hid (show l.length = 64 by rw [← hl, List.length_append, HL.out]; rfl)
  clear hl
  go_wp2_with fail
  refine (push_any q6 _ 4 4 [49, 50, 51, 52] true l 1 rfl (by omega) (by omega) hr6 HYES.out (by unfold pushL; rw [HYES.out, if_pos rfl]; exact HLL.out) (by unfold pushD; rw [HYES.out]; rfl)).mono ?_
  rintro e w7 ⟨rfl, ⟨S4, v4, q7, _⟩, hf7⟩
  have hF7 := Lib.hid (hF6.out.trans (hf7.below hF6.out.size q6.lo))
  clear hf7 q6 hr6 q5
  go_wp2_with fail
  refine (drain_any q7 61 61 (by omega) (by unfold drainK; rw [HL2.out]; rfl)).mono ?_
  rintro e w8 ⟨⟨A8, c8, rfl, hown8⟩, ⟨v8, q8⟩, hf8⟩
  have hF8 := Lib.hid (hF7.out.trans (hf8.below hF7.out.size q7.lo))
  obtain ⟨G8, cc, hv8, _⟩ := hown8.some_ (by omega)
  injection hv8 with hA8
  subst hA8
  have hc60 : (bs (l.take 61))[60]? = some (.int .u8 49) := by
    rw [bs, List.getElem?_map, List.getElem?_take, if_pos (by omega), ← HLL.out, List.getElem?_append_right (by rw [HL.out]; decide), HL.out]
    rfl
  have e60 : w8.cell? ⟨G8, 60, none⟩ = some (.int .u8 49) := by
    obtain ⟨h1, h2⟩ := List.getElem?_eq_some_iff.1 hc60
    have := hown8.cellAt 60 h1
    rw [h2] at this
    exact this
  clear hf8 q7 hown8 hc60
  go_wp2_with (first
    | (refine (len_at q8 3 (by rw [List.length_drop, HL2.out])).mono ?_; rintro e w' ⟨rfl, rfl⟩)
    | (refine (dropped_any q8).mono ?_; rintro e w' ⟨rfl, rfl⟩))
  go_ret
  exact ⟨rfl, hF8.out⟩
end Go.Proofs.Ythilpfgmbikhfaa
