/-
  Layer 9: what the laws ask of keys.
-/
import Derived.Test.YtkicenpcklknnaaDoorKeyV
namespace Go.Proofs.YtkicenpcklknnaaDoor
open Go.RowKit

def in64 (n : Int) : Prop := -9223372036854775808 ≤ n ∧ n ≤ 9223372036854775807
structure KeysC (Inv : World → Prop) : Prop where
  invB : ∀ {w w' : World}, Inv w → Below w.heap.size w w' → Inv w'
  look : ∀ (c : Int) (w : World), Inv w → in64 c → Calls Tryd.prog 10 #[.int .i64 c] w fun e w' => e = .returned (enV (lookE c)) ∧ Below w.heap.size w w'
  find : ∀ (f n : Int) (w : World), Inv w → 0 ≤ f ∧ f ≤ 255 → in64 n → Calls Tryd.prog 13 #[.int .u8 f, .int .i64 n] w fun e w' => e = .returned (.tuple #[.int .i64 (findE f n).1, .bool (findE f n).2]) ∧ Below w.heap.size w w'
set_option maxRecDepth 100000 in
set_option maxHeartbeats 4000000 in
theorem made9_any (K F N C : Int) (B : Bool) (w : World) : Calls Tryd.prog 11 #[.agg #[.int .i64 K, .int .u8 F, .int .i64 N, .int .i64 C, .bool B]] w fun e w' => e = .returned (.agg #[.int .i64 K, .int .u8 F, .int .i64 N, .int .i64 C, .bool B]) ∧ Below w.heap.size w w' := by
  have hB : ∀ x y, Below w.heap.size w ((w.alloc x).alloc y) := fun x y => below_two x y
  go_enter Tryd.func11, Tryd.ntmps11
  go_wp2
  refine bodyPost_ret (v := .agg #[.int .i64 K, .int .u8 F, .int .i64 N, .int .i64 C, .bool B]) (by simp [results, Tryd.results11, go_sem]) rfl ⟨rfl, hB _ _⟩
theorem field9_kind (K F N C : Int) (B : Bool) (W : World) : (Instr.field 24 (.agg #[.int .i64 K, .int .u8 F, .int .i64 N, .int .i64 C, .bool B]) 0).run Tryd.prog W = .ok (.int .i64 K) W := by kernel_rfl
theorem field9_fin (K F N C : Int) (B : Bool) (W : World) : (Instr.field 24 (.agg #[.int .i64 K, .int .u8 F, .int .i64 N, .int .i64 C, .bool B]) 1).run Tryd.prog W = .ok (.int .u8 F) W := by kernel_rfl
theorem field9_num (K F N C : Int) (B : Bool) (W : World) : (Instr.field 24 (.agg #[.int .i64 K, .int .u8 F, .int .i64 N, .int .i64 C, .bool B]) 2).run Tryd.prog W = .ok (.int .i64 N) W := by kernel_rfl
theorem field9_char (K F N C : Int) (B : Bool) (W : World) : (Instr.field 24 (.agg #[.int .i64 K, .int .u8 F, .int .i64 N, .int .i64 C, .bool B]) 3).run Tryd.prog W = .ok (.int .i64 C) W := by kernel_rfl
theorem field9_keys (K F N C : Int) (B : Bool) (W : World) : (Instr.field 24 (.agg #[.int .i64 K, .int .u8 F, .int .i64 N, .int .i64 C, .bool B]) 4).run Tryd.prog W = .ok (.bool B) W := by kernel_rfl
section
variable {Inv : World → Prop}
set_option maxRecDepth 100000 in
set_option maxHeartbeats 16000000 in
theorem keysAwake (H : KeysC Inv) (w : World) (hv : Inv w) : Calls Tryd.prog 9 #[] w fun e w' => e = .returned (.bool true) ∧ Below w.heap.size w w' := by
  have g0 := field9_kind
  have g3 := field9_char
  have g4 := field9_keys
  have HF := Lib.hid (H.find 126 15 w hv ⟨by decide, by decide⟩ ⟨by decide, by decide⟩)
  rw [show findE 126 15 = (57368, true) by decide +kernel] at HF
  go_enter Tryd.func9, Tryd.ntmps9
  go_wp2_with fail
  refine HF.out.mono ?_
  rintro e w1 ⟨rfl, hbe1⟩
  have hi1 := H.invB hv hbe1
  go_wp2_with fail
  have HL1 := Lib.hid (H.look 57352 w1 hi1 ⟨by decide, by decide⟩)
  rw [show enV (lookE 57352) = .agg #[.int .i64 3, .int .u8 65, .int .i64 0, .int .i64 0, .bool false] from by rw [show lookE 57352 = ⟨3, 65, 0, 0, false⟩ by decide +kernel]; rfl] at HL1
  clear hi1
  refine HL1.out.mono ?_
  rintro e w2 ⟨rfl, hb2⟩
  have hbe2 := below_step9 hbe1 hb2 hbe1.size
  have hi2 := H.invB hv hbe2
  clear hb2 hbe1 HL1
  go_wp2_with fail
  have HL2 := Lib.hid (H.look 97 w2 hi2 ⟨by decide, by decide⟩)
  rw [show enV (lookE 97) = .agg #[.int .i64 1, .int .u8 0, .int .i64 0, .int .i64 0, .bool false] from by rw [show lookE 97 = ⟨1, 0, 0, 0, false⟩ by decide +kernel]; rfl] at HL2
  clear hi2
  refine HL2.out.mono ?_
  rintro e w3 ⟨rfl, hb3⟩
  have hbe3 := below_step9 hbe2 hb3 hbe2.size
  have hi3 := H.invB hv hbe3
  clear hb3 hbe2 HL2
  go_wp2_with fail
  have HL3 := Lib.hid (H.look 57441 w3 hi3 ⟨by decide, by decide⟩)
  rw [show enV (lookE 57441) = .agg #[.int .i64 7, .int .u8 0, .int .i64 0, .int .i64 0, .bool false] from by rw [show lookE 57441 = ⟨7, 0, 0, 0, false⟩ by decide +kernel]; rfl] at HL3
  clear hi3
  refine HL3.out.mono ?_
  rintro e w4 ⟨rfl, hb4⟩
  have hbe4 := below_step9 hbe3 hb4 hbe3.size
  have hi4 := H.invB hv hbe4
  clear hb4 hbe3 HL3
  go_wp2_with fail
  have HL4 := Lib.hid (H.look 57414 w4 hi4 ⟨by decide, by decide⟩)
  rw [show enV (lookE 57414) = .agg #[.int .i64 5, .int .u8 77, .int .i64 0, .int .i64 13, .bool true] from by rw [show lookE 57414 = ⟨5, 77, 0, 13, true⟩ by decide +kernel]; rfl] at HL4
  clear hi4
  refine HL4.out.mono ?_
  rintro e w5 ⟨rfl, hb5⟩
  have hbe5 := below_step9 hbe4 hb5 hbe4.size
  have hi5 := H.invB hv hbe5
  clear hb5 hbe4 HL4
  go_wp2_with fail
  have HL5 := Lib.hid (H.look 57420 w5 hi5 ⟨by decide, by decide⟩)
  rw [show enV (lookE 57420) = .agg #[.int .i64 3, .int .u8 66, .int .i64 0, .int .i64 0, .bool true] from by rw [show lookE 57420 = ⟨3, 66, 0, 0, true⟩ by decide +kernel]; rfl] at HL5
  clear hi5
  refine HL5.out.mono ?_
  rintro e w6 ⟨rfl, hb6⟩
  have hbe6 := below_step9 hbe5 hb6 hbe5.size
  have hi6 := H.invB hv hbe6
  clear hb6 hbe5 HL5
  go_wp2_with fail
  go_ret
  exact ⟨rfl, hbe6⟩
set_option maxRecDepth 100000 in
set_option maxHeartbeats 16000000 in
theorem keysLook_walk (H : KeysC Inv) (c : Int) (lo : -9223372036854775808 ≤ c) (hi : c ≤ 9223372036854775807) (w : World) (hv : Inv w) :
    Calls Tryd.prog 3 #[.int .i64 c] w fun e w' => e = .returned (.bool true) ∧ Below w.heap.size w w' := by
  obtain ⟨⟨K, F, N, C, B⟩, hE⟩ : ∃ E, lookE c = E := ⟨_, rfl⟩
  have HL : Hid (∀ W, Inv W → Calls Tryd.prog 10 #[.int .i64 c] W fun e w' => e = .returned (.agg #[.int .i64 K, .int .u8 F, .int .i64 N, .int .i64 C, .bool B]) ∧ Below W.heap.size W w') := Lib.hid fun W hW => by
    have := H.look c W hW ⟨lo, hi⟩
    rwa [hE] at this
  have HR : Hid (∀ W, Calls Tryd.prog 12 #[.int .i64 c] W fun e w' => e = .returned (.agg #[.int .i64 K, .int .u8 F, .int .i64 N, .int .i64 C, .bool B]) ∧ Below W.heap.size W w') := Lib.hid fun W => by
    have := rlook_any c W
    rwa [hE] at this
  clear hE lo hi
  go_enter Tryd.func3, Tryd.ntmps3
  go_wp2_with fail
  refine (keysAwake H _ hv).mono ?_
  rintro e w1 ⟨rfl, hb1⟩
  have hi1 := H.invB hv hb1
  go_wp2_with fail
  refine (HL.out _ hi1).mono ?_
  rintro e w2 ⟨rfl, hb2⟩
  have hbe2 := below_step9 hb1 hb2 hb1.size
  go_wp2_with fail
  refine (HR.out _).mono ?_
  rintro e w3 ⟨rfl, hb3⟩
  have hbe3 := below_step9 hbe2 hb3 hbe2.size
  go_wp2_with fail
  refine (made9_any K F N C B _).mono ?_
  rintro e w4 ⟨rfl, hb4⟩
  have hbe4 := below_step9 hbe3 hb4 hbe3.size
  go_wp2_with fail
  go_ret
  exact ⟨rfl, hbe4⟩
end
end Go.Proofs.YtkicenpcklknnaaDoor
