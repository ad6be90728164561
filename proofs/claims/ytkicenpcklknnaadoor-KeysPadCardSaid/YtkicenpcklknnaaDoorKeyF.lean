/-
  Layer 9: the walks of KeysFind and KeysRow.
-/
import Derived.Test.YtkicenpcklknnaaDoorKeyC
namespace Go.Proofs.YtkicenpcklknnaaDoor
open Go.RowKit

section
variable {Inv : World → Prop}
set_option maxRecDepth 100000 in
set_option maxHeartbeats 16000000 in
theorem keysFind_walk (H : KeysC Inv) (f : Int) (flo : 0 ≤ f) (fhi : f ≤ 255) (n : Int) (lo : -9223372036854775808 ≤ n) (hi : n ≤ 9223372036854775807) (w : World) (hv : Inv w) :
    Calls Tryd.prog 5 #[.int .u8 f, .int .i64 n] w fun e w' => e = .returned (.bool true) ∧ Below w.heap.size w w' := by
  obtain ⟨⟨a, b⟩, hE⟩ : ∃ E, findE f n = E := ⟨_, rfl⟩
  have HL : Hid (∀ W, Inv W → Calls Tryd.prog 13 #[.int .u8 f, .int .i64 n] W fun e w' => e = .returned (.tuple #[.int .i64 a, .bool b]) ∧ Below W.heap.size W w') := Lib.hid fun W hW => by
    have := H.find f n W hW ⟨flo, fhi⟩ ⟨lo, hi⟩
    rwa [hE] at this
  have HR : Hid (∀ W, Calls Tryd.prog 14 #[.int .u8 f, .int .i64 n] W fun e w' => e = .returned (.tuple #[.int .i64 a, .bool b]) ∧ Below W.heap.size W w') := Lib.hid fun W => by
    have := rfind_any f n W
    rwa [hE] at this
  clear hE lo hi flo fhi
  go_enter Tryd.func5, Tryd.ntmps5
  go_wp2_with fail
  refine (keysAwake H _ hv).mono ?_
  rintro e w1 ⟨rfl, hb1⟩
  have hi1 := H.invB hv hb1
  go_wp2_with fail
  refine (HL.out _ hi1).mono ?_
  rintro e w2 ⟨rfl, hb2⟩
  have hbe2 := below_step9 hb1 hb2 hb1.size
  go_wp2_with fail
  refine (HR.out _).mono ?_
  rintro e w3 ⟨rfl, hb3⟩
  have hbe3 := below_step9 hbe2 hb3 hbe2.size
  cases b
  all_goals
    go_wp2_with fail
    go_ret
    exact ⟨rfl, hbe3⟩
set_option maxRecDepth 100000 in
set_option maxHeartbeats 32000000 in
theorem keysRow_walk (H : KeysC Inv) (f : Int) (flo : 0 ≤ f) (fhi : f ≤ 255) (w : World) (hv : Inv w) :
    Calls Tryd.prog 4 #[.int .u8 f] w fun e w' => e = .returned (.bool true) ∧ Below w.heap.size w w' := by
  go_enter Tryd.func4, Tryd.ntmps4
  go_wp2_with fail
  refine (keysAwake H _ hv).mono ?_
  rintro e w1 ⟨rfl, hb1⟩
  go_wp2_with fail
  go_loopw [4] (fun s3 wr => ∃ i : Nat, i ≤ 120 ∧ s3 = .int .i64 (i : Int) ∧ Below w.heap.size w wr) (fun s3 _ => 120 - (intOf s3).toNat)
  case atStart => exact ⟨0, by omega, rfl, hb1⟩
  case round =>
    obtain ⟨i, hi, rfl, hbw⟩ := hrel
    have hiw := H.invB hv hbw
    by_cases hlt : i < 120
    · obtain ⟨c, hc⟩ : ∃ c, 57340 + f + (i : Int) = c := ⟨_, rfl⟩
      have hw1 : IntKind.i64.wrap (57340 + f) = 57340 + f := by rw [IntKind.wrap_i64]; go_num
      have hw2 : IntKind.i64.wrap (57340 + f + (i : Int)) = c := by rw [IntKind.wrap_i64, hc]; go_num
      obtain ⟨⟨K, F, N, C, B⟩, hE⟩ : ∃ E, lookE c = E := ⟨_, rfl⟩
      have HL : Hid (Calls Tryd.prog 10 #[.int .i64 c] wr fun e w' => e = .returned (.agg #[.int .i64 K, .int .u8 F, .int .i64 N, .int .i64 C, .bool B]) ∧ Below wr.heap.size wr w') := Lib.hid (by
        have := H.look c wr hiw ⟨by omega, by omega⟩
        rwa [hE] at this)
      have HR : Hid (∀ W, Calls Tryd.prog 12 #[.int .i64 c] W fun e w' => e = .returned (.agg #[.int .i64 K, .int .u8 F, .int .i64 N, .int .i64 C, .bool B]) ∧ Below W.heap.size W w') := Lib.hid fun W => by
        have := rlook_any c W
        rwa [hE] at this
      clear hE hb1
      go_wp2_with fail
      refine HL.out.mono ?_
      rintro e w2 ⟨rfl, hb2⟩
      have hbe2 := below_step9 hbw hb2 hbw.size
      go_wp2_with fail
      refine (HR.out _).mono ?_
      rintro e w3 ⟨rfl, hb3⟩
      have hbe3 := below_step9 hbe2 hb3 hbe2.size
      go_wp2_with fail
      refine (made9_any K F N C B _).mono ?_
      rintro e w4 ⟨rfl, hb4⟩
      have hbe4 := below_step9 hbe3 hb4 hbe3.size
      go_wp2_with fail
      go_roundw
      case rel => exact ⟨i + 1, by omega, by go_num, hbe4⟩
      case measure => simp [intOf]; omega
    · obtain rfl : i = 120 := by omega
      have g0 := field9_kind
      have HL1 := Lib.hid (H.look 57343 wr hiw ⟨by decide, by decide⟩)
      rw [show enV (lookE 57343) = .agg #[.int .i64 0, .int .u8 0, .int .i64 0, .int .i64 0, .bool false] from by rw [show lookE 57343 = ⟨0, 0, 0, 0, false⟩ by decide +kernel]; rfl] at HL1
      go_wp2_with fail
      refine HL1.out.mono ?_
      rintro e w2 ⟨rfl, hb2⟩
      have hbe2 := below_step9 hbw hb2 hbw.size
      have HL2 := Lib.hid (H.look 63744 w2 (H.invB hv hbe2) ⟨by decide, by decide⟩)
      rw [show enV (lookE 63744) = .agg #[.int .i64 1, .int .u8 0, .int .i64 0, .int .i64 0, .bool false] from by rw [show lookE 63744 = ⟨1, 0, 0, 0, false⟩ by decide +kernel]; rfl] at HL2
      go_wp2_with fail
      refine HL2.out.mono ?_
      rintro e w3 ⟨rfl, hb3⟩
      have hbe3 := below_step9 hbe2 hb3 hbe2.size
      have HL3 := Lib.hid (H.look 63743 w3 (H.invB hv hbe3) ⟨by decide, by decide⟩)
      rw [show enV (lookE 63743) = .agg #[.int .i64 0, .int .u8 0, .int .i64 0, .int .i64 0, .bool false] from by rw [show lookE 63743 = ⟨0, 0, 0, 0, false⟩ by decide +kernel]; rfl] at HL3
      go_wp2_with fail
      refine HL3.out.mono ?_
      rintro e w4 ⟨rfl, hb4⟩
      have hbe4 := below_step9 hbe3 hb4 hbe3.size
      go_wp2_with fail
      go_ret
      exact ⟨rfl, hbe4⟩
end
end Go.Proofs.YtkicenpcklknnaaDoor
