/-
  Layer 2, the document's Is and Put, walked. (Nothing of the program's.)
-/
import Derived.Test.YtdhpbihooeckoaaDoorUtdO
import Derived.BigQuiet
import Derived.Deep.QuietTactic
namespace Go.Proofs.YtdhpbihooeckoaaDoor
open Go.RowKit

set_option maxHeartbeats 1000000 in
theorem risPt_any (r : Int) (w : World) : Calls Tryd.prog 45 #[.int .i64 r] w fun e w' => e = .returned (.bool (isPt r)) ∧ w = w' := by
  by_cases h0 : 0 ≤ r
  · by_cases h1 : r ≤ 1114111
    · by_cases h2 : r < 55296
      · go_enter Tryd.func45, Tryd.ntmps45
        go_wp2
        go_ret
        exact ⟨ret_b (((isPt_iff r).2 (by omega)).symm), rfl⟩
      · by_cases h3 : 57343 < r
        · go_enter Tryd.func45, Tryd.ntmps45
          go_wp2
          go_ret
          exact ⟨ret_b (((isPt_iff r).2 (by omega)).symm), rfl⟩
        · go_enter Tryd.func45, Tryd.ntmps45
          go_wp2
          go_ret
          exact ⟨ret_b (((isPt_no r).2 (by omega)).symm), rfl⟩
    · go_enter Tryd.func45, Tryd.ntmps45
      go_wp2
      go_ret
      exact ⟨ret_b (((isPt_no r).2 (by omega)).symm), rfl⟩
  · go_enter Tryd.func45, Tryd.ntmps45
    go_wp2
    go_ret
    exact ⟨ret_b (((isPt_no r).2 (by omega)).symm), rfl⟩

set_option maxHeartbeats 2000000 in
theorem rPut_any (r : Int) (w : World) : Calls Tryd.prog 52 #[.int .i64 r] w (Out (putL r) w) := by
  cases h : isPt r with
  | false =>
    rw [putL_no h]
    go_enter Tryd.func52, Tryd.ntmps52
    go_wp2_with fail
    refine (risPt_any r _).mono ?_
    rintro e w1 ⟨rfl, rfl⟩
    go_wp2_with fail
    go_ret
    exact ⟨none, 0, rfl, Rd.nil _ _, Below.refl _ _⟩
  | true =>
    obtain ⟨h0, h1, h2⟩ := (isPt_iff r).1 h
    clear h2
    by_cases a1 : r < 128
    · have e := putL_1 h a1
      have E := Lib.hid (show bs (putL r) = [.int .u8 r] by rw [e, bs1 r (by omega) (by omega)])
      have L := Lib.hid (show (putL r).length = 1 by rw [e]; rfl)
      clear e
      go_enter Tryd.func52, Tryd.ntmps52
      go_wp2_with fail
      refine (risPt_any r _).mono ?_
      rintro e w1 ⟨rfl, rfl⟩
      go_wp2_with fail
      go_ret
      exact out_lit w 5 E.out L.out
    · by_cases a2 : r < 2048
      · have e := putL_2 h (by omega) a2
        have E := Lib.hid (show bs (putL r) = [.int .u8 (192 + r / 64), .int .u8 (128 + r % 64)] by rw [e, bs_cons _ (by omega) (by omega), bs1 _ (by omega) (by omega)])
        have L := Lib.hid (show (putL r).length = 2 by rw [e]; rfl)
        clear e
        go_enter Tryd.func52, Tryd.ntmps52
        go_wp2_with fail
        refine (risPt_any r _).mono ?_
        rintro e w1 ⟨rfl, rfl⟩
        go_wp2_with fail
        go_ret
        exact out_lit w 5 E.out L.out
      · by_cases a3 : r < 65536
        · have e := putL_3 h (by omega) a3
          have E := Lib.hid (show bs (putL r) = [.int .u8 (224 + r / 4096), .int .u8 (128 + r / 64 % 64), .int .u8 (128 + r % 64)] by rw [e, bs_cons _ (by omega) (by omega), bs_cons _ (by omega) (by omega), bs1 _ (by omega) (by omega)])
          have L := Lib.hid (show (putL r).length = 3 by rw [e]; rfl)
          clear e
          go_enter Tryd.func52, Tryd.ntmps52
          go_wp2_with fail
          refine (risPt_any r _).mono ?_
          rintro e w1 ⟨rfl, rfl⟩
          go_wp2_with fail
          go_ret
          exact out_lit w 5 E.out L.out
        · have e := putL_4 h (by omega)
          have E := Lib.hid (show bs (putL r) = [.int .u8 (240 + r / 262144), .int .u8 (128 + r / 4096 % 64), .int .u8 (128 + r / 64 % 64), .int .u8 (128 + r % 64)] by rw [e, bs_cons _ (by omega) (by omega), bs_cons _ (by omega) (by omega), bs_cons _ (by omega) (by omega), bs1 _ (by omega) (by omega)])
          have L := Lib.hid (show (putL r).length = 4 by rw [e]; rfl)
          clear e
          go_enter Tryd.func52, Tryd.ntmps52
          go_wp2_with fail
          refine (risPt_any r _).mono ?_
          rintro e w1 ⟨rfl, rfl⟩
          go_wp2_with fail
          go_ret
          exact out_lit w 5 E.out L.out
end Go.Proofs.YtdhpbihooeckoaaDoor
