/-
  Layer 3, walked: the document's May.
-/
import Derived.Test.YtkkjahhilcjpgaaDoorG16
import Derived.Test.YtkkjahhilcjpgaaDoorG39
namespace Go.Proofs.YtkkjahhilcjpgaaDoor
open Go.RowKit
set_option maxRecDepth 100000 in
set_option maxHeartbeats 8000000 in
theorem may_wide (s : Sq) (A : Option Addr) (c : Nat) (m : Int) (w : World) (hm : mayS s = m) (hp : s.params.length ≤ 4294967296) (hi : s.inter.length ≤ 9223372036854775807) (hr : RdP w A s.params) :
 Calls Tryd.prog 14 #[sqV s A c] w fun e w' => e = .returned (.int .i64 m) ∧ Below w.heap.size w w' := by
 by_cases hd : 4096 < s.data.length
 ·obtain rfl : 4 = m := (may_4 hd).symm.trans hm
  clear hm
  unfold sqV
  go_enter Tryd.func14, Tryd.ntmps14
  go_wp2_with fail
  go_ret
  exact ⟨rfl, (Below.refl _ _).alloc (Nat.le_refl _) _⟩
 ·have hd4 : s.data.length ≤ 4096 := by omega
  clear hd
  have hB : Below w.heap.size w (w.alloc (.cells #[.int .i64 s.kind, .int .u8 (s.priv.toNat : Int), .slice A s.params.length c, .string ⟨s.inter.toArray⟩, .int .u8 (s.final.toNat : Int), .string ⟨s.data.toArray⟩] 28)) := (Below.refl _ _).alloc (Nat.le_refl _) _
  cases h1 : privOk s.priv with
  | false =>
    obtain rfl : 1 = m := (may_1 hd4 (by unfold okS; rw [h1]; rfl)).symm.trans hm
    clear hm
    simp only [privOk, Bool.or_eq_false_iff, decide_eq_false_iff_not] at h1
    obtain ⟨p0, p1⟩ := h1
    have p2 := (btw_no _ _ _).1 p1
    have hn : s.priv.toNat ≠ 0 := fun e => p0 (UInt8.toNat_inj.1 e)
    have t1 : ((s.priv.toNat : Int) == 0) = false := beq_false_of_ne (by omega)
    have t2 : ((s.priv.toNat : Int) != 0) = true := by simp [bne, t1]
    clear p0 p1
    by_cases p3 : s.priv.toNat < 60
    all_goals
     unfold sqV
     go_enter Tryd.func14, Tryd.ntmps14
     go_wp2_with fail
     go_ret
     exact ⟨rfl, hB⟩
  | true =>
    have V1 := Lib.hid h1
    have key : ((s.priv.toNat : Int) == 0) = true ∧ ((s.priv.toNat : Int) != 0) = false ∨ ((s.priv.toNat : Int) == 0) = false ∧ ((s.priv.toNat : Int) != 0) = true ∧ 60 ≤ s.priv.toNat ∧ s.priv.toNat ≤ 63 := by
     simp only [privOk, Bool.or_eq_true, decide_eq_true_eq] at h1
     rcases h1 with h1 | h1
     ·left; rw [h1]; exact ⟨rfl, rfl⟩
     ·right
      have := (btw_iff _ _ _).1 h1
      have t1 : ((s.priv.toNat : Int) == 0) = false := beq_false_of_ne (by omega)
      exact ⟨t1, by simp [bne, t1], this⟩
    clear h1
    rcases key with ⟨t1, t2⟩ | ⟨t1, t2, p1, p2⟩
    all_goals
     cases h2 : parOk s.params with
     | false =>
       have V2 := Lib.hid h2
       clear h2
       obtain rfl : 1 = m := (may_1 hd4 (by simp [okS, V1.out, V2.out])).symm.trans hm
       clear hm
       unfold sqV
       go_enter Tryd.func14, Tryd.ntmps14
       go_wp2_with fail
       refine (params_any A c s.params false _ V2.out hp (hr.below hB)).mono ?_
       rintro e w1 ⟨rfl, rfl⟩
       go_wp2_with fail
       go_ret
       exact ⟨rfl, hB⟩
     | true =>
       have V2 := Lib.hid h2
       clear h2
       by_cases h3 : 2 < s.inter.length
       ·have V3 := Lib.hid (show ¬ s.inter.length ≤ 2 by omega)
        obtain rfl : 1 = m := (may_1 hd4 (by simp [okS, V1.out, V2.out, V3.out])).symm.trans hm
        clear hm
        unfold sqV
        go_enter Tryd.func14, Tryd.ntmps14
        go_wp2_with fail
        refine (params_any A c s.params true _ V2.out hp (hr.below hB)).mono ?_
        rintro e w1 ⟨rfl, rfl⟩
        go_wp2_with fail
        go_ret
        exact ⟨rfl, hB⟩
       ·have h3 : s.inter.length ≤ 2 := by omega
        have V3 := Lib.hid h3
        cases h4 : s.inter.all (btw 32 47) with
        | false =>
          have V4 := Lib.hid h4
          clear h4
          obtain rfl : 1 = m := (may_1 hd4 (by simp [okS, V1.out, V2.out, V3.out, V4.out])).symm.trans hm
          clear hm
          unfold sqV
          go_enter Tryd.func14, Tryd.ntmps14
          go_wp2_with fail
          refine (params_any A c s.params true _ V2.out hp (hr.below hB)).mono ?_
          rintro e w1 ⟨rfl, rfl⟩
          go_wp2_with fail
          refine (within_any s.inter 32 47 false _ (by omega) V4.out).mono ?_
          rintro e w1 ⟨rfl, rfl⟩
          go_wp2_with fail
          go_ret
          exact ⟨rfl, hB⟩
        | true =>
          have V4 := Lib.hid h4
          clear h4
          cases h5 : s.data.all (btw 32 126) with
          | false =>
            have V5 := Lib.hid h5
            clear h5
            obtain rfl : 1 = m := (may_1 hd4 (by simp [okS, V1.out, V2.out, V3.out, V4.out, V5.out])).symm.trans hm
            clear hm
            unfold sqV
            go_enter Tryd.func14, Tryd.ntmps14
            go_wp2_with fail
            refine (params_any A c s.params true _ V2.out hp (hr.below hB)).mono ?_
            rintro e w1 ⟨rfl, rfl⟩
            go_wp2_with fail
            refine (within_any s.inter 32 47 true _ (by omega) V4.out).mono ?_
            rintro e w1 ⟨rfl, rfl⟩
            go_wp2_with fail
            refine (within_any s.data 32 126 false _ (by omega) V5.out).mono ?_
            rintro e w1 ⟨rfl, rfl⟩
            go_wp2_with fail
            go_ret
            exact ⟨rfl, hB⟩
          | true =>
            have V5 := Lib.hid h5
            clear h5
            cases h6 : lastOk s with
            | false =>
              have V6 := Lib.hid h6
              clear h6
              obtain rfl : 1 = m := (may_1 hd4 (by simp [okS, V1.out, V2.out, V3.out, V4.out, V5.out, V6.out])).symm.trans hm
              clear hm
              unfold sqV
              go_enter Tryd.func14, Tryd.ntmps14
              go_wp2_with fail
              refine (params_any A c s.params true _ V2.out hp (hr.below hB)).mono ?_
              rintro e w1 ⟨rfl, rfl⟩
              go_wp2_with fail
              refine (within_any s.inter 32 47 true _ (by omega) V4.out).mono ?_
              rintro e w1 ⟨rfl, rfl⟩
              go_wp2_with fail
              refine (within_any s.data 32 126 true _ (by omega) V5.out).mono ?_
              rintro e w1 ⟨rfl, rfl⟩
              go_wp2_with fail
              refine (last_any s A c false _ V6.out).mono ?_
              rintro e w2 ⟨rfl, hb2⟩
              obtain ⟨hbc, hbf⟩ := below_cells hb2
              have hb2' := hB.trans (hb2.mono hB.size)
              go_wp2_with fail
              go_ret
              exact ⟨rfl, hb2'⟩
            | true =>
              have V6 := Lib.hid h6
              clear h6
              cases h7 : bareOk s with
              | false =>
                have V7 := Lib.hid h7
                clear h7
                obtain rfl : 1 = m := (may_1 hd4 (by simp [okS, V1.out, V2.out, V3.out, V4.out, V5.out, V6.out, V7.out])).symm.trans hm
                clear hm
                unfold sqV
                go_enter Tryd.func14, Tryd.ntmps14
                go_wp2_with fail
                refine (params_any A c s.params true _ V2.out hp (hr.below hB)).mono ?_
                rintro e w1 ⟨rfl, rfl⟩
                go_wp2_with fail
                refine (within_any s.inter 32 47 true _ (by omega) V4.out).mono ?_
                rintro e w1 ⟨rfl, rfl⟩
                go_wp2_with fail
                refine (within_any s.data 32 126 true _ (by omega) V5.out).mono ?_
                rintro e w1 ⟨rfl, rfl⟩
                go_wp2_with fail
                refine (last_any s A c true _ V6.out).mono ?_
                rintro e w2 ⟨rfl, hb2⟩
                obtain ⟨hbc, hbf⟩ := below_cells hb2
                have hb2' := hB.trans (hb2.mono hB.size)
                go_wp2_with fail
                refine (bare_any s A c false _ V7.out).mono ?_
                rintro e w3 ⟨rfl, hb3⟩
                have hb3' := hb2'.trans (hb3.mono hb2'.size)
                go_wp2_with fail
                go_ret
                exact ⟨rfl, hb3'⟩
              | true =>
                have V7 := Lib.hid h7
                clear h7
                obtain rfl : 0 = m := (may_0 hd4 (by simp [okS, V1.out, V2.out, V3.out, V4.out, V5.out, V6.out, V7.out])).symm.trans hm
                clear hm
                unfold sqV
                go_enter Tryd.func14, Tryd.ntmps14
                go_wp2_with fail
                refine (params_any A c s.params true _ V2.out hp (hr.below hB)).mono ?_
                rintro e w1 ⟨rfl, rfl⟩
                go_wp2_with fail
                refine (within_any s.inter 32 47 true _ (by omega) V4.out).mono ?_
                rintro e w1 ⟨rfl, rfl⟩
                go_wp2_with fail
                refine (within_any s.data 32 126 true _ (by omega) V5.out).mono ?_
                rintro e w1 ⟨rfl, rfl⟩
                go_wp2_with fail
                refine (last_any s A c true _ V6.out).mono ?_
                rintro e w2 ⟨rfl, hb2⟩
                obtain ⟨hbc, hbf⟩ := below_cells hb2
                have hb2' := hB.trans (hb2.mono hB.size)
                go_wp2_with fail
                refine (bare_any s A c true _ V7.out).mono ?_
                rintro e w3 ⟨rfl, hb3⟩
                have hb3' := hb2'.trans (hb3.mono hb2'.size)
                go_wp2_with fail
                go_ret
                exact ⟨rfl, hb3'⟩
end Go.Proofs.YtkkjahhilcjpgaaDoor
