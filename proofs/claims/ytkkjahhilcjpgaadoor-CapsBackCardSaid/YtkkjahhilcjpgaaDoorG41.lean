/-
  Stage 20's law CapsSafe, walked.
-/
import Derived.Test.YtkkjahhilcjpgaaDoorG38
import Derived.Test.YtkkjahhilcjpgaaDoorG40
namespace Go.Proofs.YtkkjahhilcjpgaaDoor
open Go.RowKit
theorem ans_form (t : List UInt8) : ∃ h d, ansS t = ⟨3, 0, [[h]], [43], 114, d⟩ ∧ d.length ≤ 4096 ∧ ∀ c ∈ d, hexC c = true ∨ c = 61 ∨ c = 59 := by
 unfold ansS
 cases h : ansD t with
 | none => exact ⟨0, [], rfl, by simp, fun c h => absurd h List.not_mem_nil⟩
 | some d => exact ⟨1, d, rfl, (ans_safe h).1, (ans_safe h).2⟩
theorem hex_rng {c : UInt8} (h : hexC c = true) : (48 ≤ c.toNat ∧ c.toNat ≤ 57) ∨ (65 ≤ c.toNat ∧ c.toNat ≤ 70) := by
 simp only [hexC, btw, Bool.or_eq_true, Bool.and_eq_true, decide_eq_true_eq] at h
 exact h
set_option maxRecDepth 100000 in
set_option maxHeartbeats 16000000 in
theorem capsSafe_walk (b0 : ByteArray) (hb : b0.size ≤ maxLen) (w : World) : Calls Tryd.prog 4 #[.string b0] w fun e w' => e = .returned (.bool true) ∧ Below w.heap.size w w' := by
 obtain ⟨⟨t⟩⟩ := b0
 have htl : t.length ≤ maxLen := hb
 have HTL := Lib.hid htl
 clear hb
 by_cases h2 : 300 < t.length
 ·have v2 : (300 : Int) < (t.length : Int) := by omega
  go_enter Tryd.func4, Tryd.ntmps4
  go_wp2_with fail
  refine (capAwake _).mono ?_
  rintro e w1 ⟨rfl, hb1⟩
  go_wp2_with fail
  go_ret
  exact ⟨rfl, hb1⟩
 have v2 : ¬ ((300 : Int) < (t.length : Int)) := by omega
 have hm := ans_may t
 have HAN := Lib.hid (pAnswer20_any t (by omega))
 obtain ⟨h, D, hS, hDl, hDc⟩ := ans_form t
 rw [hS] at HAN hm
 have HMY : Hid (∀ (W : World) A c, RdP W A [[h]] → Calls Tryd.prog 14 #[.agg #[.int .i64 3, .int .u8 0, .slice A 1 c, .string ⟨#[43]⟩, .int .u8 114, .string ⟨D.toArray⟩]] W fun e w' => e = .returned (.int .i64 0) ∧ Below W.heap.size W w') := Lib.hid fun W A c hr =>
  may_wide ⟨3, 0, [[h]], [43], 114, D⟩ A c 0 W hm (by simp) (by simp) hr
 have HDC := Lib.hid hDc
 have HDL := Lib.hid hDl
 clear hm hS hDc h2 htl
 go_enter Tryd.func4, Tryd.ntmps4
 go_wp2_with fail
 refine (capAwake _).mono ?_
 rintro e w1 ⟨rfl, hb1⟩
 go_wp2_with fail
 refine (HAN.out _).mono ?_
 rintro e w2 ⟨A, c, rfl, hr2, hb2⟩
 have hB2 := (hb1.trans (hb2.mono hb1.size)).alloc (Nat.le_trans hb1.size hb2.size) (.cells #[.int .i64 3, .int .u8 0, .slice A 1 c, .string ⟨#[43]⟩, .int .u8 114, .string ⟨D.toArray⟩] 28)
 have k2 := Blk.new w2 28 #[.int .i64 3, .int .u8 0, .slice A 1 c, .string ⟨#[43]⟩, .int .u8 114, .string ⟨D.toArray⟩]
 replace hr2 := hr2.alloc (.cells #[.int .i64 3, .int .u8 0, .slice A 1 c, .string ⟨#[43]⟩, .int .u8 114, .string ⟨D.toArray⟩] 28)
 obtain ⟨w3, hw3⟩ : ∃ x, w2.alloc (.cells #[.int .i64 3, .int .u8 0, .slice A 1 c, .string ⟨#[43]⟩, .int .u8 114, .string ⟨D.toArray⟩] 28) = x := ⟨_, rfl⟩
 clear hb1 hb2
 unfold sqV
 simp only [List.length_cons, List.length_nil, Nat.reduceAdd]
 go_upto_region 5 with fail
 rw [hw3] at hB2 k2 hr2
 clear hw3
 have c5 := k2.cell 5
 go_wp2_with fail
 go_loopw [5] (fun z wr => ∃ k : Nat, k ≤ D.length ∧ z = .int .i64 k ∧ wr = w3) (fun z _ => D.length - (intOf z).toNat)
 case atStart => exact ⟨0, Nat.zero_le _, rfl, rfl⟩
 case round =>
  obtain ⟨k, hk, rfl, rfl⟩ := hrel
  by_cases hlt : k < D.length
  ·have v1 : (k : Int) < (D.length : Int) := by omega
   have v0 : (0 : Int) ≤ (k : Int) := by omega
   have v2 : IntKind.i64.wrap ((k : Int) + 1) = (k : Int) + 1 := by rw [IntKind.wrap_i64]; have := HDL.out; omega
   have HC := HDC.out D[k] (List.getElem_mem hlt)
   have hget : (⟨D.toArray⟩ : ByteArray)[k]'hlt = D[k] := rfl
   obtain ⟨c', hc'⟩ : ∃ c, D[k] = c := ⟨_, rfl⟩
   rw [hc'] at HC hget
   clear hc'
   have hcl := c'.toNat_lt
   rcases HC with hr | rfl | rfl
   ·rcases hex_rng hr with ⟨r1, r2⟩ | ⟨r1, r2⟩
    ·have x1 : (48 : Int) ≤ (c'.toNat : Int) := by omega
     have x2 : (c'.toNat : Int) ≤ 57 := by omega
     clear hr r1 r2 hcl
     go_wp2_with fail
     go_roundw
     case rel => exact ⟨k + 1, by omega, by go_num, trivial⟩
     case measure => simp [intOf]; omega
    ·have x1 : (48 : Int) ≤ (c'.toNat : Int) := by omega
     have x2 : ¬ ((c'.toNat : Int) ≤ 57) := by omega
     have x3 : (65 : Int) ≤ (c'.toNat : Int) := by omega
     have x4 : (c'.toNat : Int) ≤ 70 := by omega
     clear hr r1 r2 hcl
     go_wp2_with fail
     go_roundw
     case rel => exact ⟨k + 1, by omega, by go_num, trivial⟩
     case measure => simp [intOf]; omega
   ·clear hcl
    go_wp2_with fail
    go_roundw
    case rel => exact ⟨k + 1, by omega, by go_num, trivial⟩
    case measure => simp [intOf]; omega
   ·clear hcl
    go_wp2_with fail
    go_roundw
    case rel => exact ⟨k + 1, by omega, by go_num, trivial⟩
    case measure => simp [intOf]; omega
  ·have v1 : ¬ ((k : Int) < (D.length : Int)) := by omega
   have u0 := k2.cell 0
   have u1 := k2.cell 1
   have u2 := k2.cell 2
   have u3 := k2.cell 3
   have u4 := k2.cell 4
   go_wp2_with fail
   refine (HMY.out _ _ _ hr2).mono ?_
   rintro e w7 ⟨rfl, hb7⟩
   have hB7 := hB2.trans (hb7.mono hB2.size)
   have y0 := (k2.below hb7 k2.lt).cell 0
   clear hb7 u0 u1 u2 u3 u4
   go_wp2_with fail
   go_ret
   exact ⟨rfl, hB7⟩
end Go.Proofs.YtkkjahhilcjpgaaDoor
