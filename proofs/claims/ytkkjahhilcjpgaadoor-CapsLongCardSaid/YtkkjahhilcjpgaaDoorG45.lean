/-
  Stage 20's law CapsLong, walked.
-/
import Derived.Test.YtkkjahhilcjpgaaDoorG20
import Derived.Test.YtkkjahhilcjpgaaDoorG33
import Derived.Test.YtkkjahhilcjpgaaDoorG43
import Derived.Deep.Cut
import Derived.BigQuiet
namespace Go.Proofs.YtkkjahhilcjpgaaDoor
open Go.RowKit Go.Shelf
def askR (k : Nat) : List UInt8 := joinC (List.replicate k [52, 51, 54, 70])
theorem askR_len (k : Nat) : (askR k).length = 5 * k - 1 := by
 cases k with
 | zero => rfl
 | succ k =>
   have := join_rep [52, 51, 54, 70] (k + 1) (by omega)
   simp only [List.length_cons, List.length_nil] at this
   unfold askR
   omega
theorem askR_succ (k : Nat) : askR (k + 1) = (if k = 0 then [] else askR k ++ [59]) ++ [52, 51, 54, 70] := by
 unfold askR
 rw [List.replicate_succ']
 have := join_add (List.replicate k [52, 51, 54, 70]) [52, 51, 54, 70]
 rw [this]
 cases k with
 | zero => rfl
 | succ k => simp [List.replicate_succ]
def repR (n : Nat) (odd : Bool) : List UInt8 := if odd = true ∨ 4096 < 12 * n - 1 then [] else joinC (List.replicate n [52, 51, 54, 70, 61, 51, 50, 51, 53, 51, 54])
theorem repR_ans (n : Nat) (h : 0 < n) (odd : Bool) : ∃ g, ansS (askR n ++ (if odd = true then [59, 48, 48] else [])) = ⟨3, 0, [[g]], [43], 114, repR n odd⟩ := by
 unfold ansS askR repR
 rw [caps_long n h odd]
 split
 ·exact ⟨0, rfl⟩
 ·exact ⟨1, rfl⟩
theorem repR_len (n : Nat) (h : 0 < n) : (joinC (List.replicate n [52, 51, 54, 70, 61, 51, 50, 51, 53, 51, 54])).length = 12 * n - 1 := by
 have := join_rep [52, 51, 54, 70, 61, 51, 50, 51, 53, 51, 54] n h
 simp only [List.length_cons, List.length_nil] at this
 omega
set_option maxRecDepth 100000 in
set_option maxHeartbeats 16000000 in
theorem capsLong_walk (n0 : Int) (h0 : 0 ≤ n0) (_h1 : n0 ≤ 65535) (odd : Bool) (w : World) : Calls Tryd.prog 6 #[.int .u16 n0, .bool odd] w fun e w' => e = .returned (.bool true) ∧ Below w.heap.size w w' := by
 obtain ⟨i0, hi, hz0, hz1, hz2⟩ := info_parts Tryd.u8info
 obtain ⟨N, hN⟩ : ∃ N : Nat, 1 + n0 % 600 = (N : Int) := ⟨(1 + n0 % 600).toNat, by omega⟩
 have hNr : 1 ≤ N ∧ N ≤ 600 := by omega
 have e0 : (600 : Int) ≠ 0 := by decide
 have e1 : n0.tmod 600 = n0 % 600 := Int.tmod_eq_emod_of_nonneg h0
 have e2 : IntKind.u16.wrap (n0 % 600) = n0 % 600 := by rw [show IntKind.u16.wrap (n0 % 600) = (n0 % 600) % 65536 by simp [IntKind.wrap, IntKind.bits, IntKind.signed]]; omega
 have e3 : IntKind.i64.wrap (n0 % 600) = n0 % 600 := by rw [IntKind.wrap_i64]; omega
 have e4 : IntKind.i64.wrap (1 + n0 % 600) = (N : Int) := by rw [hN, IntKind.wrap_i64]; omega
 clear hN h0
 go_enter Tryd.func6, Tryd.ntmps6
 go_wp2_with fail
 refine (capAwake _).mono ?_
 rintro e w1 ⟨rfl, hb1⟩
 go_wp2_with fail
 go_loopw [7, 8] (fun v z wr => ∃ (k : Nat) (Q : List UInt8), k ≤ N ∧ z = .int .i64 k ∧ Hid (Q = askR k) ∧ Own wr w1.heap.size 5 1 v Q.length (bs Q) ∧ Below w1.heap.size w1 wr) (fun _ z _ => N - (intOf z).toNat)
 case atStart => exact ⟨0, [], Nat.zero_le _, rfl, Lib.hid rfl, Own.nil_ _ _ _ _, Below.refl _ _⟩
 case round =>
  obtain ⟨k, Q, hk, rfl, HQ, hown, hbw⟩ := hrel
  have hB := hb1.trans (hbw.mono hb1.size)
  have hQl : Q.length ≤ 3000 := by rw [HQ.out, askR_len]; omega
  by_cases hlt : k < N
  ·have v2 : (k : Int) < (N : Int) := by omega
   have v3 : IntKind.i64.wrap ((k : Int) + 1) = (k : Int) + 1 := by rw [IntKind.wrap_i64]; omega
   obtain ⟨D, hD⟩ : ∃ D, (if k = 0 then [] else askR k ++ [59]) = D := ⟨_, rfl⟩
   have hsu := askR_succ k
   rw [hD] at hsu
   have HSU := Lib.hid hsu
   have HDL : Hid (D.length ≤ 3001) := Lib.hid (by rw [← hD, ← HQ.out]; split <;> simp; omega)
   clear hsu
   go_upto_if 22 with fail
   go_cut [7, 22] from 66 (fun v _ W' => Own W' w1.heap.size 5 1 v D.length (bs D) ∧ Below w1.heap.size w1 W')
   case first =>
    by_cases hk0 : k = 0
    ·have v4 : ¬ ((0 : Int) < (k : Int)) := by omega
     have hQ0 : Q = D := by rw [HQ.out, ← hD, if_pos hk0, hk0]; rfl
     subst hQ0
     clear hk0 hD
     go_wp2_with fail
     go_meet
     case rel => exact ⟨hown, hbw⟩
    ·have v4 : (0 : Int) < (k : Int) := by omega
     have hQ0 : Q ++ [59] = D := by rw [HQ.out, ← hD, if_neg hk0]
     subst hQ0
     clear hk0 hD
     have p1 := hown.alloc (.cells #[.int .u8 59] 5)
     have pr : Rd (wr.alloc (.cells #[.int .u8 59] 5)) (some ⟨wr.heap.size, 0, none⟩) (bs [59]) := Rd.block (heap_alloc_new wr _) rfl
     have ps : w1.heap.size ≤ (wr.alloc (.cells #[.int .u8 59] 5)).heap.size := by have := hbw.size; simp; omega
     have hbA := hbw.alloc hbw.size (.cells #[.int .u8 59] 5)
     have h63 : Q.length + 1 ≤ maxLen := by simp only [maxLen]; omega
     have hlim : (Q.length + 1) * 1 ≤ 140737488355328 := by omega
     go_wp2_with (at_builtin; refine list_app _ rfl (.tmp 23) (.tmp 24) 33 rfl w1.heap.size 5 i0 _ 1 1 Tryd.underlying33 hi hz0 hz1 hz2 rfl Nat.one_pos _ _ _ rfl p1 _ 1 1 (bs [59]) rfl rfl pr (bs_one [59]) h63 hlim ps ?_; intro v5 w5 o5 hg)
     go_meet
     case rel =>
      rw [← bs_append] at o5
      exact ⟨by simpa using o5, hbA.grown hg ps (fun g hg => (p1.lt g hg).1)⟩
   obtain ⟨o6, hb6⟩ := hcut
   have h63 : D.length + 4 ≤ maxLen := by have := HDL.out; simp only [maxLen]; omega
   have hlim : D.length + 4 ≤ 140737488355328 := by have := HDL.out; omega
   have hs6 := hb6.size
   clear hown hbw hB hQl hD
   go_wp2_with (at_builtin; refine list_app_str _ rfl (.tmp 26) (.const (.string ⟨#[52, 51, 54, 70]⟩)) 33 9 rfl w1.heap.size 5 i0 Tryd.underlying33 Tryd.underlying9 hi hz0 hz1 hz2 _ _ _ rfl o6 ⟨#[52, 51, 54, 70]⟩ rfl h63 hlim hs6 ?_; intro v7 w7 o7 hg7)
   rw [← bs_append] at o7
   exact ⟨⟨k + 1, D ++ [52, 51, 54, 70], by omega, by go_num, Lib.hid HSU.out.symm, by rw [List.length_append]; exact o7, hb6.grown hg7 hs6 (fun g hg => (o6.lt g hg).1)⟩, by simp [intOf] <;> omega⟩
  ·obtain rfl : k = N := by omega
   have v2 : ¬ ((k : Int) < (k : Int)) := by omega
   obtain ⟨T, hT⟩ : ∃ T, Q ++ (if odd = true then [59, 48, 48] else []) = T := ⟨_, rfl⟩
   obtain ⟨g, hg⟩ := repR_ans k (by omega) odd
   rw [← HQ.out, hT] at hg
   have hTl : T.length ≤ 1000000 := by rw [← hT]; split <;> simp <;> omega
   have HAN := Lib.hid (pAnswer20_any T hTl)
   rw [hg] at HAN
   have hE1 : odd = true ∨ 4096 < 12 * k - 1 → repR k odd = [] := fun h => by unfold repR; rw [if_pos h]
   have hE2 : odd = false → ¬ 4096 < 12 * k - 1 → (repR k odd).length = 12 * k - 1 := fun h1 h2 => by unfold repR; rw [if_neg (by rw [h1]; simp; omega)]; exact repR_len k (by omega)
   obtain ⟨E, hE⟩ : ∃ E, repR k odd = E := ⟨_, rfl⟩
   rw [hE] at HAN hE1 hE2
   have HE1 := Lib.hid hE1
   have HE2 := Lib.hid hE2
   have h63 : Q.length + 3 ≤ maxLen := by simp only [maxLen]; omega
   have hlim : Q.length + 3 ≤ 140737488355328 := by omega
   have hs6 := hbw.size
   have HB1 := Lib.hid hb1
   have HNR := Lib.hid hNr
   have m1 : IntKind.i64.wrap (12 * (k : Int)) = 12 * (k : Int) := by rw [IntKind.wrap_i64]; omega
   have m2 : IntKind.i64.wrap (12 * (k : Int) - 1) = 12 * (k : Int) - 1 := by rw [IntKind.wrap_i64]; omega
   clear hg hTl hE hE1 hE2 hlt hk hNr hb1 hB e1 e2 e3 e4
   go_upto_if 28 with fail
   go_cut [7] from 66 (fun v W' => Own W' w1.heap.size 5 1 v T.length (bs T) ∧ Below w1.heap.size w1 W')
   case first =>
    cases odd with
    | false =>
      obtain rfl : Q = T := by simpa using hT
      go_wp2_with fail
      go_meet
      case rel => exact ⟨hown, hbw⟩
    | true =>
      obtain rfl : Q ++ [59, 48, 48] = T := by simpa using hT
      go_wp2_with (at_builtin; refine list_app_str _ rfl (.tmp 29) (.const (.string ⟨#[59, 48, 48]⟩)) 33 9 rfl w1.heap.size 5 i0 Tryd.underlying33 Tryd.underlying9 hi hz0 hz1 hz2 _ _ _ rfl hown ⟨#[59, 48, 48]⟩ rfl h63 hlim hs6 ?_; intro v7 w7 o7 hg7)
      go_meet
      case rel =>
       rw [← bs_append] at o7
       exact ⟨by rw [List.length_append]; exact o7, hbw.grown hg7 hs6 (fun g hg => (hown.lt g hg).1)⟩
   obtain ⟨o6, hb6⟩ := hcut
   obtain ⟨A6, c6, rfl, hr6⟩ := o6.form
   have hcv := conv20w (n := T.length) (c := c6) rfl hr6
   have hB6 := HB1.out.trans (hb6.mono HB1.out.size)
   clear h63 hlim hs6 hown hbw hT o6 hb6 hr6
   go_wp2_with fail
   refine (HAN.out _).mono ?_
   rintro e w7 ⟨A7, c7, rfl, hr7, hb7⟩
   have hB7 := hB6.trans (hb7.mono hB6.size)
   have hB8 := hB7.alloc hB7.size (.cells #[.int .i64 3, .int .u8 0, .slice A7 1 c7, .string ⟨#[43]⟩, .int .u8 114, .string ⟨E.toArray⟩] 28)
   have k8 := Blk.new w7 28 #[.int .i64 3, .int .u8 0, .slice A7 1 c7, .string ⟨#[43]⟩, .int .u8 114, .string ⟨E.toArray⟩]
   have u5 := k8.cell 5
   clear hB6 hb7 k8 hr7 hcv hB7
   unfold sqV
   simp only [List.length_cons, List.length_nil, Nat.reduceAdd]
   cases odd with
   | true =>
     obtain rfl : E = [] := HE1.out (.inl rfl)
     clear HE1 HE2
     go_wp2_with fail
     refine (pNames20_any _).mono ?_
     rintro e w9 ⟨A9, c9, rfl, _, hb9⟩
     have hB9 := hB8.trans (hb9.mono hB8.size)
     go_wp2_with fail
     go_ret
     exact ⟨rfl, hB9⟩
   | false =>
     by_cases hbig : 4096 < 12 * k - 1
     ·obtain rfl : E = [] := HE1.out (.inr hbig)
      have v4 : (4096 : Int) < 12 * (k : Int) - 1 := by omega
      clear HE1 HE2 hbig
      go_wp2_with fail
      refine (pNames20_any _).mono ?_
      rintro e w9 ⟨A9, c9, rfl, _, hb9⟩
      have hB9 := hB8.trans (hb9.mono hB8.size)
      go_wp2_with fail
      go_ret
      exact ⟨rfl, hB9⟩
     ·have hEl := HE2.out rfl hbig
      have v4 : ¬ ((4096 : Int) < 12 * (k : Int) - 1) := by omega
      have v5 : ((E.length : Int) == 12 * (k : Int) - 1) = true := by have := HNR.out; simp; omega
      have v6 : E.isEmpty = false := by cases E with
       | nil => have := HNR.out; simp at hEl; omega
       | cons => rfl
      clear HE1 HE2 hbig hEl
      go_wp2_with fail
      refine (pNames20_any _).mono ?_
      rintro e w9 ⟨A9, c9, rfl, _, hb9⟩
      have hB9 := hB8.trans (hb9.mono hB8.size)
      go_wp2_with fail
      go_ret
      exact ⟨rfl, hB9⟩
end Go.Proofs.YtkkjahhilcjpgaaDoor
