/-
  Stage 18: what calls tell, as a drawn region's facts; awake.
-/
import Derived.Test.YthcafgningpdnaaDoorG14
import Derived.Test.YthcafgningpdnaaDoorG15
import Derived.Test.YthcafgningpdnaaDoorG18
import Derived.Test.YthcafgningpdnaaDoorG21
import Derived.Test.YthcafgningpdnaaDoorG22
import Derived.Test.YthcafgningpdnaaDoorG26
namespace Go.Proofs.YthcafgningpdnaaDoor
open Go.RowKit
def FLs (ps : List (List Int)) (v : Value) (w : World) : Prop := ∃ A c, v = .slice A ps.length c ∧ LsIn w A ps
theorem par_in {s : Sy} : ∀ p ∈ parY s, ∀ m ∈ p, in18 m := fun p hp m hm => by
 by_cases h : mayY s = true
 ·obtain ⟨_, h2⟩ := pok_of (spar_ok h).1
  have := (h2 p hp).2 m hm
  exact ⟨by omega, by omega⟩
 ·rw [show parY s = [] from if_neg h] at hp
  cases hp
theorem par_lens (s : Sy) : (parY s).length ≤ 16 ∧ (∀ p ∈ parY s, p.length ≤ 4294967296 ∧ (partL p).length ≤ 140737488355328) ∧ (parL (parY s)).length ≤ 140737488355328 := by
 by_cases h : mayY s = true
 ·obtain ⟨h1, h2⟩ := pok_of (spar_ok h).1
  refine ⟨h1, fun p hp => ?_, ?_⟩
  ·obtain ⟨⟨h3, h4⟩, h5⟩ := h2 p hp
   have := rpart_len p h5
   exact ⟨by omega, by omega⟩
  ·have := parl_len (parY s) h2
   omega
 ·rw [show parY s = [] from if_neg h]
  exact ⟨by simp, fun p hp => (by cases hp), by decide⟩
theorem sParams_f (s : Sy) (hin : okSy s) (w : World) : Calls Tryd.prog 10 #[syV s] w fun e w' => ∃ v, e = .returned v ∧ FLs (parY s) v w' ∧ Below w.heap.size w w' := by
 refine (sParams_any s hin w).mono ?_
 rintro e w' ⟨v, n, rfl, h, hb⟩
 have hl := h.len
 obtain ⟨A, c, rfl, _, hls⟩ := h.ls par_in
 exact ⟨_, rfl, ⟨A, c, by rw [hl], hls⟩, hb⟩
theorem sText_par (s : Sy) (A : Option Addr) (c : Nat) (w : World) (ht : Tab w) (hl : LsIn w A (parY s)) : Calls Tryd.prog 15 #[.slice A (parY s).length c] w fun e w' => e = .returned (.string ⟨(parL (parY s)).toArray⟩) ∧ Below w.heap.size w w' := by
 obtain ⟨h1, h2, h3⟩ := par_lens s
 exact sText_any A (parY s) _ c rfl (by omega) h2 h3 w ht hl
set_option maxRecDepth 100000 in
set_option maxHeartbeats 16000000 in
theorem styAwake (w : World) (ht : Tab w) : Calls Tryd.prog 9 #[] w fun e w' => e = .returned (.bool true) ∧ Below w.heap.size w w' := by
 have hpar : parY ⟨true, false, false, false, false, false, false, 0, 1, -1⟩ = [[0], [1], [31]] := by decide
 have hpl : parL [[0], [1], [31]] = [48, 59, 49, 59, 51, 49] := by decide +kernel
 have HTX : Hid (∀ (W : World) (A : Option Addr) (c : Nat), Below w.heap.size w W → LsIn W A [[0], [1], [31]] → Calls Tryd.prog 15 #[.slice A 3 c] W fun e w' => e = .returned (.string ⟨#[48, 59, 49, 59, 51, 49]⟩) ∧ Below W.heap.size W w') := Lib.hid fun W A c hW hl => by
  rw [← hpar] at hl
  have h := sText_par _ A c W (ht.below hW) hl
  rw [hpar, hpl] at h
  exact h
 have HAP : Hid (∀ (W : World) (A : Option Addr) (c : Nat), LsIn W A [[0], [1], [31]] → Calls Tryd.prog 18 #[.agg #[.bool false, .bool false, .bool false, .bool false, .bool false, .bool false, .bool true, .int .i64 0, .int .i64 0, .int .i64 0], .slice A 3 c] W fun e w' => e = .returned (.agg #[.bool true, .bool false, .bool false, .bool false, .bool false, .bool false, .bool false, .int .i64 0, .int .i64 1, .int .i64 (-1)]) ∧ Below W.heap.size W w') := Lib.hid fun W A c hl => sApply_any ⟨false, false, false, false, false, false, true, 0, 0, 0⟩ A [[0], [1], [31]] 3 c rfl (by decide) W hl
 have HM0 : Hid (∀ W, Calls Tryd.prog 12 #[.agg #[.bool true, .bool false, .bool false, .bool false, .bool false, .bool false, .bool false, .int .i64 0, .int .i64 1, .int .i64 (-1)]] W fun e w' => e = .returned (.bool true) ∧ Below W.heap.size W w') := Lib.hid fun W => smay_any ⟨true, false, false, false, false, false, false, 0, 1, -1⟩ true (by decide) W
 have HM6 : Hid (∀ W, Calls Tryd.prog 12 #[.agg #[.bool false, .bool false, .bool false, .bool false, .bool false, .bool false, .bool false, .int .i64 6, .int .i64 0, .int .i64 0]] W fun e w' => e = .returned (.bool false) ∧ Below W.heap.size W w') := Lib.hid fun W => smay_any ⟨false, false, false, false, false, false, false, 6, 0, 0⟩ false (by decide) W
 have HPR : Hid (∀ W, Calls Tryd.prog 10 #[.agg #[.bool true, .bool false, .bool false, .bool false, .bool false, .bool false, .bool false, .int .i64 0, .int .i64 1, .int .i64 (-1)]] W fun e w' => ∃ A c, e = .returned (.slice A 3 c) ∧ LsIn w' A [[0], [1], [31]] ∧ Below W.heap.size W w') := Lib.hid fun W => by
  refine (sParams_f ⟨true, false, false, false, false, false, false, 0, 1, -1⟩ ⟨⟨by decide, by decide⟩, ⟨by decide, by decide⟩, ⟨by decide, by decide⟩⟩ W).mono ?_
  rintro e w' ⟨v, rfl, ⟨A, c, rfl, hl⟩, hb⟩
  rw [hpar] at hl ⊢
  exact ⟨A, c, rfl, hl, hb⟩
 clear hpar hpl ht
 have k0 := Blk.new w 23 #[.bool true, .bool false, .bool false, .bool false, .bool false, .bool false, .bool false, .int .i64 0, .int .i64 1, .int .i64 (-1)]
 have hB0 : Below w.heap.size w (w.alloc (.cells #[.bool true, .bool false, .bool false, .bool false, .bool false, .bool false, .bool false, .int .i64 0, .int .i64 1, .int .i64 (-1)] 23)) := (Below.refl _ w).alloc (Nat.le_refl _) _
 obtain ⟨a0, a1, a2, a3, a4, a5, a6, a7, a8, a9⟩ := Blk.cells10y (s := ⟨true, false, false, false, false, false, false, 0, 1, -1⟩) k0
 go_enter Tryd.func9, Tryd.ntmps9
 go_wp2_with fail
 refine (HPR.out _).mono ?_
 rintro e w3 ⟨A3, c3, rfl, ls3, hb3⟩
 have hB3 := hB0.trans (hb3.mono hB0.size)
 have k3 := k0.below hb3 k0.lt
 clear a0 a1 a2 a3 a4 a5 a6 a7 a8 a9 k0 hB0 hb3
 have hst : ∀ f ∈ ([] : List Fact), f.ok := fun _ h => by cases h
 go_upto_region 3 with (fail)
 refine wp_region_told (w1 := w3) (K := []) (ix := 1000) (R0 := fun _ _ _ => True) (R1 := fun _ _ _ => True) [] (⟨#[.bool true, .pointer (some ⟨w.heap.size, 0, none⟩), .slice A3 3 c3, .agg #[.bool true, .bool false, .bool false, .bool false, .bool false, .bool false, .bool false, .int .i64 0, .int .i64 1, .int .i64 (-1)], .agg #[.bool true, .bool false, .bool false, .bool false, .bool false, .bool false, .bool false, .int .i64 0, .int .i64 1, .int .i64 (-1)], .slice A3 3 c3, .slice A3 3 c3, .string ⟨#[48, 59, 49, 59, 51, 49]⟩, .bool true, .bool true, .agg #[.bool false, .bool false, .bool false, .bool false, .bool false, .bool false, .bool true, .int .i64 0, .int .i64 0, .int .i64 0], .slice A3 3 c3, .agg #[.bool true, .bool false, .bool false, .bool false, .bool false, .bool false, .bool false, .int .i64 0, .int .i64 1, .int .i64 (-1)], .agg #[.bool true, .bool false, .bool false, .bool false, .bool false, .bool false, .bool false, .int .i64 0, .int .i64 1, .int .i64 (-1)], .bool true, .bool true, .bool true, .agg #[.bool true, .bool false, .bool false, .bool false, .bool false, .bool false, .bool false, .int .i64 0, .int .i64 1, .int .i64 (-1)], .bool true, .bool true, .bool true, .agg #[.bool false, .bool false, .bool false, .bool false, .bool false, .bool false, .bool false, .int .i64 6, .int .i64 0, .int .i64 0], .bool false, .bool true, .bool true], []⟩) (fun g => ⟨#[.bool true, .pointer (some ⟨w.heap.size, 0, none⟩), .slice A3 3 c3, .agg #[.bool true, .bool false, .bool false, .bool false, .bool false, .bool false, .bool false, .int .i64 0, .int .i64 1, .int .i64 (-1)], .agg #[.bool true, .bool false, .bool false, .bool false, .bool false, .bool false, .bool false, .int .i64 0, .int .i64 1, .int .i64 (-1)], .slice A3 3 c3, .slice A3 3 c3, .string ⟨#[48, 59, 49, 59, 51, 49]⟩, .bool true, .bool true, .agg #[.bool false, .bool false, .bool false, .bool false, .bool false, .bool false, .bool true, .int .i64 0, .int .i64 0, .int .i64 0], .slice A3 3 c3, .agg #[.bool true, .bool false, .bool false, .bool false, .bool false, .bool false, .bool false, .int .i64 0, .int .i64 1, .int .i64 (-1)], .agg #[.bool true, .bool false, .bool false, .bool false, .bool false, .bool false, .bool false, .int .i64 0, .int .i64 1, .int .i64 (-1)], .bool true, .bool true, .bool true, .agg #[.bool true, .bool false, .bool false, .bool false, .bool false, .bool false, .bool false, .int .i64 0, .int .i64 1, .int .i64 (-1)], .bool true, .bool true, .bool true, .agg #[.bool false, .bool false, .bool false, .bool false, .bool false, .bool false, .bool false, .int .i64 6, .int .i64 0, .int .i64 0], .bool false, .bool true, .bool true], []⟩) [.slice A3 3 c3, .string ⟨#[48, 59, 49, 59, 51, 49]⟩, .bool true, .bool true, .agg #[.bool false, .bool false, .bool false, .bool false, .bool false, .bool false, .bool true, .int .i64 0, .int .i64 0, .int .i64 0], .slice A3 3 c3, .agg #[.bool true, .bool false, .bool false, .bool false, .bool false, .bool false, .bool false, .int .i64 0, .int .i64 1, .int .i64 (-1)], .agg #[.bool true, .bool false, .bool false, .bool false, .bool false, .bool false, .bool false, .int .i64 0, .int .i64 1, .int .i64 (-1)], .bool true, .bool true, .bool true, .agg #[.bool true, .bool false, .bool false, .bool false, .bool false, .bool false, .bool false, .int .i64 0, .int .i64 1, .int .i64 (-1)], .bool true, .bool true, .bool true, .agg #[.bool false, .bool false, .bool false, .bool false, .bool false, .bool false, .bool false, .int .i64 6, .int .i64 0, .int .i64 0], .bool false, .bool true, .bool true, .bool true] (by kernel_rfl) (by kernel_rfl) (by kernel_rfl) (fun g => by kernel_rfl) (by kernel_rfl) (Below.refl _ _).drew (by decide) (by kernel_rfl)
  (goes_cons (gkP (fun _ => .slice A3 3 c3))
  (goes_cons (gkK (fun g => #[.slice A3 3 c3]) hst (fun g W hW hin => HTX.out W A3 c3 (hB3.trans (hW.mono hB3.size)) (ls3.below hW)))
  (goes_cons (goesK_bin (v := .bool true) (xv := .string ⟨#[48, 59, 49, 59, 51, 49]⟩) (yv := .string ⟨#[48, 59, 49, 59, 51, 49]⟩) rfl (by decide) (by decide) (by kernel_rfl) (fun g => by kernel_rfl) rfl (fun g => by kernel_rfl) rfl (fun g => by kernel_rfl) (fun g => by kernel_rfl) (fun w => by go_simp))
  (goes_cons (gkP (fun _ => .bool true))
  (goes_cons (gkP (fun _ => .agg #[.bool false, .bool false, .bool false, .bool false, .bool false, .bool false, .bool true, .int .i64 0, .int .i64 0, .int .i64 0]))
  (goes_cons (gkP (fun _ => .slice A3 3 c3))
  (goes_cons (gkK (fun g => #[.agg #[.bool false, .bool false, .bool false, .bool false, .bool false, .bool false, .bool true, .int .i64 0, .int .i64 0, .int .i64 0], .slice A3 3 c3]) hst (fun g W hW hin => HAP.out W A3 c3 (ls3.below hW)))
  (goes_cons (gkL hst (fun W hW => k3.below hW k3.lt) Tryd.underlying23)
  (goes_cons (goesK_bin (v := .bool true) (xv := .agg #[.bool true, .bool false, .bool false, .bool false, .bool false, .bool false, .bool false, .int .i64 0, .int .i64 1, .int .i64 (-1)]) (yv := .agg #[.bool true, .bool false, .bool false, .bool false, .bool false, .bool false, .bool false, .int .i64 0, .int .i64 1, .int .i64 (-1)]) rfl (by decide) (by decide) (by kernel_rfl) (fun g => by kernel_rfl) rfl (fun g => by kernel_rfl) rfl (fun g => by kernel_rfl) (fun g => by kernel_rfl) (fun w => by go_simp))
  (goes_cons (gkP (fun _ => .bool true))
  (goes_cons (gkP (fun _ => .bool true))
  (goes_cons (gkL hst (fun W hW => k3.below hW k3.lt) Tryd.underlying23)
  (goes_cons (gkK (fun g => #[.agg #[.bool true, .bool false, .bool false, .bool false, .bool false, .bool false, .bool false, .int .i64 0, .int .i64 1, .int .i64 (-1)]]) hst (fun g W hW hin => HM0.out W))
  (goes_cons (gkP (fun _ => .bool true))
  (goes_cons (gkP (fun _ => .bool true))
  (goes_cons (gkP (fun _ => .agg #[.bool false, .bool false, .bool false, .bool false, .bool false, .bool false, .bool false, .int .i64 6, .int .i64 0, .int .i64 0]))
  (goes_cons (gkK (fun g => #[.agg #[.bool false, .bool false, .bool false, .bool false, .bool false, .bool false, .bool false, .int .i64 6, .int .i64 0, .int .i64 0]]) hst (fun g W hW hin => HM6.out W))
  (goes_cons (gkP (fun _ => .bool true))
  (goes_cons (gkP (fun _ => .bool true))
  (goes_cons (gkP (fun _ => .bool true)) goes_nil)))))))))))))))))))) ?_
 intro g W hW _
 have hB9 := hB3.trans (hW.mono hB3.size)
 clear hst
 go_wp2_with fail
 go_ret
 exact ⟨rfl, hB9⟩
end Go.Proofs.YthcafgningpdnaaDoor
