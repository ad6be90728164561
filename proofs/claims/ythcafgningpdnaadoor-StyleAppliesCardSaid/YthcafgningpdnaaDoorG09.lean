/-
  Stage 18, the landed style, walked: anyOf, colourOf.
-/
import Derived.Test.YthcafgningpdnaaDoorG08
import Derived.BigQuiet
namespace Go.Proofs.YthcafgningpdnaaDoor
open Go.RowKit
theorem any_len (f : List Int) (t : Int) (h2 : f.length ≠ 2) (h5 : f.length ≠ 5) : anyL f t = t := by
 unfold anyL
 split
 ·simp at h2
 ·simp at h5
 ·rfl
set_option maxRecDepth 100000 in
set_option maxHeartbeats 8000000 in
theorem sany2 (A : Option Addr) (f : List Int) (k c : Nat) (hk : f.length = k) (t : Int) (w : World) (hr : Rd w A (is_ f)) (h2 : k = 2) : Calls Tryd.prog 53 #[.slice A k c, .int .i64 t] w fun e w' => e = .returned (.int .i64 (anyL f t)) ∧ Below w.heap.size w w' := by
 ·subst h2
  obtain ⟨a, n, rfl⟩ : ∃ a n, f = [a, n] := by
   match f, hk with
   | [a, n], _ => exact ⟨a, n, rfl⟩
  obtain ⟨b, o, rfl, hb, hc⟩ := hr.int_at (by simp)
  have HC : Hid (∀ W, Below w.heap.size w W → W.cell? ⟨b, o, none⟩ = some (.int .i64 a) ∧ W.cell? ⟨b, o + 1, none⟩ = some (.int .i64 n)) := Lib.hid fun W hW => ⟨(hW.cell (p := ⟨b, o, none⟩) hb).trans (hc 0 (by simp)), (hW.cell (p := ⟨b, o + 1, none⟩) hb).trans (hc 1 (by simp))⟩
  obtain ⟨q1, h1⟩ : ∃ q, byteY n = q := ⟨_, rfl⟩
  have hl : anyL [a, n] t = if a = 5 ∧ q1 = true then n else t := by rw [← h1]; rfl
  have HL := Lib.hid hl
  have H1 := Lib.hid h1
  have hB0 := Below.refl w.heap.size w
  clear hc hk h1 hl hr
  obtain ⟨c0, c1⟩ := HC.out _ hB0
  by_cases h5 : a = 5
  ·subst h5
   cases q1 with
   | true =>
     have HL := Lib.hid (HL.out.trans (if_pos (by simp)))
     go_enter Tryd.func53, Tryd.ntmps53
     go_wp2_with fail
     refine (sisByte_any n _ H1.out _).mono ?_
     rintro e w1 ⟨rfl, hb1⟩
     have hB1 := hB0.trans (hb1.mono hB0.size)
     clear hb1 c0 c1
     obtain ⟨c0, c1⟩ := HC.out _ hB1
     go_wp2_with fail
     go_ret
     exact ⟨ret_i HL.out.symm, hB1⟩
   | false =>
     have HL := Lib.hid (HL.out.trans (if_neg (by simp)))
     go_enter Tryd.func53, Tryd.ntmps53
     go_wp2_with fail
     refine (sisByte_any n _ H1.out _).mono ?_
     rintro e w1 ⟨rfl, hb1⟩
     have hB1 := hB0.trans (hb1.mono hB0.size)
     clear hb1 c0 c1
     obtain ⟨c0, c1⟩ := HC.out _ hB1
     go_wp2_with fail
     go_ret
     exact ⟨ret_i HL.out.symm, hB1⟩
  ·have HL := Lib.hid (show anyL [a, n] t = t by rw [HL.out, if_neg (fun h => h5 h.1)])
   go_enter Tryd.func53, Tryd.ntmps53
   go_wp2_with fail
   go_ret
   exact ⟨ret_i HL.out.symm, Below.refl _ _⟩
set_option maxRecDepth 100000 in
set_option maxHeartbeats 8000000 in
theorem sanyo (A : Option Addr) (f : List Int) (k c : Nat) (hk : f.length = k) (t : Int) (w : World) (_hr : Rd w A (is_ f)) (h2 : k ≠ 2) (h3 : k ≠ 5) : Calls Tryd.prog 53 #[.slice A k c, .int .i64 t] w fun e w' => e = .returned (.int .i64 (anyL f t)) ∧ Below w.heap.size w w' := by
 have HL := Lib.hid (any_len f t (by omega) (by omega))
 have g2 : ¬ ((k : Int) = 2) := by omega
 have g5 : ¬ ((k : Int) = 5) := by omega
 clear hk h2 h3
 go_enter Tryd.func53, Tryd.ntmps53
 go_wp2_with fail
 go_ret
 exact ⟨ret_i HL.out.symm, Below.refl _ _⟩
end Go.Proofs.YthcafgningpdnaaDoor
