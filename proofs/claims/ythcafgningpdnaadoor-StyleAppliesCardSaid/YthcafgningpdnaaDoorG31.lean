/-
  Stage 18, the document's style, walked: parted, of three parts and of none.
-/
import Derived.Test.YthcafgningpdnaaDoorG30
namespace Go.Proofs.YthcafgningpdnaaDoor
open Go.RowKit
set_option maxRecDepth 100000 in
set_option maxHeartbeats 8000000 in
theorem rparted3 (A : Option Addr) (p : List Int) (k c : Nat) (hk : p.length = k) (w : World) (hr : Rd w A (is_ p)) (h3 : k = 3) : Calls Tryd.prog 54 #[.slice A k c] w fun e w' => e = .returned (.int .i64 (partedY p)) ∧ Below w.heap.size w w' := by
 subst h3
 obtain ⟨x, a, n, rfl⟩ : ∃ x a n, p = [x, a, n] := by
  match p, hk with
  | [x, a, n], _ => exact ⟨x, a, n, rfl⟩
 obtain ⟨b, o, rfl, hb, hc⟩ := hr.int_at (by simp)
 have HC : Hid (∀ W, Below w.heap.size w W → W.cell? ⟨b, o, none⟩ = some (.int .i64 x) ∧ W.cell? ⟨b, o + 1, none⟩ = some (.int .i64 a) ∧ W.cell? ⟨b, o + 2, none⟩ = some (.int .i64 n)) := Lib.hid fun W hW => ⟨(hW.cell (p := ⟨b, o, none⟩) hb).trans (hc 0 (by simp)), (hW.cell (p := ⟨b, o + 1, none⟩) hb).trans (hc 1 (by simp)), (hW.cell (p := ⟨b, o + 2, none⟩) hb).trans (hc 2 (by simp))⟩
 obtain ⟨q1, h1⟩ : ∃ q, byteY n = q := ⟨_, rfl⟩
 have hl : partedY [x, a, n] = if a = 5 ∧ q1 = true then n else -2 := by rw [← h1]; rfl
 have HL := Lib.hid hl
 have H1 := Lib.hid h1
 have hB0 := Below.refl w.heap.size w
 clear hc hk h1 hl hr
 obtain ⟨c0, c1, c2⟩ := HC.out _ hB0
 by_cases h5 : a = 5
 ·subst h5
  cases q1 with
  | true =>
    have HL := Lib.hid (HL.out.trans (if_pos (by simp)))
    go_enter Tryd.func54, Tryd.ntmps54
    go_wp2_with fail
    refine (rwithin_any n _ H1.out _).mono ?_
    rintro e w1 ⟨rfl, hb1⟩
    have hB1 := hB0.trans (hb1.mono hB0.size)
    clear hb1 c0 c1 c2
    obtain ⟨c0, c1, c2⟩ := HC.out _ hB1
    go_wp2_with fail
    go_ret
    exact ⟨ret_i HL.out.symm, hB1⟩
  | false =>
    have HL := Lib.hid (HL.out.trans (if_neg (by simp)))
    go_enter Tryd.func54, Tryd.ntmps54
    go_wp2_with fail
    refine (rwithin_any n _ H1.out _).mono ?_
    rintro e w1 ⟨rfl, hb1⟩
    have hB1 := hB0.trans (hb1.mono hB0.size)
    clear hb1 c0 c1 c2
    obtain ⟨c0, c1, c2⟩ := HC.out _ hB1
    go_wp2_with fail
    go_ret
    exact ⟨ret_i HL.out.symm, hB1⟩
 ·have HL := Lib.hid (show partedY [x, a, n] = -2 by rw [HL.out, if_neg (fun h => h5 h.1)])
  go_enter Tryd.func54, Tryd.ntmps54
  go_wp2_with fail
  go_ret
  exact ⟨ret_i HL.out.symm, Below.refl _ _⟩
theorem parted_len (p : List Int) (h3 : p.length ≠ 3) (h6 : p.length ≠ 6) : partedY p = -2 := by
 unfold partedY
 split
 ·simp at h3
 ·simp at h6
 ·rfl
set_option maxRecDepth 100000 in
set_option maxHeartbeats 8000000 in
theorem rpartedo (A : Option Addr) (p : List Int) (k c : Nat) (hk : p.length = k) (w : World) (_hr : Rd w A (is_ p)) (h3 : k ≠ 3) (h6 : k ≠ 6) : Calls Tryd.prog 54 #[.slice A k c] w fun e w' => e = .returned (.int .i64 (partedY p)) ∧ Below w.heap.size w w' := by
 have HL := Lib.hid (parted_len p (by omega) (by omega))
 have g3 : ¬ ((k : Int) = 3) := by omega
 have g6 : ¬ ((k : Int) = 6) := by omega
 clear hk h3 h6
 go_enter Tryd.func54, Tryd.ntmps54
 go_wp2_with fail
 go_ret
 exact ⟨ret_i HL.out.symm, Below.refl _ _⟩
end Go.Proofs.YthcafgningpdnaaDoor
