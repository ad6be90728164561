/-
  Stage 18, the document's style, walked: parted, of six parts.
-/
import Derived.Test.YthcafgningpdnaaDoorG30
import Derived.BigQuiet
namespace Go.Proofs.YthcafgningpdnaaDoor
open Go.RowKit
set_option maxRecDepth 100000 in
set_option maxHeartbeats 8000000 in
theorem rparted6 (A : Option Addr) (p : List Int) (k c : Nat) (hk : p.length = k) (w : World) (hr : Rd w A (is_ p)) (h6 : k = 6) : Calls Tryd.prog 54 #[.slice A k c] w fun e w' => e = .returned (.int .i64 (partedY p)) ∧ Below w.heap.size w w' := by
 subst h6
 obtain ⟨x, a, x2, r, g, u, rfl⟩ : ∃ x a x2 r g u, p = [x, a, x2, r, g, u] := by
  match p, hk with
  | [x, a, x2, r, g, u], _ => exact ⟨x, a, x2, r, g, u, rfl⟩
 obtain ⟨b, o, rfl, hb, hc⟩ := hr.int_at (by simp)
 have HC : Hid (∀ W, Below w.heap.size w W → W.cell? ⟨b, o, none⟩ = some (.int .i64 x) ∧ W.cell? ⟨b, o + 1, none⟩ = some (.int .i64 a) ∧ W.cell? ⟨b, o + 2, none⟩ = some (.int .i64 x2) ∧ W.cell? ⟨b, o + 3, none⟩ = some (.int .i64 r) ∧ W.cell? ⟨b, o + 4, none⟩ = some (.int .i64 g) ∧ W.cell? ⟨b, o + 5, none⟩ = some (.int .i64 u)) := Lib.hid fun W hW => ⟨(hW.cell (p := ⟨b, o, none⟩) hb).trans (hc 0 (by simp)), (hW.cell (p := ⟨b, o + 1, none⟩) hb).trans (hc 1 (by simp)), (hW.cell (p := ⟨b, o + 2, none⟩) hb).trans (hc 2 (by simp)), (hW.cell (p := ⟨b, o + 3, none⟩) hb).trans (hc 3 (by simp)), (hW.cell (p := ⟨b, o + 4, none⟩) hb).trans (hc 4 (by simp)), (hW.cell (p := ⟨b, o + 5, none⟩) hb).trans (hc 5 (by simp))⟩
 obtain ⟨q1, h1⟩ : ∃ q, byteY r = q := ⟨_, rfl⟩
 obtain ⟨q2, h2'⟩ : ∃ q, byteY g = q := ⟨_, rfl⟩
 obtain ⟨q3, h3'⟩ : ∃ q, byteY u = q := ⟨_, rfl⟩
 have hl : partedY [x, a, x2, r, g, u] = if a = 2 ∧ q1 = true ∧ q2 = true ∧ q3 = true then 256 + 65536 * r + 256 * g + u else -2 := by rw [← h1, ← h2', ← h3']; rfl
 have HL := Lib.hid hl
 have H1 := Lib.hid h1
 have H2 := Lib.hid h2'
 have H3 := Lib.hid h3'
 have hB0 := Below.refl w.heap.size w
 clear hc hk h1 h2' h3' hl hr
 obtain ⟨c0, c1, c2, c3, c4, c5⟩ := HC.out _ hB0
 by_cases h5 : a = 2
 ·subst h5
  cases q1 with
  | false =>
    have HL := Lib.hid (HL.out.trans (if_neg (by simp)))
    go_enter Tryd.func54, Tryd.ntmps54
    go_wp2_with fail
    refine (rwithin_any r _ H1.out _).mono ?_
    rintro e w1 ⟨rfl, hb1⟩
    have hB1 := hB0.trans (hb1.mono hB0.size)
    clear hb1 c0 c1 c2 c3 c4 c5
    obtain ⟨c0, c1, c2, c3, c4, c5⟩ := HC.out _ hB1
    go_wp2_with fail
    go_ret
    exact ⟨ret_i HL.out.symm, hB1⟩
  | true =>
    cases q2 with
    | false =>
      have HL := Lib.hid (HL.out.trans (if_neg (by simp)))
      go_enter Tryd.func54, Tryd.ntmps54
      go_wp2_with fail
      refine (rwithin_any r _ H1.out _).mono ?_
      rintro e w1 ⟨rfl, hb1⟩
      have hB1 := hB0.trans (hb1.mono hB0.size)
      clear hb1 c0 c1 c2 c3 c4 c5
      obtain ⟨c0, c1, c2, c3, c4, c5⟩ := HC.out _ hB1
      go_wp2_with fail
      refine (rwithin_any g _ H2.out _).mono ?_
      rintro e w2 ⟨rfl, hb2⟩
      have hB2 := hB1.trans (hb2.mono hB1.size)
      clear hb2 c0 c1 c2 c3 c4 c5
      obtain ⟨c0, c1, c2, c3, c4, c5⟩ := HC.out _ hB2
      go_wp2_with fail
      go_ret
      exact ⟨ret_i HL.out.symm, hB2⟩
    | true =>
      cases q3 with
      | false =>
        have HL := Lib.hid (HL.out.trans (if_neg (by simp)))
        go_enter Tryd.func54, Tryd.ntmps54
        go_wp2_with fail
        refine (rwithin_any r _ H1.out _).mono ?_
        rintro e w1 ⟨rfl, hb1⟩
        have hB1 := hB0.trans (hb1.mono hB0.size)
        clear hb1 c0 c1 c2 c3 c4 c5
        obtain ⟨c0, c1, c2, c3, c4, c5⟩ := HC.out _ hB1
        go_wp2_with fail
        refine (rwithin_any g _ H2.out _).mono ?_
        rintro e w2 ⟨rfl, hb2⟩
        have hB2 := hB1.trans (hb2.mono hB1.size)
        clear hb2 c0 c1 c2 c3 c4 c5
        obtain ⟨c0, c1, c2, c3, c4, c5⟩ := HC.out _ hB2
        go_wp2_with fail
        refine (rwithin_any u _ H3.out _).mono ?_
        rintro e w3 ⟨rfl, hb3⟩
        have hB3 := hB2.trans (hb3.mono hB2.size)
        clear hb3 c0 c1 c2 c3 c4 c5
        obtain ⟨c0, c1, c2, c3, c4, c5⟩ := HC.out _ hB3
        go_wp2_with fail
        go_ret
        exact ⟨ret_i HL.out.symm, hB3⟩
      | true =>
        have bd : ∀ n : Int, byteY n = true → 0 ≤ n ∧ n ≤ 255 := fun n h => by unfold byteY at h; simpa using h
        obtain ⟨r0, r1⟩ := bd r H1.out
        obtain ⟨g0, g1⟩ := bd g H2.out
        obtain ⟨u0, u1⟩ := bd u H3.out
        have e1 : IntKind.i64.wrap (65536 * r) = 65536 * r := by rw [IntKind.wrap_i64]; omega
        have e2 : IntKind.i64.wrap (256 + 65536 * r) = 256 + 65536 * r := by rw [IntKind.wrap_i64]; omega
        have e3 : IntKind.i64.wrap (256 * g) = 256 * g := by rw [IntKind.wrap_i64]; omega
        have e4 : IntKind.i64.wrap (256 + 65536 * r + 256 * g) = 256 + 65536 * r + 256 * g := by rw [IntKind.wrap_i64]; omega
        have e5 : IntKind.i64.wrap (256 + 65536 * r + 256 * g + u) = 256 + 65536 * r + 256 * g + u := by rw [IntKind.wrap_i64]; omega
        clear bd r0 r1 g0 g1 u0 u1
        have HL := Lib.hid (HL.out.trans (if_pos (by simp)))
        go_enter Tryd.func54, Tryd.ntmps54
        go_wp2_with fail
        refine (rwithin_any r _ H1.out _).mono ?_
        rintro e w1 ⟨rfl, hb1⟩
        have hB1 := hB0.trans (hb1.mono hB0.size)
        clear hb1 c0 c1 c2 c3 c4 c5
        obtain ⟨c0, c1, c2, c3, c4, c5⟩ := HC.out _ hB1
        go_wp2_with fail
        refine (rwithin_any g _ H2.out _).mono ?_
        rintro e w2 ⟨rfl, hb2⟩
        have hB2 := hB1.trans (hb2.mono hB1.size)
        clear hb2 c0 c1 c2 c3 c4 c5
        obtain ⟨c0, c1, c2, c3, c4, c5⟩ := HC.out _ hB2
        go_wp2_with fail
        refine (rwithin_any u _ H3.out _).mono ?_
        rintro e w3 ⟨rfl, hb3⟩
        have hB3 := hB2.trans (hb3.mono hB2.size)
        clear hb3 c0 c1 c2 c3 c4 c5
        obtain ⟨c0, c1, c2, c3, c4, c5⟩ := HC.out _ hB3
        go_wp2_with fail
        go_quiet (fail)
        go_wp2_with fail
        go_ret
        exact ⟨ret_i HL.out.symm, below_drewN hB3 _⟩
 ·have HL := Lib.hid (show partedY [x, a, x2, r, g, u] = -2 by rw [HL.out, if_neg (fun h => h5 h.1)])
  go_enter Tryd.func54, Tryd.ntmps54
  go_wp2_with fail
  go_ret
  exact ⟨ret_i HL.out.symm, Below.refl _ _⟩
end Go.Proofs.YthcafgningpdnaaDoor
