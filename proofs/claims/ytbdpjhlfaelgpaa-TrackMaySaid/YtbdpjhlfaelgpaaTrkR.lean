/-
  Layer 15, walked: the document's button, May, wanted and Tell.
-/
import Derived.Test.YtbdpjhlfaelgpaaTrkV
namespace Go.Proofs.Ytbdpjhlfaelgpaa
open Go.RowKit

set_option maxRecDepth 100000 in
set_option maxHeartbeats 4000000 in
theorem rheld_any (n : Int) (w : World) : Calls Try.prog 18 #[.int .i64 n] w fun e w' => e = .returned (.bool (heldT n)) ∧ Below w.heap.size w w' := by
  obtain ⟨R, hR⟩ : ∃ R, heldT n = R := ⟨_, rfl⟩
  rw [hR]
  have HC := Lib.hid hR
  clear hR
  by_cases a : 1 ≤ n
  · by_cases b : n ≤ 3
    · have HF := Lib.hid (show true = R by rw [← HC.out]; unfold heldT; rw [decide_eq_true ⟨a, b⟩]; rfl)
      clear HC
      go_enter Try.func18, Try.ntmps18
      go_wp2_with fail
      go_ret
      exact ⟨ret_bl HF.out, Below.refl _ _⟩
    · by_cases c : 8 ≤ n
      · by_cases d : n ≤ 11
        · have HF := Lib.hid (show true = R by rw [← HC.out]; unfold heldT; rw [decide_eq_true (show 8 ≤ n ∧ n ≤ 11 from ⟨c, d⟩), Bool.or_true])
          clear HC
          go_enter Try.func18, Try.ntmps18
          go_wp2_with fail
          go_ret
          exact ⟨ret_bl HF.out, Below.refl _ _⟩
        · have HF := Lib.hid (show false = R by rw [← HC.out]; unfold heldT; rw [decide_eq_false (by omega), decide_eq_false (by omega)]; rfl)
          clear HC
          go_enter Try.func18, Try.ntmps18
          go_wp2_with fail
          go_ret
          exact ⟨ret_bl HF.out, Below.refl _ _⟩
      · have HF := Lib.hid (show false = R by rw [← HC.out]; unfold heldT; rw [decide_eq_false (by omega), decide_eq_false (by omega)]; rfl)
        clear HC
        go_enter Try.func18, Try.ntmps18
        go_wp2_with fail
        go_ret
        exact ⟨ret_bl HF.out, Below.refl _ _⟩
  · have c : ¬ 8 ≤ n := by omega
    have HF := Lib.hid (show false = R by rw [← HC.out]; unfold heldT; rw [decide_eq_false (by omega), decide_eq_false (by omega)]; rfl)
    clear HC
    go_enter Try.func18, Try.ntmps18
    go_wp2_with fail
    go_ret
    exact ⟨ret_bl HF.out, Below.refl _ _⟩
set_option maxRecDepth 100000 in
set_option maxHeartbeats 4000000 in
theorem rmay15_any (e : Ms) (w : World) : Calls Try.prog 13 #[msV e] w fun x w' => x = .returned (.bool (mayT e)) ∧ Below w.heap.size w w' := by
  obtain ⟨R, hR⟩ : ∃ R, mayT e = R := ⟨_, rfl⟩
  rw [hR]
  have HC := Lib.hid (show R = mayT e from hR.symm)
  clear hR
  obtain ⟨btn, typ, x, y, md⟩ := e
  have HC := Lib.hid (HC.out.trans (show mayT ⟨btn, typ, x, y, md⟩ = if x < 1 ∨ 65535 < x ∨ y < 1 ∨ 65535 < y ∨ md < 0 ∨ 255 < md then false else if typ = 1 then decide (1 ≤ btn ∧ btn ≤ 11) else if typ = 3 then heldT btn else decide (typ = 4) && (decide (btn = 0) || heldT btn) from rfl))
  have HH : Hid (∀ W, Calls Try.prog 18 #[.int .i64 btn] W fun e w' => e = .returned (.bool (heldT btn)) ∧ Below W.heap.size W w') := Lib.hid fun W => rheld_any btn W
  obtain ⟨q, hq⟩ : ∃ q, heldT btn = q := ⟨_, rfl⟩
  rw [hq] at HC HH
  clear hq
  rw [msV]
  have hB := (Below.refl w.heap.size w).alloc (Nat.le_refl _) (.cells #[.int .i64 btn, .int .i64 typ, .int .i64 x, .int .i64 y, .int .i64 md] 25)
  have k0 := Blk.new w 25 #[.int .i64 btn, .int .i64 typ, .int .i64 x, .int .i64 y, .int .i64 md]
  obtain ⟨a0, a1, a2, a3, a4⟩ := Blk.cells5 k0
  simp only
  by_cases h0 : x < 1
  · have HE := Lib.hid (show R = false from HC.out.trans (if_pos (.inl h0)))
    clear HC
    go_enter Try.func13, Try.ntmps13
    go_wp2_with fail
    go_ret
    exact ⟨ret_bl HE.out.symm, hB⟩
  by_cases h1 : 65535 < x
  · have HE := Lib.hid (show R = false from HC.out.trans (if_pos (.inr (.inl h1))))
    clear HC
    go_enter Try.func13, Try.ntmps13
    go_wp2_with fail
    go_ret
    exact ⟨ret_bl HE.out.symm, hB⟩
  by_cases h2 : y < 1
  · have HE := Lib.hid (show R = false from HC.out.trans (if_pos (.inr (.inr (.inl h2)))))
    clear HC
    go_enter Try.func13, Try.ntmps13
    go_wp2_with fail
    go_ret
    exact ⟨ret_bl HE.out.symm, hB⟩
  by_cases h3 : 65535 < y
  · have HE := Lib.hid (show R = false from HC.out.trans (if_pos (.inr (.inr (.inr (.inl h3))))))
    clear HC
    go_enter Try.func13, Try.ntmps13
    go_wp2_with fail
    go_ret
    exact ⟨ret_bl HE.out.symm, hB⟩
  by_cases h4 : md < 0
  · have HE := Lib.hid (show R = false from HC.out.trans (if_pos (.inr (.inr (.inr (.inr (.inl h4)))))))
    clear HC
    go_enter Try.func13, Try.ntmps13
    go_wp2_with fail
    go_ret
    exact ⟨ret_bl HE.out.symm, hB⟩
  by_cases h5 : 255 < md
  · have HE := Lib.hid (show R = false from HC.out.trans (if_pos (.inr (.inr (.inr (.inr (.inr (h5))))))))
    clear HC
    go_enter Try.func13, Try.ntmps13
    go_wp2_with fail
    go_ret
    exact ⟨ret_bl HE.out.symm, hB⟩
  have HC := Lib.hid (HC.out.trans (if_neg (by omega)))
  by_cases t1 : typ = 1
  · subst t1
    have HC := Lib.hid (HC.out.trans (if_pos rfl))
    by_cases b1 : 1 ≤ btn
    · by_cases b2 : btn ≤ 11
      · have HE := Lib.hid (HC.out.trans (decide_eq_true ⟨b1, b2⟩))
        clear HC
        go_enter Try.func13, Try.ntmps13
        go_wp2_with fail
        go_ret
        exact ⟨ret_bl HE.out.symm, hB⟩
      · have HE := Lib.hid (HC.out.trans (decide_eq_false (fun h => b2 h.2)))
        clear HC
        go_enter Try.func13, Try.ntmps13
        go_wp2_with fail
        go_ret
        exact ⟨ret_bl HE.out.symm, hB⟩
    · have HE := Lib.hid (HC.out.trans (decide_eq_false (fun h => b1 h.1)))
      clear HC
      go_enter Try.func13, Try.ntmps13
      go_wp2_with fail
      go_ret
      exact ⟨ret_bl HE.out.symm, hB⟩
  · have HC := Lib.hid (HC.out.trans (if_neg t1))
    have u1 : (typ == 1) = false := beq_false_of_ne t1
    clear t1
    by_cases t3 : typ = 3
    · subst t3
      have HE := Lib.hid (HC.out.trans (if_pos rfl))
      clear HC
      go_enter Try.func13, Try.ntmps13
      go_wp2_with fail
      refine (HH.out _).mono ?_
      rintro z w1 ⟨rfl, hb1⟩
      go_wp2_with fail
      go_ret
      exact ⟨ret_bl HE.out.symm, hB.trans (hb1.mono hB.size)⟩
    · have HC := Lib.hid (HC.out.trans (if_neg t3))
      have u3 : (typ == 3) = false := beq_false_of_ne t3
      clear t3
      by_cases t4 : typ = 4
      · subst t4
        have HC := Lib.hid (HC.out.trans (by rw [decide_eq_true rfl, Bool.true_and]))
        by_cases b0 : btn = 0
        · subst b0
          have HE := Lib.hid (HC.out.trans (by rw [decide_eq_true rfl, Bool.true_or]))
          clear HC
          go_enter Try.func13, Try.ntmps13
          go_wp2_with fail
          go_ret
          exact ⟨ret_bl HE.out.symm, hB⟩
        · have v0 : (btn == 0) = false := beq_false_of_ne b0
          have HE := Lib.hid (HC.out.trans (by rw [decide_eq_false b0, Bool.false_or]))
          clear HC b0
          go_enter Try.func13, Try.ntmps13
          go_wp2_with fail
          refine (HH.out _).mono ?_
          rintro z w1 ⟨rfl, hb1⟩
          go_wp2_with fail
          go_ret
          exact ⟨ret_bl HE.out.symm, hB.trans (hb1.mono hB.size)⟩
      · have HE := Lib.hid (HC.out.trans (by rw [decide_eq_false t4, Bool.false_and]))
        have u4 : (typ == 4) = false := beq_false_of_ne t4
        clear HC t4
        go_enter Try.func13, Try.ntmps13
        go_wp2_with fail
        go_ret
        exact ⟨ret_bl HE.out.symm, hB⟩
end Go.Proofs.Ytbdpjhlfaelgpaa
