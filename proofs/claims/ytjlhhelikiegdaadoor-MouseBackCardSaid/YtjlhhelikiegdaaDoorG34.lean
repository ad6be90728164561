/-
  Stage 16, the landed mouse, walked: Code. Layer 15, walked: the document's button, May, wanted and Tell.
-/
import Derived.Test.YtjlhhelikiegdaaDoorG14
import Derived.Test.YtjlhhelikiegdaaDoorG26
import Derived.Test.YtjlhhelikiegdaaDoorG33
namespace Go.Proofs.YtjlhhelikiegdaaDoor
open Go.RowKit
set_option maxRecDepth 100000 in
set_option maxHeartbeats 16000000 in
theorem mcode_any (mode btn typ x y mods C : Int) (hC : codeM mode ⟨btn, typ, x, y, mods⟩ = C) (w : World) : Calls Tryd.prog 11 #[.int .i64 mode, .agg #[.int .i64 btn, .int .i64 typ, .int .i64 x, .int .i64 y, .int .i64 mods]] w (NumE C w) := by
 obtain ⟨q, hq⟩ : ∃ q, mayT ⟨btn, typ, x, y, mods⟩ = q := ⟨_, rfl⟩
 obtain ⟨nb, hnb⟩ : ∃ n, numW btn = n := ⟨_, rfl⟩
 obtain ⟨mk, hmk⟩ : ∃ n, mkW mode typ mods = n := ⟨_, rfl⟩
 have hz : wh q (IntKind.i64.wrap (nb + mk)) = C := by
  rw [← hC]
  cases q with
  | false => rw [code_no hq]; rfl
  | true =>
    rw [← codeW_eq mode hq, ← hnb, ← hmk]
    show IntKind.i64.wrap (numW btn + mkW mode typ mods) = wrap64 (numW btn + mkW mode typ mods)
    simp only [IntKind.wrap_i64, wrap64]
 have HM : Hid (∀ W, Calls Tryd.prog 13 #[.agg #[.int .i64 btn, .int .i64 typ, .int .i64 x, .int .i64 y, .int .i64 mods]] W fun e w' => e = .returned (.bool q) ∧ Below W.heap.size W w') := Lib.hid fun W => by
  have := tmay_any ⟨btn, typ, x, y, mods⟩ W
  rw [hq] at this
  exact this
 have HN : Hid (∀ W, Calls Tryd.prog 21 #[.int .i64 btn] W (NumE nb W)) := Lib.hid fun W => mnumber_any btn nb hnb W
 have HK : Hid (∀ W, Calls Tryd.prog 22 #[.int .i64 mode, .agg #[.int .i64 btn, .int .i64 typ, .int .i64 x, .int .i64 y, .int .i64 mods]] W (NumE mk W)) := Lib.hid fun W => mmarks_any mode btn typ x y mods mk hmk W
 have HW : Hid (∀ W, Calls Tryd.prog 20 #[.bool q, .int .i64 (IntKind.i64.wrap (nb + mk))] W (NumE C W)) := Lib.hid fun W => mwhen_any q _ C hz W
 clear hz hq hnb hmk hC
 have k0 := Blk.new w 23 #[.int .i64 btn, .int .i64 typ, .int .i64 x, .int .i64 y, .int .i64 mods]
 have hB : Below w.heap.size w (w.alloc (.cells #[.int .i64 btn, .int .i64 typ, .int .i64 x, .int .i64 y, .int .i64 mods] 23)) := (Below.refl _ w).alloc (Nat.le_refl _) _
 obtain ⟨w1, hw1⟩ : ∃ W, w.alloc (.cells #[.int .i64 btn, .int .i64 typ, .int .i64 x, .int .i64 y, .int .i64 mods] 23) = W := ⟨_, rfl⟩
 rw [hw1] at k0 hB
 have le : ∀ W, Below w1.heap.size w1 W → Blk W w.heap.size 23 #[.int .i64 btn, .int .i64 typ, .int .i64 x, .int .i64 y, .int .i64 mods] := fun W hW => k0.below hW k0.lt
 have hst : ∀ f ∈ ([] : List Fact), f.ok := fun _ h => by cases h
 go_enter Tryd.func11, Tryd.ntmps11
 go_upto_region 1 with (fail)
 try rw [hw1]
 clear hw1
 refine wp_region_told (w1 := w1) (K := []) (ix := 1000) (R0 := fun _ _ _ => True) (R1 := fun _ _ _ => True) [] (⟨#[.int .i64 mode, .agg #[.int .i64 btn, .int .i64 typ, .int .i64 x, .int .i64 y, .int .i64 mods], undef, .pointer (some ⟨w.heap.size, 0, none⟩), .int .i64 C, .agg #[.int .i64 btn, .int .i64 typ, .int .i64 x, .int .i64 y, .int .i64 mods], .bool q, .pointer (some ⟨w.heap.size, 0, none⟩), .int .i64 btn, .int .i64 nb, .int .i64 mode, .agg #[.int .i64 btn, .int .i64 typ, .int .i64 x, .int .i64 y, .int .i64 mods], .int .i64 mk, .int .i64 (IntKind.i64.wrap (nb + mk)), .int .i64 C], []⟩) (fun g => ⟨#[.int .i64 mode, .agg #[.int .i64 btn, .int .i64 typ, .int .i64 x, .int .i64 y, .int .i64 mods], undef, .pointer (some ⟨w.heap.size, 0, none⟩), .int .i64 C, .agg #[.int .i64 btn, .int .i64 typ, .int .i64 x, .int .i64 y, .int .i64 mods], .bool q, .pointer (some ⟨w.heap.size, 0, none⟩), .int .i64 btn, .int .i64 nb, .int .i64 mode, .agg #[.int .i64 btn, .int .i64 typ, .int .i64 x, .int .i64 y, .int .i64 mods], .int .i64 mk, .int .i64 (IntKind.i64.wrap (nb + mk)), .int .i64 C], []⟩) [.agg #[.int .i64 btn, .int .i64 typ, .int .i64 x, .int .i64 y, .int .i64 mods], .bool q, .pointer (some ⟨w.heap.size, 0, none⟩), .int .i64 btn, .int .i64 nb, .int .i64 mode, .agg #[.int .i64 btn, .int .i64 typ, .int .i64 x, .int .i64 y, .int .i64 mods], .int .i64 mk, .int .i64 (IntKind.i64.wrap (nb + mk)), .int .i64 C, .int .i64 C] (by kernel_rfl) (by kernel_rfl) (by kernel_rfl) (fun g => by kernel_rfl) (by kernel_rfl) (Below.refl _ _).drew (by decide) (by kernel_rfl)
  (goes_cons (gkL hst (fun W hW => le W hW) Tryd.underlying23)
  (goes_cons (gkK (fun g => #[.agg #[.int .i64 btn, .int .i64 typ, .int .i64 x, .int .i64 y, .int .i64 mods]]) hst (fun g W hW hin => HM.out W))
  (goes_cons (gkP (fun _ => .pointer (some ⟨w.heap.size, 0, none⟩)))
  (goes_cons (gkC hst (fun W hW => (le W hW).cell 0))
  (goes_cons (gkK (fun g => #[.int .i64 btn]) hst (fun g W hW hin => HN.out W))
  (goes_cons (gkP (fun _ => .int .i64 mode))
  (goes_cons (gkL hst (fun W hW => le W hW) Tryd.underlying23)
  (goes_cons (gkK (fun g => #[.int .i64 mode, .agg #[.int .i64 btn, .int .i64 typ, .int .i64 x, .int .i64 y, .int .i64 mods]]) hst (fun g W hW hin => HK.out W))
  (goes_cons (gkP (fun _ => .int .i64 (IntKind.i64.wrap (nb + mk))))
  (goes_cons (gkK (fun g => #[.bool q, .int .i64 (IntKind.i64.wrap (nb + mk))]) hst (fun g W hW hin => HW.out W))
  (goes_cons (gkP (fun _ => .int .i64 C)) goes_nil))))))))))) ?_
 intro g W hW _
 have hB2 := hB.trans (hW.mono hB.size)
 clear le hst
 go_wp2_with fail
 go_ret
 exact ⟨rfl, hB2⟩
set_option maxRecDepth 100000 in
set_option maxHeartbeats 4000000 in
theorem rheld_any (n : Int) (w : World) : Calls Tryd.prog 12 #[.int .i64 n] w fun e w' => e = .returned (.bool (heldT n)) ∧ Below w.heap.size w w' := by
 obtain ⟨R, hR⟩ : ∃ R, heldT n = R := ⟨_, rfl⟩
 rw [hR]
 have HC := Lib.hid hR
 clear hR
 by_cases a : 1 ≤ n
 ·by_cases b : n ≤ 3
  ·have HF := Lib.hid (show true = R by rw [← HC.out]; unfold heldT; rw [decide_eq_true ⟨a, b⟩]; rfl)
   clear HC
   go_enter Tryd.func12, Tryd.ntmps12
   go_wp2_with fail
   go_ret
   exact ⟨ret_bl HF.out, Below.refl _ _⟩
  ·by_cases c : 8 ≤ n
   ·by_cases d : n ≤ 11
    ·have HF := Lib.hid (show true = R by rw [← HC.out]; unfold heldT; rw [decide_eq_true (show 8 ≤ n ∧ n ≤ 11 from ⟨c, d⟩), Bool.or_true])
     clear HC
     go_enter Tryd.func12, Tryd.ntmps12
     go_wp2_with fail
     go_ret
     exact ⟨ret_bl HF.out, Below.refl _ _⟩
    ·have HF := Lib.hid (show false = R by rw [← HC.out]; unfold heldT; rw [decide_eq_false (by omega), decide_eq_false (by omega)]; rfl)
     clear HC
     go_enter Tryd.func12, Tryd.ntmps12
     go_wp2_with fail
     go_ret
     exact ⟨ret_bl HF.out, Below.refl _ _⟩
   ·have HF := Lib.hid (show false = R by rw [← HC.out]; unfold heldT; rw [decide_eq_false (by omega), decide_eq_false (by omega)]; rfl)
    clear HC
    go_enter Tryd.func12, Tryd.ntmps12
    go_wp2_with fail
    go_ret
    exact ⟨ret_bl HF.out, Below.refl _ _⟩
 ·have c : ¬ 8 ≤ n := by omega
  have HF := Lib.hid (show false = R by rw [← HC.out]; unfold heldT; rw [decide_eq_false (by omega), decide_eq_false (by omega)]; rfl)
  clear HC
  go_enter Tryd.func12, Tryd.ntmps12
  go_wp2_with fail
  go_ret
  exact ⟨ret_bl HF.out, Below.refl _ _⟩
set_option maxRecDepth 100000 in
set_option maxHeartbeats 4000000 in
theorem rmay15_any (e : Ms) (w : World) : Calls Tryd.prog 8 #[msV e] w fun x w' => x = .returned (.bool (mayT e)) ∧ Below w.heap.size w w' := by
 obtain ⟨R, hR⟩ : ∃ R, mayT e = R := ⟨_, rfl⟩
 rw [hR]
 have HC := Lib.hid (show R = mayT e from hR.symm)
 clear hR
 obtain ⟨btn, typ, x, y, md⟩ := e
 have HC := Lib.hid (HC.out.trans (show mayT ⟨btn, typ, x, y, md⟩ = if x < 1 ∨ 65535 < x ∨ y < 1 ∨ 65535 < y ∨ md < 0 ∨ 255 < md then false else if typ = 1 then decide (1 ≤ btn ∧ btn ≤ 11) else if typ = 3 then heldT btn else decide (typ = 4) && (decide (btn = 0) || heldT btn) from rfl))
 have HH : Hid (∀ W, Calls Tryd.prog 12 #[.int .i64 btn] W fun e w' => e = .returned (.bool (heldT btn)) ∧ Below W.heap.size W w') := Lib.hid fun W => rheld_any btn W
 obtain ⟨q, hq⟩ : ∃ q, heldT btn = q := ⟨_, rfl⟩
 rw [hq] at HC HH
 clear hq
 rw [msV]
 have hB := (Below.refl w.heap.size w).alloc (Nat.le_refl _) (.cells #[.int .i64 btn, .int .i64 typ, .int .i64 x, .int .i64 y, .int .i64 md] 23)
 have k0 := Blk.new w 23 #[.int .i64 btn, .int .i64 typ, .int .i64 x, .int .i64 y, .int .i64 md]
 obtain ⟨a0, a1, a2, a3, a4⟩ := Blk.cells5 k0
 simp only
 by_cases h0 : x < 1
 ·have HE := Lib.hid (show R = false from HC.out.trans (if_pos (.inl h0)))
  clear HC
  go_enter Tryd.func8, Tryd.ntmps8
  go_wp2_with fail
  go_ret
  exact ⟨ret_bl HE.out.symm, hB⟩
 by_cases h1 : 65535 < x
 ·have HE := Lib.hid (show R = false from HC.out.trans (if_pos (.inr (.inl h1))))
  clear HC
  go_enter Tryd.func8, Tryd.ntmps8
  go_wp2_with fail
  go_ret
  exact ⟨ret_bl HE.out.symm, hB⟩
 by_cases h2 : y < 1
 ·have HE := Lib.hid (show R = false from HC.out.trans (if_pos (.inr (.inr (.inl h2)))))
  clear HC
  go_enter Tryd.func8, Tryd.ntmps8
  go_wp2_with fail
  go_ret
  exact ⟨ret_bl HE.out.symm, hB⟩
 by_cases h3 : 65535 < y
 ·have HE := Lib.hid (show R = false from HC.out.trans (if_pos (.inr (.inr (.inr (.inl h3))))))
  clear HC
  go_enter Tryd.func8, Tryd.ntmps8
  go_wp2_with fail
  go_ret
  exact ⟨ret_bl HE.out.symm, hB⟩
 by_cases h4 : md < 0
 ·have HE := Lib.hid (show R = false from HC.out.trans (if_pos (.inr (.inr (.inr (.inr (.inl h4)))))))
  clear HC
  go_enter Tryd.func8, Tryd.ntmps8
  go_wp2_with fail
  go_ret
  exact ⟨ret_bl HE.out.symm, hB⟩
 by_cases h5 : 255 < md
 ·have HE := Lib.hid (show R = false from HC.out.trans (if_pos (.inr (.inr (.inr (.inr (.inr (h5))))))))
  clear HC
  go_enter Tryd.func8, Tryd.ntmps8
  go_wp2_with fail
  go_ret
  exact ⟨ret_bl HE.out.symm, hB⟩
 have HC := Lib.hid (HC.out.trans (if_neg (by omega)))
 by_cases t1 : typ = 1
 ·subst t1
  have HC := Lib.hid (HC.out.trans (if_pos rfl))
  by_cases b1 : 1 ≤ btn
  ·by_cases b2 : btn ≤ 11
   ·have HE := Lib.hid (HC.out.trans (decide_eq_true ⟨b1, b2⟩))
    clear HC
    go_enter Tryd.func8, Tryd.ntmps8
    go_wp2_with fail
    go_ret
    exact ⟨ret_bl HE.out.symm, hB⟩
   ·have HE := Lib.hid (HC.out.trans (decide_eq_false (fun h => b2 h.2)))
    clear HC
    go_enter Tryd.func8, Tryd.ntmps8
    go_wp2_with fail
    go_ret
    exact ⟨ret_bl HE.out.symm, hB⟩
  ·have HE := Lib.hid (HC.out.trans (decide_eq_false (fun h => b1 h.1)))
   clear HC
   go_enter Tryd.func8, Tryd.ntmps8
   go_wp2_with fail
   go_ret
   exact ⟨ret_bl HE.out.symm, hB⟩
 ·have HC := Lib.hid (HC.out.trans (if_neg t1))
  have u1 : (typ == 1) = false := beq_false_of_ne t1
  clear t1
  by_cases t3 : typ = 3
  ·subst t3
   have HE := Lib.hid (HC.out.trans (if_pos rfl))
   clear HC
   go_enter Tryd.func8, Tryd.ntmps8
   go_wp2_with fail
   refine (HH.out _).mono ?_
   rintro z w1 ⟨rfl, hb1⟩
   go_wp2_with fail
   go_ret
   exact ⟨ret_bl HE.out.symm, hB.trans (hb1.mono hB.size)⟩
  ·have HC := Lib.hid (HC.out.trans (if_neg t3))
   have u3 : (typ == 3) = false := beq_false_of_ne t3
   clear t3
   by_cases t4 : typ = 4
   ·subst t4
    have HC := Lib.hid (HC.out.trans (by rw [decide_eq_true rfl, Bool.true_and]))
    by_cases b0 : btn = 0
    ·subst b0
     have HE := Lib.hid (HC.out.trans (by rw [decide_eq_true rfl, Bool.true_or]))
     clear HC
     go_enter Tryd.func8, Tryd.ntmps8
     go_wp2_with fail
     go_ret
     exact ⟨ret_bl HE.out.symm, hB⟩
    ·have v0 : (btn == 0) = false := beq_false_of_ne b0
     have HE := Lib.hid (HC.out.trans (by rw [decide_eq_false b0, Bool.false_or]))
     clear HC b0
     go_enter Tryd.func8, Tryd.ntmps8
     go_wp2_with fail
     refine (HH.out _).mono ?_
     rintro z w1 ⟨rfl, hb1⟩
     go_wp2_with fail
     go_ret
     exact ⟨ret_bl HE.out.symm, hB.trans (hb1.mono hB.size)⟩
   ·have HE := Lib.hid (HC.out.trans (by rw [decide_eq_false t4, Bool.false_and]))
    have u4 : (typ == 4) = false := beq_false_of_ne t4
    clear HC t4
    go_enter Tryd.func8, Tryd.ntmps8
    go_wp2_with fail
    go_ret
    exact ⟨ret_bl HE.out.symm, hB⟩
end Go.Proofs.YtjlhhelikiegdaaDoor
