/-
  Stage 18, the landed style, walked: what colours and lines are; May.
-/
import Derived.Test.YthcafgningpdnaaDoorG06
import Derived.Test.YthcafgningpdnaaDoorG07
namespace Go.Proofs.YthcafgningpdnaaDoor
open Go.RowKit
def lineL (f : List Int) (t : Int) : Int :=
 match f with
 | [] => 1
 | u :: _ => if 0 ≤ u ∧ u ≤ 5 then u else t
def anyL (f : List Int) (t : Int) : Int :=
 match f with
 | [a, n] => if a = 5 ∧ byteY n = true then n else t
 | [a, _, r, g, b] => if a = 2 ∧ byteY r = true ∧ byteY g = true ∧ byteY b = true then 256 + 65536 * r + 256 * g + b else t
 | _ => t
def colL (n : Int) (p : List Int) (t : Int) : Int :=
 if 30 ≤ n ∧ n ≤ 37 then n - 30 else if 90 ≤ n ∧ n ≤ 97 then n - 90 + 8 else if n = 39 then -1 else if n = 38 then anyL (p.drop 1) t else t
theorem ret_bq {x y : Bool} (h : x = y) : Ending.returned (.bool x) = .returned (.bool y) := by rw [h]
theorem sisUnder_any (n : Int) (q : Bool) (hq : (decide (0 ≤ n) && decide (n ≤ 5)) = q) (w : World) : Calls Tryd.prog 27 #[.int .i64 n] w fun e w' => e = .returned (.bool q) ∧ Below w.heap.size w w' := by
 by_cases h : 0 ≤ n
 ·rw [decide_eq_true h, Bool.true_and] at hq
  have HQ := Lib.hid hq
  clear hq
  go_enter Tryd.func27, Tryd.ntmps27
  go_wp2_with fail
  go_ret
  exact ⟨ret_bq HQ.out, Below.refl _ _⟩
 ·rw [decide_eq_false h, Bool.false_and] at hq
  subst hq
  go_enter Tryd.func27, Tryd.ntmps27
  go_wp2_with fail
  go_ret
  exact ⟨rfl, Below.refl _ _⟩
theorem sisColour_any (n : Int) (q : Bool) (hq : colY n = q) (w : World) : Calls Tryd.prog 28 #[.int .i64 n] w fun e w' => e = .returned (.bool q) ∧ Below w.heap.size w w' := by
 unfold colY at hq
 rw [show decide (n < 16777472) = decide (n ≤ 16777471) from decide_eq_decide.2 (by omega)] at hq
 by_cases h : -1 ≤ n
 ·rw [decide_eq_true h, Bool.true_and] at hq
  have HQ := Lib.hid hq
  clear hq
  go_enter Tryd.func28, Tryd.ntmps28
  go_wp2_with fail
  go_ret
  exact ⟨ret_bq HQ.out, Below.refl _ _⟩
 ·rw [decide_eq_false h, Bool.false_and] at hq
  subst hq
  go_enter Tryd.func28, Tryd.ntmps28
  go_wp2_with fail
  go_ret
  exact ⟨rfl, Below.refl _ _⟩
set_option maxRecDepth 100000 in
set_option maxHeartbeats 4000000 in
theorem smay_any (s : Sy) (q : Bool) (hq : mayY s = q) (w : World) : Calls Tryd.prog 12 #[syV s] w fun e w' => e = .returned (.bool q) ∧ Below w.heap.size w w' := by
 obtain ⟨s0, s1, s2, s3, s4, s5, s6, u, x, y⟩ := s
 obtain ⟨q1, h1⟩ : ∃ q, (decide (0 ≤ u) && decide (u ≤ 5)) = q := ⟨_, rfl⟩
 obtain ⟨q2, h2⟩ : ∃ q, colY x = q := ⟨_, rfl⟩
 obtain ⟨q3, h3⟩ : ∃ q, colY y = q := ⟨_, rfl⟩
 unfold mayY at hq
 simp only [h1, h2, h3] at hq
 have H1 := Lib.hid h1
 have H2 := Lib.hid h2
 have H3 := Lib.hid h3
 clear h1 h2 h3
 subst hq
 unfold syV
 simp only
 have k0 := Blk.new w 23 #[.bool s0, .bool s1, .bool s2, .bool s3, .bool s4, .bool s5, .bool s6, .int .i64 u, .int .i64 x, .int .i64 y]
 have HB0 : Below w.heap.size w (w.alloc (.cells #[.bool s0, .bool s1, .bool s2, .bool s3, .bool s4, .bool s5, .bool s6, .int .i64 u, .int .i64 x, .int .i64 y] 23)) := (Below.refl _ w).alloc (Nat.le_refl _) _
 have c7 := k0.cell 7
 go_enter Tryd.func12, Tryd.ntmps12
 go_wp2_with fail
 refine (sisUnder_any u q1 H1.out _).mono ?_
 rintro e w1 ⟨rfl, hb1⟩
 have hB1 := HB0.trans (hb1.mono HB0.size)
 have k1 := k0.below hb1 k0.lt
 clear c7
 have c8 := k1.cell 8
 cases q1 with
 | false =>
   go_wp2_with fail
   go_ret
   exact ⟨rfl, hB1⟩
 | true =>
   go_wp2_with fail
   refine (sisColour_any x q2 H2.out _).mono ?_
   rintro e w2 ⟨rfl, hb2⟩
   have hB2 := hB1.trans (hb2.mono hB1.size)
   have k2 := k1.below hb2 k1.lt
   clear c8
   have c9 := k2.cell 9
   cases q2 with
   | false =>
     go_wp2_with fail
     go_ret
     exact ⟨rfl, hB2⟩
   | true =>
     go_wp2_with fail
     refine (sisColour_any y q3 H3.out _).mono ?_
     rintro e w3 ⟨rfl, hb3⟩
     have hB3 := hB2.trans (hb3.mono hB2.size)
     go_wp2_with fail
     go_ret
     exact ⟨rfl, hB3⟩
set_option maxRecDepth 100000 in
theorem slineOf_any (A : Option Addr) (f : List Int) (k c : Nat) (hk : f.length = k) (t : Int) (w : World) (hr : Rd w A (is_ f)) : Calls Tryd.prog 45 #[.slice A k c, .int .i64 t] w fun e w' => e = .returned (.int .i64 (lineL f t)) ∧ Below w.heap.size w w' := by
 cases f with
 | nil =>
   obtain rfl : k = 0 := by simpa using hk.symm
   clear hk hr
   go_enter Tryd.func45, Tryd.ntmps45
   go_wp2_with fail
   go_ret
   exact ⟨rfl, Below.refl _ _⟩
 | cons u r =>
   obtain ⟨b, o, rfl, hb, hc⟩ := hr.int_at (by simp)
   have h0 : w.cell? ⟨b, o, none⟩ = some (.int .i64 u) := hc 0 (by simp)
   have hk0 : ¬ ((k : Int) = 0) := by simp at hk; omega
   have hk1 : (0 : Int) < (k : Int) := by simp at hk; omega
   have hkn : 0 < k := by omega
   obtain ⟨q, hq⟩ : ∃ q, (decide (0 ≤ u) && decide (u ≤ 5)) = q := ⟨_, rfl⟩
   have HQ := Lib.hid hq
   have hl : lineL (u :: r) t = if q = true then u else t := by
    rw [← hq]
    unfold lineL
    simp
   have HL := Lib.hid hl
   clear hc hk hq hl
   go_enter Tryd.func45, Tryd.ntmps45
   go_wp2_with fail
   refine (sisUnder_any u q HQ.out _).mono ?_
   rintro e w1 ⟨rfl, hb1⟩
   have h1 := (hb1.cell (p := ⟨b, o, none⟩) hb).trans h0
   cases q with
   | true =>
     go_wp2_with fail
     go_ret
     exact ⟨ret_i HL.out.symm, hb1⟩
   | false =>
     go_wp2_with fail
     go_ret
     exact ⟨ret_i HL.out.symm, hb1⟩
theorem sisByte_any (n : Int) (q : Bool) (hq : byteY n = q) (w : World) : Calls Tryd.prog 58 #[.int .i64 n] w fun e w' => e = .returned (.bool q) ∧ Below w.heap.size w w' := by
 unfold byteY at hq
 rw [show decide (n ≤ 255) = decide (n < 256) from decide_eq_decide.2 (by omega)] at hq
 by_cases h : 0 ≤ n
 ·rw [decide_eq_true h, Bool.true_and] at hq
  have HQ := Lib.hid hq
  clear hq
  go_enter Tryd.func58, Tryd.ntmps58
  go_wp2_with fail
  go_ret
  exact ⟨ret_bq HQ.out, Below.refl _ _⟩
 ·rw [decide_eq_false h, Bool.false_and] at hq
  subst hq
  go_enter Tryd.func58, Tryd.ntmps58
  go_wp2_with fail
  go_ret
  exact ⟨rfl, Below.refl _ _⟩
end Go.Proofs.YthcafgningpdnaaDoor
