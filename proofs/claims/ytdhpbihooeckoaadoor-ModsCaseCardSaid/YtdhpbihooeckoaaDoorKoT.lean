/-
  Layer 9, the landed keys, walked: whether a code is a text's, and Look.
-/
import Derived.Test.YtdhpbihooeckoaaDoorKoE
import Derived.Test.YtdhpbihooeckoaaDoorUtfQ
namespace Go.Proofs.YtdhpbihooeckoaaDoor
open Go.RowKit

theorem isPtK_eq (c : Int) : isPtK c = isPt c := by
  cases h : isPt c with
  | true => exact decide_eq_true (by have := (isPt_iff c).1 h; omega)
  | false => exact decide_eq_false (by have := (isPt_no c).1 h; omega)
theorem put_len (c : Int) : decide (0 < ((putL c).length : Int)) = isPtK c := by
  rw [isPtK_eq]
  cases h : isPt c with
  | true =>
    have := (cnt_bd c).1
    rw [putL_length h]
    exact decide_eq_true (by omega)
  | false => rw [putL_no h]; rfl
theorem txK_no {c : Int} (h : c < 32 ∨ (127 ≤ c ∧ c ≤ 159) ∨ (57344 ≤ c ∧ c ≤ 63743)) : txK c = false := by
  unfold txK
  rcases h with h | h | h <;> simp [h]
theorem txK_is {c : Int} (h : ¬ (c < 32 ∨ (127 ≤ c ∧ c ≤ 159) ∨ (57344 ≤ c ∧ c ≤ 63743))) : txK c = isPtK c := by
  unfold txK
  rw [show decide (c < 32) = false from decide_eq_false (by omega), show (decide (127 ≤ c) && decide (c ≤ 159)) = false by simp; omega, show (decide (57344 ≤ c) && decide (c ≤ 63743)) = false by simp; omega]
  rfl
set_option maxRecDepth 100000 in
set_option maxHeartbeats 4000000 in
theorem isText_any (c : Int) (w : World) (hs : Siz w) : Calls Tryd.prog 33 #[.int .i64 c] w fun e w' => e = .returned (.bool (txK c)) ∧ Below w.heap.size w w' := by
  have HP := Lib.hid (Put_any c w hs)
  have HL := Lib.hid (put_len c)
  by_cases h1 : c < 32
  · have E := Lib.hid (txK_no (.inl h1))
    go_enter Tryd.func33, Tryd.ntmps33
    go_wp2_with fail
    go_ret
    exact ⟨ret_b E.out.symm, Below.refl _ _⟩
  by_cases h2 : c < 127
  · have E := Lib.hid (txK_is (c := c) (by omega))
    have j1 : 32 ≤ c := by omega
    clear h1
    go_enter Tryd.func33, Tryd.ntmps33
    go_wp2_with fail
    refine HP.out.mono ?_
    rintro e w1 ⟨A, cp, rfl, _, hb⟩
    have hl := HL.out
    go_wp2_with fail
    go_ret
    exact ⟨ret_b (by rw [E.out, ← hl]; simp [show ¬ c < 32 by omega]), hb⟩
  by_cases h3 : c ≤ 159
  · have E := Lib.hid (txK_no (c := c) (.inr (.inl ⟨by omega, h3⟩)))
    have j1 : 32 ≤ c := by omega
    have j2 : 127 ≤ c := by omega
    clear h1 h2
    go_enter Tryd.func33, Tryd.ntmps33
    go_wp2_with fail
    go_ret
    exact ⟨ret_b E.out.symm, Below.refl _ _⟩
  by_cases h4 : c < 57344
  · have E := Lib.hid (txK_is (c := c) (by omega))
    have j1 : 32 ≤ c := by omega
    have j2 : 127 ≤ c := by omega
    have j3 : 159 < c := by omega
    clear h1 h2 h3
    go_enter Tryd.func33, Tryd.ntmps33
    go_wp2_with fail
    refine HP.out.mono ?_
    rintro e w1 ⟨A, cp, rfl, _, hb⟩
    have hl := HL.out
    go_wp2_with fail
    go_ret
    exact ⟨ret_b (by rw [E.out, ← hl]; simp [show ¬ c < 32 by omega, show ¬ c ≤ 159 by omega]), hb⟩
  have j1 : 32 ≤ c := by omega
  have j2 : 127 ≤ c := by omega
  have j3 : 159 < c := by omega
  have j4 : 57344 ≤ c := by omega
  by_cases h5 : c ≤ 63743
  · have E := Lib.hid (txK_no (c := c) (.inr (.inr ⟨j4, h5⟩)))
    clear h1 h2 h3 h4
    go_enter Tryd.func33, Tryd.ntmps33
    go_wp2_with fail
    go_ret
    exact ⟨ret_b E.out.symm, Below.refl _ _⟩
  · have E := Lib.hid (txK_is (c := c) (by omega))
    have j5 : 63743 < c := by omega
    clear h1 h2 h3 h4 h5
    go_enter Tryd.func33, Tryd.ntmps33
    go_wp2_with fail
    refine HP.out.mono ?_
    rintro e w1 ⟨A, cp, rfl, _, hb⟩
    have hl := HL.out
    go_wp2_with fail
    go_ret
    exact ⟨ret_b (by rw [E.out, ← hl]; simp [show ¬ c < 32 by omega, show ¬ c ≤ 159 by omega, show ¬ c ≤ 63743 by omega]), hb⟩

/-- A row's entry, of a code of the row. -/
theorem entry_ro (r : Ro) (hr : r ∈ roL) (a : Nat) (c : Int) (hc : c = r.first + (a : Int)) (hc2 : c ≤ r.last) (A : Option Addr) (cp : Nat) (w : World) (hR : Rd w A (is_ r.nums)) :
    Calls Tryd.prog 32 #[.agg #[.int .i64 r.first, .int .i64 r.last, .int .i64 r.kind, .string ⟨r.finals.toArray⟩, .slice A r.nums.length cp, .string ⟨r.chars.toArray⟩, .bool r.keys], .int .i64 c] w fun e w' => e = .returned (enV (entK r a)) ∧ Below w.heap.size w w' := by
  obtain ⟨⟨b1, b2, b3⟩, b4, b5, b6⟩ := ro_bd r hr
  subst hc
  refine (entry_any r.first r.last r.kind ⟨r.finals.toArray⟩ r.nums r.nums.length rfl ⟨r.chars.toArray⟩ r.keys A cp a (by omega) b1 (by omega) b4 b5 b6 w hR).mono ?_
  rintro e w' ⟨rfl, hb⟩
  refine ⟨?_, hb⟩
  rw [sbK_eq, sbK_eq]
  rfl
end Go.Proofs.YtdhpbihooeckoaaDoor
