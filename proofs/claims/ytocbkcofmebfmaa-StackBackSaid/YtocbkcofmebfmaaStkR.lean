/-
  Layer 8, the document's: Flags, has, Same.
-/
import Derived.Test.YtocbkcofmebfmaaStkM
import Derived.Test.YtocbkcofmebfmaaSep
import Derived.Test.YtocbkcofmebfmaaIntsR
import Derived.Laws.Small
import Derived.IntWalk
namespace Go.Proofs.Ytocbkcofmebfmaa
open Go.RowKit

/-- A stack, as a value. -/
def stV (now : Int) (A : Option Addr) (n c : Nat) : Value := .agg #[.int .i64 now, .slice A n c]
theorem maxZ (n N : Int) (h : max n 0 = N) {P : Program} : ∀ (ts : Array TypeId) (t : TypeId) (W : World), (Builtin.max_ ts t #[.int .i64 n, .int .i64 0]).run P W = .ok (.int .i64 N) W := fun ts t W => by
  rw [run_max_int2]
  congr 2
  split <;> omega
set_option maxRecDepth 100000 in
set_option maxHeartbeats 2000000 in
theorem rflags_any (n : Int) (w : World) : Calls Try.prog 19 #[.int .i64 n] w fun e w' => e = .returned (.int .i64 (flg n)) ∧ Below w.heap.size w w' := by
  obtain ⟨N, hN⟩ : ∃ N, max n 0 = N := ⟨_, rfl⟩
  have hmax := maxZ n N hN (P := Try.prog)
  obtain ⟨F, hF⟩ : ∃ F, flg n = F := ⟨_, rfl⟩
  have hm : Int.tmod N 32 = F := by
    rw [Int.tmod_eq_emod_of_nonneg (by omega), ← hF, ← hN]
    rfl
  rw [hF]
  clear hF hN
  go_enter Try.func19, Try.ntmps19
  go_wp2
  go_ret
  exact ⟨rfl, by first | exact Below.refl _ _ | exact below_drewN (Below.refl _ _) _⟩
theorem has_arith {n b : Int} (hn : 0 ≤ n) (hb : 0 < b) : Int.tdiv n b = n / b ∧ Int.tmod (n / b) 2 = n / b % 2 :=
  ⟨Int.tdiv_eq_ediv_of_nonneg hn, Int.tmod_eq_emod_of_nonneg (Int.ediv_nonneg hn (by omega))⟩
set_option maxRecDepth 100000 in
set_option maxHeartbeats 2000000 in
theorem rhas_any (n b : Int) (hn : 0 ≤ n) (hn2 : n < 32) (hb : 0 < b) (hb2 : b ≤ 16) (w : World) : Calls Try.prog 26 #[.int .i64 n, .int .i64 b] w fun e w' => e = .returned (.bool (bitF n b)) ∧ Below w.heap.size w w' := by
  have hmax := maxZ n n (by omega) (P := Try.prog)
  have hb0 : b ≠ 0 := by omega
  have hbe : (b == 0) = false := by simp [hb0]
  obtain ⟨q, hq⟩ : ∃ q, n / b = q := ⟨_, rfl⟩
  have hd : Int.tdiv n b = q := by rw [← hq]; exact (has_arith hn hb).1
  have hq0 : 0 ≤ q := by rw [← hq]; exact Int.ediv_nonneg hn (by omega)
  have hq1 : q < 32 := by
    rw [← hq]
    exact Int.lt_of_le_of_lt (Int.ediv_le_self b hn) hn2
  obtain ⟨r, hr⟩ : ∃ r, q % 2 = r := ⟨_, rfl⟩
  have hm : Int.tmod q 2 = r := by rw [← hr]; exact Int.tmod_eq_emod_of_nonneg hq0
  obtain ⟨v, hv⟩ : ∃ v, (r == 1) = v := ⟨_, rfl⟩
  have HB := Lib.hid (show bitF n b = v by unfold bitF; rw [hq, hr, hv])
  rw [HB.out]
  clear hq hr
  go_enter Try.func26, Try.ntmps26
  go_wp2
  go_ret
  exact ⟨by simp, by first | exact Below.refl _ _ | exact below_drewN (Below.refl _ _) _⟩
set_option maxRecDepth 100000 in
set_option maxHeartbeats 4000000 in
theorem rsame8_any (a b : St) (A B : Option Addr) (n m c d : Nat) (hn : a.kept.length = n) (hm : b.kept.length = m) (hn2 : n ≤ 65536) (hm2 : m ≤ 65536) (w : World) (hra : Rd w A (is_ a.kept)) (hrb : Rd w B (is_ b.kept)) :
    Calls Try.prog 22 #[stV a.now A n c, stV b.now B m d] w fun e w' => e = .returned (.bool (sameS a b)) ∧ Below w.heap.size w w' := by
  obtain ⟨x, k⟩ := a
  obtain ⟨y, l⟩ := b
  simp only at hn hm hra hrb
  rw [stV, stV]
  have hbe : Below w.heap.size w ((w.alloc (.cells #[.int .i64 x, .slice A n c] 24)).alloc (.cells #[.int .i64 y, .slice B m d] 24)) := ((Below.refl _ w).alloc (Nat.le_refl _) _).alloc (by simp) _
  have ra := hra.below hbe
  have rb := hrb.below hbe
  obtain ⟨v, hv⟩ : ∃ v, decide (k = l) = v := ⟨_, rfl⟩
  have HS := Lib.hid (show sameS ⟨x, k⟩ ⟨y, l⟩ = (decide (x = y) && v) by rw [← hv]; rfl)
  rw [HS.out]
  clear HS
  go_enter Try.func22, Try.ntmps22
  have hc := ints_any A B c d k l _ (by omega) (by omega) ra rb
  rw [hv, hn, hm] at hc
  by_cases h : x = y
  · have t1 : (x == y) = true := by simp [h]
    rw [decide_eq_true h, Bool.true_and]
    clear h
    go_wp2_with fail
    refine hc.mono ?_
    rintro e w2 ⟨rfl, hb2⟩
    go_wp2_with fail
    go_ret
    exact ⟨rfl, hbe.trans (hb2.mono hbe.size)⟩
  · have t1 : (x == y) = false := by simp [h]
    rw [decide_eq_false h, Bool.false_and]
    clear h
    go_wp2_with fail
    go_ret
    exact ⟨rfl, hbe⟩
end Go.Proofs.Ytocbkcofmebfmaa
