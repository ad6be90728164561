/-
  Layer 3, walked: the document's last and bare.
-/
import Derived.Test.YtdpdgdidfikphaaDoorWirP
import Derived.Test.YtdpdgdidfikphaaDoorOwn
namespace Go.Proofs.YtdpdgdidfikphaaDoor
open Go.RowKit

/-- A sequence as a value; that it reads so. -/
def sqV (s : Sq) (A : Option Addr) (c : Nat) : Value := .agg #[.int .i64 s.kind, .int .u8 (s.priv.toNat : Int), .slice A s.params.length c, .string ⟨s.inter.toArray⟩, .int .u8 (s.final.toNat : Int), .string ⟨s.data.toArray⟩]

theorem last_q {s : Sq} {q : Bool} (hq : lastOk s = q) : (s.kind = 1 ∨ s.kind = 2 ∨ s.kind = 3 → q = (decide (64 ≤ s.final.toNat) && decide (s.final.toNat ≤ 126))) ∧
    (s.kind = 5 → (s.final.toNat < 48 ∨ 126 < s.final.toNat → q = false) ∧ (48 ≤ s.final.toNat → s.final.toNat ≤ 126 → (s.inter ≠ [] → q = true) ∧
      (s.inter = [] → q = !([79, 80, 88, 91, 93, 92, 94, 95] : List Nat).contains s.final.toNat))) ∧
    (s.kind = 4 → q = decide (s.final.toNat = 0)) ∧ (¬ (s.kind = 1 ∨ s.kind = 2 ∨ s.kind = 3 ∨ s.kind = 4 ∨ s.kind = 5) → q = false) := by
  subst hq
  refine ⟨fun h => ?_, fun h => ⟨fun h1 => ?_, fun h1 h2 => ⟨fun h3 => ?_, fun h3 => ?_⟩⟩, fun h => ?_, fun h => ?_⟩
  · unfold lastOk; rw [if_pos h]; rfl
  · unfold lastOk; rw [if_neg (by omega), if_pos h, (btw_no 48 126 _).2 (by omega), Bool.false_and]
  · unfold lastOk; rw [if_neg (by omega), if_pos h, (btw_iff 48 126 _).2 ⟨h1, h2⟩, decide_eq_true h3]; rfl
  · unfold lastOk; rw [if_neg (by omega), if_pos h, (btw_iff 48 126 _).2 ⟨h1, h2⟩, decide_eq_false (by simpa using h3), Bool.false_or, Bool.true_and]
    congr 1
    rw [Bool.eq_iff_iff]
    simp [← UInt8.toNat_inj]
  · unfold lastOk; rw [if_neg (by omega), if_neg (by omega), decide_eq_true h, Bool.true_and]
    rw [Bool.eq_iff_iff]
    simp [← UInt8.toNat_inj]
  · unfold lastOk; rw [if_neg (by omega), if_neg (by omega), decide_eq_false (by omega)]; rfl

set_option maxRecDepth 100000 in
set_option maxHeartbeats 4000000 in
theorem last_any (s : Sq) (A : Option Addr) (c : Nat) (q : Bool) (w : World) (hq : lastOk s = q) :
    Calls Tryd.prog 25 #[sqV s A c] w fun e w' => e = .returned (.bool q) ∧ Below w.heap.size w w' := by
  obtain ⟨q1, q5, q4, q0⟩ := last_q hq
  clear hq
  obtain ⟨k, pv, ps, it, f, d⟩ := s
  dsimp only at q1 q5 q4 q0
  have hf := f.toNat_lt
  obtain ⟨n, hn⟩ : ∃ n, f.toNat = n := ⟨_, rfl⟩
  rw [hn] at q1 q5 q4 hf
  unfold sqV
  dsimp only
  rw [hn]
  clear hn
  by_cases k1 : k = 1 ∨ k = 2 ∨ k = 3
  · have E := Lib.hid (q1 k1)
    clear q1 q5 q4 q0
    rcases k1 with rfl | rfl | rfl
    all_goals
      go_enter Tryd.func25, Tryd.ntmps25
      go_wp2
      all_goals
        go_ret
        refine ⟨ret_b ?_, (Below.refl _ _).alloc (Nat.le_refl _) _⟩
        rw [E.out, Bool.eq_iff_iff]
        simp only [Bool.and_eq_true, decide_eq_true_eq, Bool.false_eq_true, false_iff]
        omega
  · by_cases k5 : k = 5
    · obtain ⟨e1, e2⟩ := q5 k5
      subst k5
      clear q1 q4 q0 k1 q5
      by_cases hr : n < 48 ∨ 126 < n
      · have E := Lib.hid (e1 hr)
        clear e1 e2
        rcases hr with hr | hr
        all_goals
          go_enter Tryd.func25, Tryd.ntmps25
          go_wp2
          go_ret
          exact ⟨ret_b E.out.symm, (Below.refl _ _).alloc (Nat.le_refl _) _⟩
      · have n0 : 48 ≤ n := by omega
        have n1 : n ≤ 126 := by omega
        obtain ⟨e3, e4⟩ := e2 n0 n1
        clear e1 e2 hr
        cases it with
        | cons x it =>
          have E := Lib.hid (e3 (by simp))
          clear e3 e4
          go_enter Tryd.func25, Tryd.ntmps25
          go_wp2
          go_ret
          exact ⟨ret_b E.out.symm, (Below.refl _ _).alloc (Nat.le_refl _) _⟩
        | nil =>
          have E := Lib.hid (e4 rfl)
          clear e3 e4
          go_enter Tryd.func25, Tryd.ntmps25
          go_wp2
          all_goals
            go_ret
            refine ⟨ret_b ?_, (Below.refl _ _).alloc (Nat.le_refl _) _⟩
            rw [E.out, Bool.eq_iff_iff]
            simp
            omega
    · by_cases k4 : k = 4
      · have E := Lib.hid (q4 k4)
        subst k4
        clear q1 q4 q0 k1 q5 k5
        go_enter Tryd.func25, Tryd.ntmps25
        go_wp2
        all_goals
          go_ret
          refine ⟨ret_b ?_, (Below.refl _ _).alloc (Nat.le_refl _) _⟩
          rw [E.out, Bool.eq_iff_iff]
          simp
      · have E := Lib.hid (q0 (by omega))
        have t1 : (k == 1) = false := beq_false_of_ne (by omega)
        have t2 : (k == 2) = false := beq_false_of_ne (by omega)
        have t3 : (k == 3) = false := beq_false_of_ne (by omega)
        have t4 : (k == 4) = false := beq_false_of_ne k4
        have t5 : (k == 5) = false := beq_false_of_ne k5
        clear q1 q4 q0 k1 q5 k5 k4
        go_enter Tryd.func25, Tryd.ntmps25
        go_wp2
        go_ret
        exact ⟨ret_b E.out.symm, (Below.refl _ _).alloc (Nat.le_refl _) _⟩
end Go.Proofs.YtdpdgdidfikphaaDoor
