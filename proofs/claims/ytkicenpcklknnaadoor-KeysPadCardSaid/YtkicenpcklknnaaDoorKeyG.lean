/-
  Layer 9: the walk of KeysKinds.
-/
import Derived.Test.YtkicenpcklknnaaDoorKeyF
namespace Go.Proofs.YtkicenpcklknnaaDoor
open Go.RowKit

def Kinds (c : Int) (e : En) : Prop :=
  (e = ⟨1, 0, 0, 0, false⟩ ∧ 32 ≤ c ∧ c ≤ 1114111 ∧ c ≠ 127 ∧ (c < 128 ∨ 159 < c)) ∨ (e.kind = 2 ∧ (c = 9 ∨ c = 13 ∨ c = 27 ∨ c = 127)) ∨
  ((e.kind = 3 ∨ e.kind = 4 ∨ e.kind = 6 ∨ e.kind = 7) ∧ 57348 ≤ c ∧ c ≤ 57454) ∨ (e.kind = 5 ∧ 57348 ≤ c ∧ c ≤ 57454 ∧ 0 < e.char ∧ e.keys = true) ∨ e = ⟨0, 0, 0, 0, false⟩
instance (c : Int) (e : En) : Decidable (Kinds c e) := by unfold Kinds; infer_instance
theorem kinds_fin : ∀ k : Fin 111, Kinds (57344 + (k.1 : Int)) (lookE (57344 + (k.1 : Int))) := by decide +kernel
theorem look_kinds (c : Int) : Kinds c (lookE c) := by
  by_cases h : c < 57344 ∨ 57455 ≤ c
  · rw [look_out h]
    unfold restN
    split
    next h2 => exact .inr (.inl ⟨rfl, h2⟩)
    next h2 =>
      rw [if_neg (by omega), if_neg (by omega)]
      split
      next => exact .inr (.inr (.inr (.inr rfl)))
      next h3 =>
        have hp : isPtK c = true := by cases hq : isPtK c with
          | true => rfl
          | false => exact absurd (.inl hq) h3
        have hp2 := of_decide_eq_true hp
        refine .inl ⟨rfl, ?_, hp2.2.1, ?_, ?_⟩
        · exact Int.not_lt.1 fun h4 => h3 (.inr (.inl h4))
        · intro h4; exact h2 (.inr (.inr (.inr h4)))
        · by_cases h4 : c < 128
          · exact .inl h4
          · exact .inr (Int.not_le.1 fun h5 => h3 (.inr (.inr (.inl ⟨by omega, h5⟩))))
  · obtain ⟨k, hk2⟩ : ∃ k : Fin 111, c = 57344 + (k.1 : Int) := ⟨⟨(c - 57344).toNat, by omega⟩, by simp; omega⟩
    rw [hk2]
    exact kinds_fin k
section
variable {Inv : World → Prop}
set_option maxRecDepth 100000 in
set_option maxHeartbeats 32000000 in
theorem keysKinds_walk (H : KeysC Inv) (c : Int) (lo : -9223372036854775808 ≤ c) (hi : c ≤ 9223372036854775807) (w : World) (hv : Inv w) :
    Calls Tryd.prog 7 #[.int .i64 c] w fun e w' => e = .returned (.bool true) ∧ Below w.heap.size w w' := by
  have hk := look_kinds c
  obtain ⟨⟨K, F, N, C, B⟩, hE⟩ : ∃ E, lookE c = E := ⟨_, rfl⟩
  have HL : Hid (∀ W, Inv W → Calls Tryd.prog 10 #[.int .i64 c] W fun e w' => e = .returned (.agg #[.int .i64 K, .int .u8 F, .int .i64 N, .int .i64 C, .bool B]) ∧ Below W.heap.size W w') := Lib.hid fun W hW => by
    have := H.look c W hW ⟨lo, hi⟩
    rwa [hE] at this
  rw [hE] at hk
  clear hE lo hi
  have ha := keysAwake H _ hv
  rcases hk with ⟨he, h1, h2, h3, h4⟩ | ⟨rfl, h1⟩ | ⟨h0, h1, h2⟩ | ⟨rfl, h1, h2, h3, rfl⟩ | he
  · injection he with e1 e2 e3 e4 e5
    subst e1 e2 e3 e4 e5
    have t : (c != 127) = true := by simp [h3]
    rcases h4 with h4 | h4
    all_goals
      go_enter Tryd.func7, Tryd.ntmps7
      go_wp2_with fail
      refine ha.mono ?_
      rintro e w1 ⟨rfl, hb1⟩
      go_wp2_with fail
      refine (HL.out _ (H.invB hv hb1)).mono ?_
      rintro e w2 ⟨rfl, hb2⟩
      have hbe := (below_step9 hb1 hb2 hb1.size).alloc (below_step9 hb1 hb2 hb1.size).size (.cells #[.int .i64 1, .int .u8 0, .int .i64 0, .int .i64 0, .bool false] 24)
      go_wp2_with fail
      go_ret
      exact ⟨rfl, hbe⟩
  · rcases h1 with rfl | rfl | rfl | rfl
    all_goals
      go_enter Tryd.func7, Tryd.ntmps7
      go_wp2_with fail
      refine ha.mono ?_
      rintro e w1 ⟨rfl, hb1⟩
      go_wp2_with fail
      refine (HL.out _ (H.invB hv hb1)).mono ?_
      rintro e w2 ⟨rfl, hb2⟩
      have hbe := (below_step9 hb1 hb2 hb1.size).alloc (below_step9 hb1 hb2 hb1.size).size (.cells #[.int .i64 2, .int .u8 F, .int .i64 N, .int .i64 C, .bool B] 24)
      go_wp2_with fail
      go_ret
      exact ⟨rfl, hbe⟩
  · have h0' : K = 3 ∨ K = 4 ∨ K = 6 ∨ K = 7 := h0
    clear h0
    rcases h0' with rfl | rfl | rfl | rfl
    all_goals
      go_enter Tryd.func7, Tryd.ntmps7
      go_wp2_with fail
      refine ha.mono ?_
      rintro e w1 ⟨rfl, hb1⟩
      go_wp2_with fail
      refine (HL.out _ (H.invB hv hb1)).mono ?_
      rintro e w2 ⟨rfl, hb2⟩
      have hbe : ∀ x, Below w.heap.size w (w2.alloc x) := fun x => (below_step9 hb1 hb2 hb1.size).alloc (below_step9 hb1 hb2 hb1.size).size x
      go_wp2_with fail
      go_ret
      exact ⟨rfl, hbe _⟩
  · have h3' : 0 < C := h3
    go_enter Tryd.func7, Tryd.ntmps7
    go_wp2_with fail
    refine ha.mono ?_
    rintro e w1 ⟨rfl, hb1⟩
    go_wp2_with fail
    refine (HL.out _ (H.invB hv hb1)).mono ?_
    rintro e w2 ⟨rfl, hb2⟩
    have hbe : ∀ x, Below w.heap.size w (w2.alloc x) := fun x => (below_step9 hb1 hb2 hb1.size).alloc (below_step9 hb1 hb2 hb1.size).size x
    go_wp2_with fail
    go_ret
    exact ⟨rfl, hbe _⟩
  · injection he with e1 e2 e3 e4 e5
    subst e1 e2 e3 e4 e5
    go_enter Tryd.func7, Tryd.ntmps7
    go_wp2_with fail
    refine ha.mono ?_
    rintro e w1 ⟨rfl, hb1⟩
    go_wp2_with fail
    refine (HL.out _ (H.invB hv hb1)).mono ?_
    rintro e w2 ⟨rfl, hb2⟩
    have hbe : ∀ x, Below w.heap.size w (w2.alloc x) := fun x => (below_step9 hb1 hb2 hb1.size).alloc (below_step9 hb1 hb2 hb1.size).size x
    go_wp2_with fail
    go_ret
    exact ⟨rfl, hbe _⟩
end
end Go.Proofs.YtkicenpcklknnaaDoor
