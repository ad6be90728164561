/-
  Layer 3, walked: the document's bare.
-/
import Derived.Test.YtkkjahhilcjpgaaDoorG38
namespace Go.Proofs.YtkkjahhilcjpgaaDoor
open Go.RowKit
set_option maxRecDepth 100000 in
set_option maxHeartbeats 4000000 in
theorem bare_any (s : Sq) (A : Option Addr) (c : Nat) (q : Bool) (w : World) (hq : bareOk s = q) :
 Calls Tryd.prog 31 #[sqV s A c] w fun e w' => e = .returned (.bool q) ∧ Below w.heap.size w w' := by
 obtain ⟨k, pv, ps, it, f, d⟩ := s
 unfold sqV
 dsimp only
 have key : (k = 2 ∨ k = 4 ∨ k = 5) ∧ pv ≠ 0 ∧ q = false ∨ (k = 2 ∨ k = 4 ∨ k = 5) ∧ pv = 0 ∧ ps ≠ [] ∧ q = false ∨ (k = 2 ∨ k = 4) ∧ pv = 0 ∧ ps = [] ∧ it ≠ [] ∧ q = false ∨
  (k = 2 ∧ pv = 0 ∧ ps = [] ∧ it = [] ∨ k = 5 ∧ pv = 0 ∧ ps = []) ∧ q = decide (d = []) ∨ k = 4 ∧ pv = 0 ∧ ps = [] ∧ it = [] ∧ q = true ∨ k = 3 ∧ q = true ∨ (k ≠ 2 ∧ k ≠ 3 ∧ k ≠ 4 ∧ k ≠ 5) ∧ q = decide (d = []) := by
  subst hq
  unfold bareOk
  dsimp only
  by_cases k2 : k = 2
  ·subst k2
   by_cases h1 : pv = 0 <;> by_cases h2 : ps = [] <;> by_cases h3 : it = [] <;> simp [h1, h2, h3]
  ·by_cases k4 : k = 4
   ·subst k4
    by_cases h1 : pv = 0 <;> by_cases h2 : ps = [] <;> by_cases h3 : it = [] <;> simp [h1, h2, h3]
   ·by_cases k5 : k = 5
    ·subst k5
     by_cases h1 : pv = 0 <;> by_cases h2 : ps = [] <;> simp [h1, h2]
    ·by_cases k3 : k = 3
     ·subst k3; simp
     ·simp [k2, k3, k4, k5]
 clear hq
 rcases key with ⟨hk, hp, rfl⟩ | ⟨hk, rfl, hp, rfl⟩ | ⟨hk, rfl, rfl, hi, rfl⟩ | ⟨⟨rfl, rfl, rfl, rfl⟩ | ⟨rfl, rfl, rfl⟩, hq⟩ | ⟨rfl, rfl, rfl, rfl, rfl⟩ | ⟨rfl, rfl⟩ | ⟨⟨k2, k3, k4, k5⟩, hq⟩
 ·have hn : pv.toNat ≠ 0 := fun e => hp (UInt8.toNat_inj.1 e)
  have t1 : ((pv.toNat : Int) == 0) = false := beq_false_of_ne (by omega)
  have t2 : ((pv.toNat : Int) != 0) = true := by simp [bne, t1]
  clear hp
  rcases hk with rfl | rfl | rfl
  all_goals
   go_enter Tryd.func31, Tryd.ntmps31
   go_wp2
   go_ret
   exact ⟨rfl, (Below.refl _ _).alloc (Nat.le_refl _) _⟩
 ·have hn : 0 < ps.length := List.length_pos_iff.2 hp
  have hn2 : (0 : Int) < (ps.length : Int) := by omega
  clear hp
  rcases hk with rfl | rfl | rfl
  all_goals
   go_enter Tryd.func31, Tryd.ntmps31
   go_wp2
   go_ret
   exact ⟨rfl, (Below.refl _ _).alloc (Nat.le_refl _) _⟩
 ·cases it with
  | nil => exact absurd rfl hi
  | cons x it =>
    clear hi
    rcases hk with rfl | rfl
    all_goals
     go_enter Tryd.func31, Tryd.ntmps31
     go_wp2
     go_ret
     exact ⟨rfl, (Below.refl _ _).alloc (Nat.le_refl _) _⟩
 ·cases d with
  | nil =>
    obtain rfl : true = q := hq.symm
    clear hq
    go_enter Tryd.func31, Tryd.ntmps31
    go_wp2
    go_ret
    exact ⟨rfl, (Below.refl _ _).alloc (Nat.le_refl _) _⟩
  | cons x d =>
    obtain rfl : false = q := hq.symm
    clear hq
    go_enter Tryd.func31, Tryd.ntmps31
    go_wp2
    go_ret
    exact ⟨rfl, (Below.refl _ _).alloc (Nat.le_refl _) _⟩
 ·cases d with
  | nil =>
    obtain rfl : true = q := hq.symm
    clear hq
    go_enter Tryd.func31, Tryd.ntmps31
    go_wp2
    go_ret
    exact ⟨rfl, (Below.refl _ _).alloc (Nat.le_refl _) _⟩
  | cons x d =>
    obtain rfl : false = q := hq.symm
    clear hq
    go_enter Tryd.func31, Tryd.ntmps31
    go_wp2
    go_ret
    exact ⟨rfl, (Below.refl _ _).alloc (Nat.le_refl _) _⟩
 ·cases d
  all_goals
   go_enter Tryd.func31, Tryd.ntmps31
   go_wp2
   go_ret
   exact ⟨rfl, (Below.refl _ _).alloc (Nat.le_refl _) _⟩
 ·cases d
  all_goals
   go_enter Tryd.func31, Tryd.ntmps31
   go_wp2
   go_ret
   exact ⟨rfl, (Below.refl _ _).alloc (Nat.le_refl _) _⟩
 ·have t2 : (k == 2) = false := beq_false_of_ne k2
  have t3 : (k == 3) = false := beq_false_of_ne k3
  have t4 : (k == 4) = false := beq_false_of_ne k4
  have t5 : (k == 5) = false := beq_false_of_ne k5
  clear k2 k3 k4 k5
  cases d with
  | nil =>
    obtain rfl : true = q := hq.symm
    clear hq
    go_enter Tryd.func31, Tryd.ntmps31
    go_wp2
    go_ret
    exact ⟨rfl, (Below.refl _ _).alloc (Nat.le_refl _) _⟩
  | cons x d =>
    obtain rfl : false = q := hq.symm
    clear hq
    go_enter Tryd.func31, Tryd.ntmps31
    go_wp2
    go_ret
    exact ⟨rfl, (Below.refl _ _).alloc (Nat.le_refl _) _⟩
end Go.Proofs.YtkkjahhilcjpgaaDoor
