/-
  Stage 18, the document's style, walked: said.
-/
import Derived.Test.YthcafgningpdnaaDoorG31
import Derived.Test.YthcafgningpdnaaDoorG32
namespace Go.Proofs.YthcafgningpdnaaDoor
open Go.RowKit
theorem rparted_any (A : Option Addr) (p : List Int) (k c : Nat) (hk : p.length = k) (w : World) (hr : Rd w A (is_ p)) : Calls Tryd.prog 54 #[.slice A k c] w fun e w' => e = .returned (.int .i64 (partedY p)) ∧ Below w.heap.size w w' := by
 by_cases h3 : k = 3
 ·exact rparted3 A p k c hk w hr h3
 by_cases h6 : k = 6
 ·exact rparted6 A p k c hk w hr h6
 ·exact rpartedo A p k c hk w hr h3 h6
set_option maxRecDepth 100000 in
set_option maxHeartbeats 8000000 in
theorem rsaid_any (A : Option Addr) (a : Int) (r : List Int) (k c : Nat) (hk : (a :: r).length = k) (base : Int) (b0 : 0 ≤ base) (b1 : base ≤ 100) (ha : 0 < a) (ha1 : a ≤ 9223372036854775807) (w : World) (hr : Rd w A (is_ (a :: r))) : Calls Tryd.prog 48 #[.slice A k c, .int .i64 base] w fun e w' => e = .returned (.int .i64 (saidY (a :: r) a base)) ∧ Below w.heap.size w w' := by
 have hkp : (0 : Int) < (k : Int) := by simp at hk; omega
 have hka : 0 < k := by simp at hk; omega
 have HP := Lib.hid (fun W (hW : Below w.heap.size w W) => rparted_any A (a :: r) k c hk W (hr.below hW))
 obtain ⟨b, o, rfl, hb, hc⟩ := hr.int_at (by simp)
 have c0 : w.cell? ⟨b, o, none⟩ = some (.int .i64 a) := hc 0 (by simp)
 obtain ⟨d, hd⟩ : ∃ d, a - base = d := ⟨_, rfl⟩
 have HD := Lib.hid hd
 have e1 : IntKind.i64.wrap (a - base) = d := by rw [IntKind.wrap_i64]; omega
 have d1 : d ≤ 9223372036854775807 := by omega
 have d2 : -100 ≤ d := by omega
 have hS : ∀ z, (if 0 ≤ d ∧ d ≤ 7 then d else if d = 9 then -1 else if 60 ≤ d ∧ d ≤ 67 then d - 52 else if d = 8 then partedY (a :: r) else -2) = z → saidY (a :: r) a base = z := fun z hz => by
  unfold saidY
  rw [hd]
  exact hz
 have HS := Lib.hid hS
 clear hS hd hc hk hr b0 b1 ha ha1
 by_cases h0 : 0 ≤ d
 ·by_cases h1 : d ≤ 7
  ·have HL := Lib.hid (HS.out (d) (by rw [if_pos ⟨h0, h1⟩]))
   go_enter Tryd.func48, Tryd.ntmps48
   go_wp2_with fail
   go_ret
   exact ⟨ret_i HL.out.symm, Below.refl _ _⟩
  by_cases h2 : d = 9
  ·have HL := Lib.hid (HS.out (-1) (by rw [if_neg (by omega), if_pos h2]))
   subst h2
   go_enter Tryd.func48, Tryd.ntmps48
   go_wp2_with fail
   go_ret
   exact ⟨ret_i HL.out.symm, Below.refl _ _⟩
  by_cases h3 : 60 ≤ d
  ·by_cases h4 : d ≤ 67
   ·have HL := Lib.hid (HS.out (d - 52) (by rw [if_neg (by omega), if_neg h2, if_pos ⟨h3, h4⟩]))
    have e2 : IntKind.i64.wrap (d - 52) = d - 52 := by rw [IntKind.wrap_i64]; omega
    go_enter Tryd.func48, Tryd.ntmps48
    go_wp2_with fail
    go_ret
    exact ⟨ret_i HL.out.symm, Below.refl _ _⟩
   have HL := Lib.hid (HS.out (-2) (by rw [if_neg (by omega), if_neg h2, if_neg (by omega), if_neg (by omega)]))
   have h8 : ¬ (d = 8) := by omega
   go_enter Tryd.func48, Tryd.ntmps48
   go_wp2_with fail
   go_ret
   exact ⟨ret_i HL.out.symm, Below.refl _ _⟩
  by_cases h8 : d = 8
  ·have HL := Lib.hid (HS.out (partedY (a :: r)) (by rw [if_neg (by omega), if_neg h2, if_neg (by omega), if_pos h8]))
   subst h8
   go_enter Tryd.func48, Tryd.ntmps48
   go_wp2_with fail
   refine (HP.out _ (Below.refl _ _)).mono ?_
   rintro e w1 ⟨rfl, hb1⟩
   go_wp2_with fail
   go_ret
   exact ⟨ret_i HL.out.symm, hb1⟩
  have HL := Lib.hid (HS.out (-2) (by rw [if_neg (by omega), if_neg h2, if_neg (by omega), if_neg h8]))
  go_enter Tryd.func48, Tryd.ntmps48
  go_wp2_with fail
  go_ret
  exact ⟨ret_i HL.out.symm, Below.refl _ _⟩
 have h2 : ¬ (d = 9) := by omega
 have h3 : ¬ (60 ≤ d) := by omega
 have h8 : ¬ (d = 8) := by omega
 have HL := Lib.hid (HS.out (-2) (by rw [if_neg (by omega), if_neg h2, if_neg (by omega), if_neg h8]))
 go_enter Tryd.func48, Tryd.ntmps48
 go_wp2_with fail
 go_ret
 exact ⟨ret_i HL.out.symm, Below.refl _ _⟩
end Go.Proofs.YthcafgningpdnaaDoor
