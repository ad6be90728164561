/-
  Stage 18, the landed style, walked: colourOf.
-/
import Derived.Test.YthcafgningpdnaaDoorG09
import Derived.Test.YthcafgningpdnaaDoorG10
namespace Go.Proofs.YthcafgningpdnaaDoor
open Go.RowKit
theorem sanyOf_any (A : Option Addr) (f : List Int) (k c : Nat) (hk : f.length = k) (t : Int) (w : World) (hr : Rd w A (is_ f)) : Calls Tryd.prog 53 #[.slice A k c, .int .i64 t] w fun e w' => e = .returned (.int .i64 (anyL f t)) ∧ Below w.heap.size w w' := by
 by_cases h2 : k = 2
 ·exact sany2 A f k c hk t w hr h2
 by_cases h3 : k = 5
 ·exact sany5 A f k c hk t w hr h3
 ·exact sanyo A f k c hk t w hr h2 h3
set_option maxRecDepth 100000 in
set_option maxHeartbeats 8000000 in
theorem scolourOf_any (n : Int) (hn : in18 n) (A : Option Addr) (p : List Int) (k c : Nat) (hk : p.length = k) (hc : k ≤ c) (t : Int) (h38 : n = 38 → 1 ≤ k) (w : World) (hr : Rd w A (is_ p)) : Calls Tryd.prog 46 #[.int .i64 n, .slice A k c, .int .i64 t] w fun e w' => e = .returned (.int .i64 (colL n p t)) ∧ Below w.heap.size w w' := by
 obtain ⟨n0, n1⟩ := hn
 by_cases h1 : 30 ≤ n
 ·by_cases h2 : n ≤ 37
  ·have HL := Lib.hid (show colL n p t = n - 30 by unfold colL; rw [if_pos ⟨h1, h2⟩])
   have e1 : IntKind.i64.wrap (n - 30) = n - 30 := by rw [IntKind.wrap_i64]; omega
   clear hk hc h38 hr n0 n1
   go_enter Tryd.func46, Tryd.ntmps46
   go_wp2_with fail
   go_ret
   exact ⟨ret_i HL.out.symm, Below.refl _ _⟩
  by_cases h3 : 90 ≤ n
  ·by_cases h4 : n ≤ 97
   ·have HL := Lib.hid (show colL n p t = n - 90 + 8 by unfold colL; rw [if_neg (by omega), if_pos ⟨h3, h4⟩])
    have e1 : IntKind.i64.wrap (n - 90) = n - 90 := by rw [IntKind.wrap_i64]; omega
    have e2 : IntKind.i64.wrap (n - 90 + 8) = n - 90 + 8 := by rw [IntKind.wrap_i64]; omega
    clear hk hc h38 hr n0 n1
    go_enter Tryd.func46, Tryd.ntmps46
    go_wp2_with fail
    go_ret
    exact ⟨ret_i HL.out.symm, Below.refl _ _⟩
   ·have HL := Lib.hid (show colL n p t = t by unfold colL; rw [if_neg (by omega), if_neg (by omega), if_neg (by omega), if_neg (by omega)])
    have f1 : ¬ (n = 39) := by omega
    have f2 : ¬ (n = 38) := by omega
    clear hk hc h38 hr n0 n1
    go_enter Tryd.func46, Tryd.ntmps46
    go_wp2_with fail
    go_ret
    exact ⟨ret_i HL.out.symm, Below.refl _ _⟩
  by_cases h5 : n = 39
  ·subst h5
   have HL := Lib.hid (show colL 39 p t = -1 from rfl)
   clear hk hc h38 hr n0 n1
   go_enter Tryd.func46, Tryd.ntmps46
   go_wp2_with fail
   go_ret
   exact ⟨ret_i HL.out.symm, Below.refl _ _⟩
  by_cases h6 : n = 38
  ·subst h6
   have hk1 := h38 rfl
   obtain ⟨D, hD⟩ : ∃ D, p.drop 1 = D := ⟨_, rfl⟩
   have HL := Lib.hid (show colL 38 p t = anyL D t by rw [← hD]; rfl)
   obtain ⟨A', hcut, hrd⟩ := cutl_run (P := Tryd.prog) (T := 35) (e := 3) rfl Tryd.underlying35 (fun w => rfl) A k c 1 hk1 hc
   replace hcut : ∀ w : World, (Instr.slice 35 (.slice A k c) (some (.int .i64 1)) none none).run Tryd.prog w = .ok (.slice A' (k - 1) (c - 1)) w := hcut
   have hr' : Rd w A' (is_ D) := by
    have := (hrd (fun _ => False) w (is_ p) (by rw [is_length, hk]) (RdOff.of_rdIn (RdIn.of hr) (Nat.le_refl _) (fun k hk => hk.elim))).rd
    rwa [show (is_ p).drop 1 = is_ (p.drop 1) from List.map_drop.symm, hD] at this
   have HK := Lib.hid (show D.length = k - 1 by rw [← hD, List.length_drop, hk])
   clear hk hc h38 hr n0 n1 hrd hD
   go_enter Tryd.func46, Tryd.ntmps46
   go_wp2_with fail
   refine (sanyOf_any A' D _ _ HK.out t _ hr').mono ?_
   rintro e w1 ⟨rfl, hb1⟩
   go_wp2_with fail
   go_ret
   exact ⟨ret_i HL.out.symm, hb1⟩
  have HL := Lib.hid (show colL n p t = t by unfold colL; rw [if_neg (by omega), if_neg (by omega), if_neg (by omega), if_neg (by omega)])
  clear hk hc h38 hr n0 n1
  go_enter Tryd.func46, Tryd.ntmps46
  go_wp2_with fail
  go_ret
  exact ⟨ret_i HL.out.symm, Below.refl _ _⟩
 have HL := Lib.hid (show colL n p t = t by unfold colL; rw [if_neg (by omega), if_neg (by omega), if_neg (by omega), if_neg (by omega)])
 have f1 : ¬ (n = 39) := by omega
 have f2 : ¬ (n = 38) := by omega
 have f3 : ¬ (90 ≤ n) := by omega
 clear hk hc h38 hr n0 n1
 go_enter Tryd.func46, Tryd.ntmps46
 go_wp2_with fail
 go_ret
 exact ⟨ret_i HL.out.symm, Below.refl _ _⟩
end Go.Proofs.YthcafgningpdnaaDoor
