/-
  Layer 13, walked: the document's Form, flag, keyed, astext, sent.
  Cut out of KitR. Layer 3, walked: the document's within and params. Layer 3, walked: the document's last and bare. Layer 10, walked: the document's Fold.
-/
import Derived.Test.YtceipblcdcgljaaGreatDoorG01
import Derived.Test.YtceipblcdcgljaaGreatDoorG02
import Derived.Test.YtceipblcdcgljaaGreatDoorG03
import Derived.Test.YtceipblcdcgljaaGreatDoorG04
import Derived.Test.YtceipblcdcgljaaGreatDoorG07
import Derived.Test.YtceipblcdcgljaaGreatDoorG09
import Derived.Test.YtceipblcdcgljaaGreatDoorG10
import Derived.Test.YtceipblcdcgljaaGreatDoorG11
import Derived.Test.YtceipblcdcgljaaGreatDoorG18
import Derived.Deep.Cut
import Derived.Deep.QuietTactic
import Derived.BigQuiet
namespace Go.Proofs.YtceipblcdcgljaaGreatDoor
open Go.RowKit
set_option maxRecDepth 100000 in
set_option maxHeartbeats 8000000 in
theorem rfrm_any (c : Int) (w : World) : Calls Tryz.prog 85 #[.int .i64 c] w fun e w' => e = .returned (frmV (frmK c)) ∧ Below w.heap.size w w' := by
 have hlk := rlook_any c w
 obtain ⟨⟨K, F, N, C, B⟩, hE⟩ : ∃ E, lookE c = E := ⟨_, rfl⟩
 have hv := frm_val hE
 rw [hE] at hlk
 obtain ⟨R, hR⟩ : ∃ R, frmK c = R := ⟨_, rfl⟩
 rw [hR] at hv ⊢
 have HV := Lib.hid hv
 clear hv hR hE
 have hlk2 : Calls Tryz.prog 22 #[.int .i64 c] w fun e w' => e = .returned (.agg #[.int .i64 K, .int .u8 F, .int .i64 N, .int .i64 C, .bool B]) ∧ Below w.heap.size w w' := hlk
 clear hlk
 go_enter Tryz.func85, Tryz.ntmps85
 go_wp2_with fail
 refine hlk2.mono ?_
 clear hlk2
 rintro e w1 ⟨rfl, hb1⟩
 have hB := hb1.alloc hb1.size (.cells #[.int .i64 K, .int .u8 F, .int .i64 N, .int .i64 C, .bool B] 53)
 have k0 := Blk.new w1 53 #[.int .i64 K, .int .u8 F, .int .i64 N, .int .i64 C, .bool B]
 clear hb1
 go_upto_region 2 with (fail)
 generalize hW : w1.alloc (.cells #[.int .i64 K, .int .u8 F, .int .i64 N, .int .i64 C, .bool B] 53) = W at *
 clear hW
 have a0 := k0.cell 0
 have a1 := k0.cell 1
 have a2 := k0.cell 2
 have a4 := k0.cell 4
 by_cases h0 : K = 0
 ·subst h0
  have HR := Lib.hid (show R = (0, 0) by rw [HV.out]; rfl)
  go_wp2_with fail
  go_ret2
  exact ⟨by rw [HR.out]; rfl, hB⟩
 have t0 : (K == 0) = false := beq_false_of_ne h0
 by_cases h1 : c = 57366
 ·have HR := Lib.hid (show R = (13, 126) by rw [HV.out, if_neg h0, if_pos h1])
  subst h1
  clear h0
  go_wp2_with fail
  go_ret2
  exact ⟨by rw [HR.out]; rfl, hB⟩
 have t1 : (c == 57366) = false := beq_false_of_ne h1
 by_cases h3 : K = 3
 ·subst h3
  cases B with
  | false =>
    have HR := Lib.hid (show R = (1, F) by rw [HV.out, if_neg h0, if_neg h1, if_pos ⟨rfl, rfl⟩])
    clear h0 h1
    go_wp2_with fail
    go_quiet (fail)
    go_wp2_with fail
    go_ret2
    exact ⟨by rw [HR.out]; rfl, below_drewN hB _⟩
  | true =>
    have HR := Lib.hid (show R = (c, 117) by rw [HV.out, if_neg h0, if_neg h1, if_neg (by simp), if_neg (by simp)])
    clear h0 h1
    go_wp2_with fail
    go_ret2
    exact ⟨by rw [HR.out]; rfl, hB⟩
 have t3 : (K == 3) = false := beq_false_of_ne h3
 by_cases h4 : K = 4
 ·subst h4
  cases B with
  | false =>
    have HR := Lib.hid (show R = (N, 126) by rw [HV.out, if_neg h0, if_neg h1, if_neg (by simp), if_pos ⟨rfl, rfl⟩])
    clear h0 h1 h3
    go_wp2_with fail
    go_ret2
    exact ⟨by rw [HR.out]; rfl, hB⟩
  | true =>
    have HR := Lib.hid (show R = (c, 117) by rw [HV.out, if_neg h0, if_neg h1, if_neg (by simp), if_neg (by simp)])
    clear h0 h1 h3
    go_wp2_with fail
    go_ret2
    exact ⟨by rw [HR.out]; rfl, hB⟩
 have t4 : (K == 4) = false := beq_false_of_ne h4
 have HR := Lib.hid (show R = (c, 117) by rw [HV.out, if_neg h0, if_neg h1, if_neg (fun e => h3 e.1), if_neg (fun e => h4 e.1)])
 clear h0 h1 h3 h4
 go_wp2_with fail
 go_ret2
 exact ⟨by rw [HR.out]; rfl, hB⟩
set_option maxRecDepth 100000 in
set_option maxHeartbeats 2000000 in
theorem within_str (s : ByteArray) (a b : Nat) (q : Bool) (w : World) (hl : s.size ≤ 4294967296) (hq : s.data.toList.all (btw a b) = q) :
 Calls Tryz.prog 121 #[.string s, .int .u8 a, .int .u8 b] w fun e w' => e = .returned (.bool q) ∧ w = w' := by
 have HQ := Lib.hid hq
 clear hq
 go_enter Tryz.func121, Tryz.ntmps121
 go_wp2
 go_loop [7] (fun i => ∃ k : Nat, k ≤ s.size ∧ i = .int .i64 k ∧ (s.data.toList.take k).all (btw a b) = true) (fun i => s.size - (intOf i).toNat)
 case atStart => exact ⟨0, Nat.zero_le _, rfl, rfl⟩
 case round =>
  obtain ⟨k, hk, rfl, hall⟩ := hrel
  have HA := Lib.hid hall
  clear hall
  by_cases hlt : k < s.size
  ·have hlt2 : k < s.data.toList.length := by simpa using hlt
   have hby := byte_at s k hlt
   have HB := Lib.hid hby
   have hd := (s[k]'hlt).toNat_lt
   have k0 : (0 : Int) ≤ (k : Int) := by omega
   have k1 : (k : Int) < (s.size : Int) := by omega
   clear hby
   by_cases h1 : (s[k]'hlt).toNat < a
   ·have E := Lib.hid (HQ.out.symm.trans (all_no (p := btw a b) hlt2 ((btw_no a b _).2 (by rw [← HB.out]; omega))))
    go_wp2
    go_ret
    exact ⟨ret_b E.out.symm, rfl⟩
   ·by_cases h2 : b < (s[k]'hlt).toNat
    ·have E := Lib.hid (HQ.out.symm.trans (all_no (p := btw a b) hlt2 ((btw_no a b _).2 (by rw [← HB.out]; omega))))
     go_wp2
     go_ret
     exact ⟨ret_b E.out.symm, rfl⟩
    ·have E := Lib.hid (show (s.data.toList.take (k + 1)).all (btw a b) = true by rw [List.take_succ_eq_append_getElem hlt2, List.all_append, HA.out, ← HB.out]; simp [(btw_iff a b _).2 ⟨Nat.le_of_not_lt h1, Nat.le_of_not_lt h2⟩])
     go_wp2
     go_round
     case rel => exact ⟨k + 1, by omega, by go_num, E.out⟩
     case measure => simp [intOf]; omega
  ·have E := Lib.hid (show q = true by have := HA.out; rw [List.take_of_length_le (by simp; omega)] at this; exact HQ.out.symm.trans this)
   go_wp2
   go_ret
   exact ⟨ret_b E.out.symm, rfl⟩
theorem within_any (l : List UInt8) (a b : Nat) (q : Bool) (w : World) (hl : l.length ≤ 4294967296) (hq : l.all (btw a b) = q) :
 Calls Tryz.prog 121 #[.string ⟨l.toArray⟩, .int .u8 a, .int .u8 b] w fun e w' => e = .returned (.bool q) ∧ w = w' := by
 exact within_str ⟨l.toArray⟩ a b q w hl hq
theorem part_no {p : List Int} {k : Nat} (hk : k < p.length) (h : ¬ (-1 ≤ p[k] ∧ p[k] ≤ 1114111)) : partB p = false := by
 unfold partB
 rw [show (p.all fun n => decide (-1 ≤ n) && decide (n ≤ 1114111)) = false from List.all_eq_false.2 ⟨_, List.getElem_mem hk, by simp; omega⟩, Bool.and_false]
set_option maxRecDepth 100000 in
set_option maxHeartbeats 4000000 in
theorem params_any (A : Option Addr) (c : Nat) (ps : List (List Int)) (q : Bool) (w : World) (hq : parOk ps = q) (hl : ps.length ≤ 4294967296) (hr : RdP w A ps) :
 Calls Tryz.prog 120 #[.slice A ps.length c] w fun e w' => e = .returned (.bool q) ∧ w = w' := by
 by_cases h16 : 16 < ps.length
 ·obtain rfl : false = q := (par_long h16).symm.trans hq
  clear hq
  go_enter Tryz.func120, Tryz.ntmps120
  go_wp2
  go_ret
  exact ⟨rfl, rfl⟩
 ·have HQ := Lib.hid hq
  clear hq
  have key : ps.length ≠ 1 ∨ ∃ (h : ps.length = 1), ((ps[0]'(by omega)).length ≠ 1 ∨ ∃ (h2 : (ps[0]'(by omega)).length = 1), ((ps[0]'(by omega))[0]'(by omega) ≠ -1 ∨ ps = [[-1]])) := by
   by_cases h1 : ps.length = 1
   ·refine .inr ⟨h1, ?_⟩
    match ps, h1 with
    | [p], _ =>
      by_cases h2 : p.length = 1
      ·refine .inr ⟨h2, ?_⟩
       match p, h2 with
       | [x], _ =>
         by_cases h3 : x = -1
         ·exact .inr (by rw [h3])
         ·exact .inl h3
      ·exact .inl h2
   ·exact .inl h1
  rcases key with h1 | ⟨h1, h2 | ⟨h2, h3 | h3⟩⟩
  ·have HNE := Lib.hid (show ps ≠ [[-1]] from fun e => h1 (by rw [e]; rfl))
   have t1 : ((ps.length : Int) == 1) = false := beq_false_of_ne (by omega)
   clear h1
   go_enter Tryz.func120, Tryz.ntmps120
   go_wp2
   go_loop [3] (fun i => ∃ k : Nat, k ≤ ps.length ∧ i = .int .i64 k ∧ (ps.take k).all partB = true) (fun i => ps.length - (intOf i).toNat)
   case atStart => exact ⟨0, Nat.zero_le _, rfl, rfl⟩
   case round =>
    obtain ⟨k, hk, rfl, hall⟩ := hrel
    have HA := Lib.hid hall
    clear hall
    by_cases hlt : k < ps.length
    ·obtain ⟨b, o, hA, hb, hcc⟩ := hr (by omega)
     cases hA
     obtain ⟨A', c', hck, hrk⟩ := hcc k hlt
     obtain ⟨n, hn⟩ : ∃ n, (ps[k]'hlt).length = n := ⟨_, rfl⟩
     rw [hn] at hck
     have HN := Lib.hid hn
     clear hn hcc
     by_cases hs : 1 ≤ n ∧ n ≤ 8
     ·obtain ⟨n1, n8⟩ := hs
      go_wp2
      go_loop [4] (fun i => ∃ j : Nat, j ≤ n ∧ i = .int .i64 j ∧ ((ps[k]'hlt).take j).all numOk = true) (fun i => n - (intOf i).toNat)
      case atStart => exact ⟨0, Nat.zero_le _, rfl, rfl⟩
      case round =>
       obtain ⟨j, hj, rfl, hall⟩ := hrel
       have HJ := Lib.hid hall
       clear hall
       by_cases hjl : j < n
       ·have hjl2 : j < (ps[k]'hlt).length := by rw [HN.out]; exact hjl
        obtain ⟨b2, o2, rfl, hb2, hc2⟩ := hrk.int_at (by omega)
        have hcj := hc2 j hjl2
        obtain ⟨x, hx⟩ : ∃ x, (ps[k]'hlt)[j]'hjl2 = x := ⟨_, rfl⟩
        rw [hx] at hcj
        have HX := Lib.hid hx
        clear hx hc2
        by_cases x0 : x < -1
        ·have E := Lib.hid (HQ.out.symm.trans (par_no hlt (part_no hjl2 (by rw [HX.out]; omega))))
         go_wp2
         go_ret
         exact ⟨ret_b E.out.symm, rfl⟩
        ·by_cases x1 : 1114111 < x
         ·have E := Lib.hid (HQ.out.symm.trans (par_no hlt (part_no hjl2 (by rw [HX.out]; omega))))
          go_wp2
          go_ret
          exact ⟨ret_b E.out.symm, rfl⟩
         ·have E := Lib.hid (show ((ps[k]'hlt).take (j + 1)).all numOk = true by rw [List.take_succ_eq_append_getElem hjl2, List.all_append, HJ.out, HX.out]; simp [(numOk_iff x).2 ⟨by omega, by omega⟩])
          go_wp2
          go_round
          case rel => exact ⟨j + 1, by omega, by go_num, E.out⟩
          case measure => simp [intOf]; omega
       ·have hP := partB_yes (p := ps[k]'hlt) (by rw [HN.out]; exact n1) (by rw [HN.out]; exact n8) (by have := HJ.out; rwa [List.take_of_length_le (by rw [HN.out]; omega)] at this)
        have E := Lib.hid (show (ps.take (k + 1)).all partB = true by rw [List.take_succ_eq_append_getElem hlt, List.all_append, HA.out]; simp [hP])
        clear hP
        go_wp2
        go_round
        case rel => exact ⟨k + 1, by omega, by go_num, by first | exact E.out | exact List.all_eq_true.1 E.out⟩
        case measure => simp [intOf]; omega
     ·have E := Lib.hid (HQ.out.symm.trans (par_no hlt (part_len (by rw [HN.out]; exact hs))))
      by_cases n0 : n < 1
      ·clear hs
       go_wp2
       go_ret
       exact ⟨ret_b E.out.symm, rfl⟩
      ·have n8 : 8 < n := by omega
       clear hs
       go_wp2
       go_ret
       exact ⟨ret_b E.out.symm, rfl⟩
    ·have E := Lib.hid (HQ.out.symm.trans (parOk_yes (by omega) HNE.out (by have := HA.out; rwa [List.take_of_length_le (by omega)] at this)))
     go_wp2
     go_ret
     exact ⟨ret_b E.out.symm, rfl⟩
  ·have HNE := Lib.hid (show ps ≠ [[-1]] from fun e => h2 (by subst e; rfl))
   obtain ⟨b0, o0, rfl, hb0, hcc0⟩ := hr (by omega)
   obtain ⟨A0, c0, hc0, _⟩ := hcc0 0 (by omega)
   obtain ⟨n0, hn0⟩ : ∃ n, (ps[0]'(by omega)).length = n := ⟨_, rfl⟩
   rw [hn0] at hc0 h2
   simp only [Nat.add_zero] at hc0
   have t0 : ((ps.length : Int) == 1) = true := beq_iff_eq.2 (by omega)
   have t1 : ((n0 : Int) == 1) = false := beq_false_of_ne (by omega)
   clear h2 hn0 hcc0
   go_enter Tryz.func120, Tryz.ntmps120
   go_wp2
   go_loop [3] (fun i => ∃ k : Nat, k ≤ ps.length ∧ i = .int .i64 k ∧ (ps.take k).all partB = true) (fun i => ps.length - (intOf i).toNat)
   case atStart => exact ⟨0, Nat.zero_le _, rfl, rfl⟩
   case round =>
    obtain ⟨k, hk, rfl, hall⟩ := hrel
    have HA := Lib.hid hall
    clear hall
    by_cases hlt : k < ps.length
    ·obtain ⟨b, o, hA, hb, hcc⟩ := hr (by omega)
     cases hA
     obtain ⟨A', c', hck, hrk⟩ := hcc k hlt
     obtain ⟨n, hn⟩ : ∃ n, (ps[k]'hlt).length = n := ⟨_, rfl⟩
     rw [hn] at hck
     have HN := Lib.hid hn
     clear hn hcc
     by_cases hs : 1 ≤ n ∧ n ≤ 8
     ·obtain ⟨n1, n8⟩ := hs
      go_wp2
      go_loop [4] (fun i => ∃ j : Nat, j ≤ n ∧ i = .int .i64 j ∧ ((ps[k]'hlt).take j).all numOk = true) (fun i => n - (intOf i).toNat)
      case atStart => exact ⟨0, Nat.zero_le _, rfl, rfl⟩
      case round =>
       obtain ⟨j, hj, rfl, hall⟩ := hrel
       have HJ := Lib.hid hall
       clear hall
       by_cases hjl : j < n
       ·have hjl2 : j < (ps[k]'hlt).length := by rw [HN.out]; exact hjl
        obtain ⟨b2, o2, rfl, hb2, hc2⟩ := hrk.int_at (by omega)
        have hcj := hc2 j hjl2
        obtain ⟨x, hx⟩ : ∃ x, (ps[k]'hlt)[j]'hjl2 = x := ⟨_, rfl⟩
        rw [hx] at hcj
        have HX := Lib.hid hx
        clear hx hc2
        by_cases x0 : x < -1
        ·have E := Lib.hid (HQ.out.symm.trans (par_no hlt (part_no hjl2 (by rw [HX.out]; omega))))
         go_wp2
         go_ret
         exact ⟨ret_b E.out.symm, rfl⟩
        ·by_cases x1 : 1114111 < x
         ·have E := Lib.hid (HQ.out.symm.trans (par_no hlt (part_no hjl2 (by rw [HX.out]; omega))))
          go_wp2
          go_ret
          exact ⟨ret_b E.out.symm, rfl⟩
         ·have E := Lib.hid (show ((ps[k]'hlt).take (j + 1)).all numOk = true by rw [List.take_succ_eq_append_getElem hjl2, List.all_append, HJ.out, HX.out]; simp [(numOk_iff x).2 ⟨by omega, by omega⟩])
          go_wp2
          go_round
          case rel => exact ⟨j + 1, by omega, by go_num, E.out⟩
          case measure => simp [intOf]; omega
       ·have hP := partB_yes (p := ps[k]'hlt) (by rw [HN.out]; exact n1) (by rw [HN.out]; exact n8) (by have := HJ.out; rwa [List.take_of_length_le (by rw [HN.out]; omega)] at this)
        have E := Lib.hid (show (ps.take (k + 1)).all partB = true by rw [List.take_succ_eq_append_getElem hlt, List.all_append, HA.out]; simp [hP])
        clear hP
        go_wp2
        go_round
        case rel => exact ⟨k + 1, by omega, by go_num, by first | exact E.out | exact List.all_eq_true.1 E.out⟩
        case measure => simp [intOf]; omega
     ·have E := Lib.hid (HQ.out.symm.trans (par_no hlt (part_len (by rw [HN.out]; exact hs))))
      by_cases n0 : n < 1
      ·clear hs
       go_wp2
       go_ret
       exact ⟨ret_b E.out.symm, rfl⟩
      ·have n8 : 8 < n := by omega
       clear hs
       go_wp2
       go_ret
       exact ⟨ret_b E.out.symm, rfl⟩
    ·have E := Lib.hid (HQ.out.symm.trans (parOk_yes (by omega) HNE.out (by have := HA.out; rwa [List.take_of_length_le (by omega)] at this)))
     go_wp2
     go_ret
     exact ⟨ret_b E.out.symm, rfl⟩
  ·have HNE := Lib.hid (show ps ≠ [[-1]] from fun e => h3 (by subst e; rfl))
   obtain ⟨b0, o0, rfl, hb0, hcc0⟩ := hr (by omega)
   obtain ⟨A0, c0, hc0, hr0⟩ := hcc0 0 (by omega)
   obtain ⟨b1, o1, rfl, hb1, hcc1⟩ := hr0.int_at (by omega)
   have hc1 := hcc1 0 (by omega)
   obtain ⟨x, hx⟩ : ∃ x, (ps[0]'(by omega))[0]'(by omega) = x := ⟨_, rfl⟩
   rw [h2] at hc0
   rw [hx] at hc1 h3
   simp only [Nat.add_zero] at hc0 hc1
   have t0 : ((ps.length : Int) == 1) = true := beq_iff_eq.2 (by omega)
   have t1 : (x == -1) = false := beq_false_of_ne h3
   clear h2 h3 hx hcc0 hcc1 hr0
   go_enter Tryz.func120, Tryz.ntmps120
   go_wp2
   go_loop [3] (fun i => ∃ k : Nat, k ≤ ps.length ∧ i = .int .i64 k ∧ (ps.take k).all partB = true) (fun i => ps.length - (intOf i).toNat)
   case atStart => exact ⟨0, Nat.zero_le _, rfl, rfl⟩
   case round =>
    obtain ⟨k, hk, rfl, hall⟩ := hrel
    have HA := Lib.hid hall
    clear hall
    by_cases hlt : k < ps.length
    ·obtain ⟨b, o, hA, hb, hcc⟩ := hr (by omega)
     cases hA
     obtain ⟨A', c', hck, hrk⟩ := hcc k hlt
     obtain ⟨n, hn⟩ : ∃ n, (ps[k]'hlt).length = n := ⟨_, rfl⟩
     rw [hn] at hck
     have HN := Lib.hid hn
     clear hn hcc
     by_cases hs : 1 ≤ n ∧ n ≤ 8
     ·obtain ⟨n1, n8⟩ := hs
      go_wp2
      go_loop [4] (fun i => ∃ j : Nat, j ≤ n ∧ i = .int .i64 j ∧ ((ps[k]'hlt).take j).all numOk = true) (fun i => n - (intOf i).toNat)
      case atStart => exact ⟨0, Nat.zero_le _, rfl, rfl⟩
      case round =>
       obtain ⟨j, hj, rfl, hall⟩ := hrel
       have HJ := Lib.hid hall
       clear hall
       by_cases hjl : j < n
       ·have hjl2 : j < (ps[k]'hlt).length := by rw [HN.out]; exact hjl
        obtain ⟨b2, o2, rfl, hb2, hc2⟩ := hrk.int_at (by omega)
        have hcj := hc2 j hjl2
        obtain ⟨x, hx⟩ : ∃ x, (ps[k]'hlt)[j]'hjl2 = x := ⟨_, rfl⟩
        rw [hx] at hcj
        have HX := Lib.hid hx
        clear hx hc2
        by_cases x0 : x < -1
        ·have E := Lib.hid (HQ.out.symm.trans (par_no hlt (part_no hjl2 (by rw [HX.out]; omega))))
         go_wp2
         go_ret
         exact ⟨ret_b E.out.symm, rfl⟩
        ·by_cases x1 : 1114111 < x
         ·have E := Lib.hid (HQ.out.symm.trans (par_no hlt (part_no hjl2 (by rw [HX.out]; omega))))
          go_wp2
          go_ret
          exact ⟨ret_b E.out.symm, rfl⟩
         ·have E := Lib.hid (show ((ps[k]'hlt).take (j + 1)).all numOk = true by rw [List.take_succ_eq_append_getElem hjl2, List.all_append, HJ.out, HX.out]; simp [(numOk_iff x).2 ⟨by omega, by omega⟩])
          go_wp2
          go_round
          case rel => exact ⟨j + 1, by omega, by go_num, E.out⟩
          case measure => simp [intOf]; omega
       ·have hP := partB_yes (p := ps[k]'hlt) (by rw [HN.out]; exact n1) (by rw [HN.out]; exact n8) (by have := HJ.out; rwa [List.take_of_length_le (by rw [HN.out]; omega)] at this)
        have E := Lib.hid (show (ps.take (k + 1)).all partB = true by rw [List.take_succ_eq_append_getElem hlt, List.all_append, HA.out]; simp [hP])
        clear hP
        go_wp2
        go_round
        case rel => exact ⟨k + 1, by omega, by go_num, by first | exact E.out | exact List.all_eq_true.1 E.out⟩
        case measure => simp [intOf]; omega
     ·have E := Lib.hid (HQ.out.symm.trans (par_no hlt (part_len (by rw [HN.out]; exact hs))))
      by_cases n0 : n < 1
      ·clear hs
       go_wp2
       go_ret
       exact ⟨ret_b E.out.symm, rfl⟩
      ·have n8 : 8 < n := by omega
       clear hs
       go_wp2
       go_ret
       exact ⟨ret_b E.out.symm, rfl⟩
    ·have E := Lib.hid (HQ.out.symm.trans (parOk_yes (by omega) HNE.out (by have := HA.out; rwa [List.take_of_length_le (by omega)] at this)))
     go_wp2
     go_ret
     exact ⟨ret_b E.out.symm, rfl⟩
  ·subst h3
   obtain rfl : false = q := HQ.out
   obtain ⟨b0, o0, rfl, hb0, hcc0⟩ := hr (by simp)
   obtain ⟨A0, c0, hc0, hr0⟩ := hcc0 0 (by simp)
   obtain ⟨b1, o1, rfl, hb1, hcc1⟩ := hr0.int_at (by simp)
   have hc1 := hcc1 0 (by simp)
   simp only [Nat.add_zero, List.getElem_cons_zero, List.length_cons, List.length_nil, Nat.zero_add] at hc0 hc1
   clear hcc0 hcc1 hr0
   go_enter Tryz.func120, Tryz.ntmps120
   go_wp2
   go_ret
   exact ⟨rfl, rfl⟩
set_option maxRecDepth 100000 in
set_option maxHeartbeats 4000000 in
theorem last_any (s : Sq) (A : Option Addr) (c : Nat) (q : Bool) (w : World) (hq : lastOk s = q) :
 Calls Tryz.prog 122 #[sqV s A c] w fun e w' => e = .returned (.bool q) ∧ Below w.heap.size w w' := by
 obtain ⟨q1, q5, q4, q0⟩ := last_q hq
 clear hq
 obtain ⟨k, pv, ps, it, f, d⟩ := s
 dsimp only at q1 q5 q4 q0
 have hf := f.toNat_lt
 obtain ⟨n, hn⟩ : ∃ n, f.toNat = n := ⟨_, rfl⟩
 rw [hn] at q1 q5 q4 hf
 unfold sqV
 dsimp only
 rw [hn]
 clear hn
 by_cases k1 : k = 1 ∨ k = 2 ∨ k = 3
 ·have E := Lib.hid (q1 k1)
  clear q1 q5 q4 q0
  rcases k1 with rfl | rfl | rfl
  all_goals
   go_enter Tryz.func122, Tryz.ntmps122
   go_wp2
   all_goals
    go_ret
    refine ⟨ret_b ?_, (Below.refl _ _).alloc (Nat.le_refl _) _⟩
    rw [E.out, Bool.eq_iff_iff]
    simp only [Bool.and_eq_true, decide_eq_true_eq, Bool.false_eq_true, false_iff]
    omega
 ·by_cases k5 : k = 5
  ·obtain ⟨e1, e2⟩ := q5 k5
   subst k5
   clear q1 q4 q0 k1 q5
   by_cases hr : n < 48 ∨ 126 < n
   ·have E := Lib.hid (e1 hr)
    clear e1 e2
    rcases hr with hr | hr
    all_goals
     go_enter Tryz.func122, Tryz.ntmps122
     go_wp2
     go_ret
     exact ⟨ret_b E.out.symm, (Below.refl _ _).alloc (Nat.le_refl _) _⟩
   ·have n0 : 48 ≤ n := by omega
    have n1 : n ≤ 126 := by omega
    obtain ⟨e3, e4⟩ := e2 n0 n1
    clear e1 e2 hr
    cases it with
    | cons x it =>
      have E := Lib.hid (e3 (by simp))
      clear e3 e4
      go_enter Tryz.func122, Tryz.ntmps122
      go_wp2
      go_ret
      exact ⟨ret_b E.out.symm, (Below.refl _ _).alloc (Nat.le_refl _) _⟩
    | nil =>
      have E := Lib.hid (e4 rfl)
      clear e3 e4
      go_enter Tryz.func122, Tryz.ntmps122
      go_wp2
      all_goals
       go_ret
       refine ⟨ret_b ?_, (Below.refl _ _).alloc (Nat.le_refl _) _⟩
       rw [E.out, Bool.eq_iff_iff]
       simp
       omega
  ·by_cases k4 : k = 4
   ·have E := Lib.hid (q4 k4)
    subst k4
    clear q1 q4 q0 k1 q5 k5
    go_enter Tryz.func122, Tryz.ntmps122
    go_wp2
    all_goals
     go_ret
     refine ⟨ret_b ?_, (Below.refl _ _).alloc (Nat.le_refl _) _⟩
     rw [E.out, Bool.eq_iff_iff]
     simp
   ·have E := Lib.hid (q0 (by omega))
    have t1 : (k == 1) = false := beq_false_of_ne (by omega)
    have t2 : (k == 2) = false := beq_false_of_ne (by omega)
    have t3 : (k == 3) = false := beq_false_of_ne (by omega)
    have t4 : (k == 4) = false := beq_false_of_ne k4
    have t5 : (k == 5) = false := beq_false_of_ne k5
    clear q1 q4 q0 k1 q5 k5 k4
    go_enter Tryz.func122, Tryz.ntmps122
    go_wp2
    go_ret
    exact ⟨ret_b E.out.symm, (Below.refl _ _).alloc (Nat.le_refl _) _⟩
set_option maxRecDepth 100000 in
set_option maxHeartbeats 4000000 in
theorem rfold_any (c : Int) (w : World) : Calls Tryz.prog 88 #[.int .i64 c] w fun e w' => e = .returned (.tuple #[.int .i64 (foldN c).1, .bool (foldN c).2]) ∧ Below w.heap.size w w' := by
 have hcut : (c ≤ 31) ∨ (32 ≤ c ∧ c ≤ 32) ∨ (33 ≤ c ∧ c ≤ 46) ∨ (47 ≤ c ∧ c ≤ 47) ∨ (48 ≤ c ∧ c ≤ 49) ∨ (50 ≤ c ∧ c ≤ 50) ∨ (51 ≤ c ∧ c ≤ 55) ∨ (56 ≤ c ∧ c ≤ 56) ∨ (57 ≤ c ∧ c ≤ 62) ∨ (63 ≤ c ∧ c ≤ 63) ∨ (64 ≤ c ∧ c ≤ 64) ∨ (65 ≤ c ∧ c ≤ 95) ∨ (96 ≤ c ∧ c ≤ 96) ∨ (97 ≤ c ∧ c ≤ 122) ∨ (123 ≤ c) := by omega
 rcases hcut with h | h | h | h | h | h | h | h | h | h | h | h | h | h | h
 ·have HE := Lib.hid (show foldN c = (0, false) by unfold foldN; (repeat' split) <;> first | rfl | (exfalso; omega))
  rw [HE.out]
  have e32 : (c == 32) = false := by simp; omega
  have e50 : (c == 50) = false := by simp; omega
  have e64 : (c == 64) = false := by simp; omega
  have e47 : (c == 47) = false := by simp; omega
  have e56 : (c == 56) = false := by simp; omega
  have e63 : (c == 63) = false := by simp; omega
  have l97 : c < 97 := by omega
  have l122 : c ≤ 122 := by omega
  have l65 : c < 65 := by omega
  have l95 : c ≤ 95 := by omega
  have l51 : c < 51 := by omega
  have l55 : c ≤ 55 := by omega
  clear HE h
  go_enter Tryz.func88, Tryz.ntmps88
  go_wp2
  go_ret2
  exact ⟨rfl, by first | exact Below.refl _ _ | exact below_drewN (Below.refl _ _) _⟩
 ·have HE := Lib.hid (show foldN c = (0, true) by unfold foldN; (repeat' split) <;> first | rfl | (exfalso; omega))
  rw [HE.out]
  obtain rfl : c = 32 := by omega
  clear HE h
  go_enter Tryz.func88, Tryz.ntmps88
  go_wp2
  go_ret2
  exact ⟨rfl, by first | exact Below.refl _ _ | exact below_drewN (Below.refl _ _) _⟩
 ·have HE := Lib.hid (show foldN c = (0, false) by unfold foldN; (repeat' split) <;> first | rfl | (exfalso; omega))
  rw [HE.out]
  have e32 : (c == 32) = false := by simp; omega
  have e50 : (c == 50) = false := by simp; omega
  have e64 : (c == 64) = false := by simp; omega
  have e47 : (c == 47) = false := by simp; omega
  have e56 : (c == 56) = false := by simp; omega
  have e63 : (c == 63) = false := by simp; omega
  have l97 : c < 97 := by omega
  have l122 : c ≤ 122 := by omega
  have l65 : c < 65 := by omega
  have l95 : c ≤ 95 := by omega
  have l51 : c < 51 := by omega
  have l55 : c ≤ 55 := by omega
  clear HE h
  go_enter Tryz.func88, Tryz.ntmps88
  go_wp2
  go_ret2
  exact ⟨rfl, by first | exact Below.refl _ _ | exact below_drewN (Below.refl _ _) _⟩
 ·have HE := Lib.hid (show foldN c = (31, true) by unfold foldN; (repeat' split) <;> first | rfl | (exfalso; omega))
  rw [HE.out]
  obtain rfl : c = 47 := by omega
  clear HE h
  go_enter Tryz.func88, Tryz.ntmps88
  go_wp2
  go_ret2
  exact ⟨rfl, by first | exact Below.refl _ _ | exact below_drewN (Below.refl _ _) _⟩
 ·have HE := Lib.hid (show foldN c = (0, false) by unfold foldN; (repeat' split) <;> first | rfl | (exfalso; omega))
  rw [HE.out]
  have e32 : (c == 32) = false := by simp; omega
  have e50 : (c == 50) = false := by simp; omega
  have e64 : (c == 64) = false := by simp; omega
  have e47 : (c == 47) = false := by simp; omega
  have e56 : (c == 56) = false := by simp; omega
  have e63 : (c == 63) = false := by simp; omega
  have l97 : c < 97 := by omega
  have l122 : c ≤ 122 := by omega
  have l65 : c < 65 := by omega
  have l95 : c ≤ 95 := by omega
  have l51 : c < 51 := by omega
  have l55 : c ≤ 55 := by omega
  clear HE h
  go_enter Tryz.func88, Tryz.ntmps88
  go_wp2
  go_ret2
  exact ⟨rfl, by first | exact Below.refl _ _ | exact below_drewN (Below.refl _ _) _⟩
 ·have HE := Lib.hid (show foldN c = (0, true) by unfold foldN; (repeat' split) <;> first | rfl | (exfalso; omega))
  rw [HE.out]
  obtain rfl : c = 50 := by omega
  clear HE h
  go_enter Tryz.func88, Tryz.ntmps88
  go_wp2
  go_ret2
  exact ⟨rfl, by first | exact Below.refl _ _ | exact below_drewN (Below.refl _ _) _⟩
 ·have HE := Lib.hid (show foldN c = (27 + c - 51, true) by unfold foldN; (repeat' split) <;> first | rfl | (exfalso; omega))
  rw [HE.out]
  have e32 : (c == 32) = false := by simp; omega
  have e50 : (c == 50) = false := by simp; omega
  have e64 : (c == 64) = false := by simp; omega
  have e47 : (c == 47) = false := by simp; omega
  have e56 : (c == 56) = false := by simp; omega
  have e63 : (c == 63) = false := by simp; omega
  have l97 : c < 97 := by omega
  have l122 : c ≤ 122 := by omega
  have l65 : c < 65 := by omega
  have l95 : c ≤ 95 := by omega
  have l51 : 51 ≤ c := by omega
  have l55 : c ≤ 55 := by omega
  clear HE h
  go_enter Tryz.func88, Tryz.ntmps88
  go_wp2
  go_ret2
  exact ⟨rfl, by first | exact Below.refl _ _ | exact below_drewN (Below.refl _ _) _⟩
 ·have HE := Lib.hid (show foldN c = (127, true) by unfold foldN; (repeat' split) <;> first | rfl | (exfalso; omega))
  rw [HE.out]
  obtain rfl : c = 56 := by omega
  clear HE h
  go_enter Tryz.func88, Tryz.ntmps88
  go_wp2
  go_ret2
  exact ⟨rfl, by first | exact Below.refl _ _ | exact below_drewN (Below.refl _ _) _⟩
 ·have HE := Lib.hid (show foldN c = (0, false) by unfold foldN; (repeat' split) <;> first | rfl | (exfalso; omega))
  rw [HE.out]
  have e32 : (c == 32) = false := by simp; omega
  have e50 : (c == 50) = false := by simp; omega
  have e64 : (c == 64) = false := by simp; omega
  have e47 : (c == 47) = false := by simp; omega
  have e56 : (c == 56) = false := by simp; omega
  have e63 : (c == 63) = false := by simp; omega
  have l97 : c < 97 := by omega
  have l122 : c ≤ 122 := by omega
  have l65 : c < 65 := by omega
  have l95 : c ≤ 95 := by omega
  have l51 : 51 ≤ c := by omega
  have l55 : 55 < c := by omega
  clear HE h
  go_enter Tryz.func88, Tryz.ntmps88
  go_wp2
  go_ret2
  exact ⟨rfl, by first | exact Below.refl _ _ | exact below_drewN (Below.refl _ _) _⟩
 ·have HE := Lib.hid (show foldN c = (127, true) by unfold foldN; (repeat' split) <;> first | rfl | (exfalso; omega))
  rw [HE.out]
  obtain rfl : c = 63 := by omega
  clear HE h
  go_enter Tryz.func88, Tryz.ntmps88
  go_wp2
  go_ret2
  exact ⟨rfl, by first | exact Below.refl _ _ | exact below_drewN (Below.refl _ _) _⟩
 ·have HE := Lib.hid (show foldN c = (0, true) by unfold foldN; (repeat' split) <;> first | rfl | (exfalso; omega))
  rw [HE.out]
  obtain rfl : c = 64 := by omega
  clear HE h
  go_enter Tryz.func88, Tryz.ntmps88
  go_wp2
  go_ret2
  exact ⟨rfl, by first | exact Below.refl _ _ | exact below_drewN (Below.refl _ _) _⟩
 ·have HE := Lib.hid (show foldN c = (c - 64, true) by unfold foldN; (repeat' split) <;> first | rfl | (exfalso; omega))
  rw [HE.out]
  have e32 : (c == 32) = false := by simp; omega
  have e50 : (c == 50) = false := by simp; omega
  have e64 : (c == 64) = false := by simp; omega
  have e47 : (c == 47) = false := by simp; omega
  have e56 : (c == 56) = false := by simp; omega
  have e63 : (c == 63) = false := by simp; omega
  have l97 : c < 97 := by omega
  have l122 : c ≤ 122 := by omega
  have l65 : 65 ≤ c := by omega
  have l95 : c ≤ 95 := by omega
  have l51 : 51 ≤ c := by omega
  have l55 : 55 < c := by omega
  clear HE h
  go_enter Tryz.func88, Tryz.ntmps88
  go_wp2
  go_ret2
  exact ⟨rfl, by first | exact Below.refl _ _ | exact below_drewN (Below.refl _ _) _⟩
 ·have HE := Lib.hid (show foldN c = (0, false) by unfold foldN; (repeat' split) <;> first | rfl | (exfalso; omega))
  rw [HE.out]
  obtain rfl : c = 96 := by omega
  clear HE h
  go_enter Tryz.func88, Tryz.ntmps88
  go_wp2
  go_ret2
  exact ⟨rfl, by first | exact Below.refl _ _ | exact below_drewN (Below.refl _ _) _⟩
 ·have HE := Lib.hid (show foldN c = (c - 96, true) by unfold foldN; (repeat' split) <;> first | rfl | (exfalso; omega))
  rw [HE.out]
  have e32 : (c == 32) = false := by simp; omega
  have e50 : (c == 50) = false := by simp; omega
  have e64 : (c == 64) = false := by simp; omega
  have e47 : (c == 47) = false := by simp; omega
  have e56 : (c == 56) = false := by simp; omega
  have e63 : (c == 63) = false := by simp; omega
  have l97 : 97 ≤ c := by omega
  have l122 : c ≤ 122 := by omega
  have l65 : 65 ≤ c := by omega
  have l95 : 95 < c := by omega
  have l51 : 51 ≤ c := by omega
  have l55 : 55 < c := by omega
  clear HE h
  go_enter Tryz.func88, Tryz.ntmps88
  go_wp2
  go_ret2
  exact ⟨rfl, by first | exact Below.refl _ _ | exact below_drewN (Below.refl _ _) _⟩
 ·have HE := Lib.hid (show foldN c = (0, false) by unfold foldN; (repeat' split) <;> first | rfl | (exfalso; omega))
  rw [HE.out]
  have e32 : (c == 32) = false := by simp; omega
  have e50 : (c == 50) = false := by simp; omega
  have e64 : (c == 64) = false := by simp; omega
  have e47 : (c == 47) = false := by simp; omega
  have e56 : (c == 56) = false := by simp; omega
  have e63 : (c == 63) = false := by simp; omega
  have l97 : 97 ≤ c := by omega
  have l122 : 122 < c := by omega
  have l65 : 65 ≤ c := by omega
  have l95 : 95 < c := by omega
  have l51 : 51 ≤ c := by omega
  have l55 : 55 < c := by omega
  clear HE h
  go_enter Tryz.func88, Tryz.ntmps88
  go_wp2
  go_ret2
  exact ⟨rfl, by first | exact Below.refl _ _ | exact below_drewN (Below.refl _ _) _⟩
end Go.Proofs.YtceipblcdcgljaaGreatDoor
