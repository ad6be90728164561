/-
  Layer 3, walked: the document's within and params.
-/
import Derived.Test.YtkkjahhilcjpgaaDoorG02
import Derived.Test.YtkkjahhilcjpgaaDoorG13
import Derived.Test.YtkkjahhilcjpgaaDoorG14
namespace Go.Proofs.YtkkjahhilcjpgaaDoor
open Go.RowKit
set_option maxRecDepth 100000 in
set_option maxHeartbeats 2000000 in
theorem within_str (s : ByteArray) (a b : Nat) (q : Bool) (w : World) (hl : s.size ≤ 4294967296) (hq : s.data.toList.all (btw a b) = q) :
 Calls Tryd.prog 29 #[.string s, .int .u8 a, .int .u8 b] w fun e w' => e = .returned (.bool q) ∧ w = w' := by
 have HQ := Lib.hid hq
 clear hq
 go_enter Tryd.func29, Tryd.ntmps29
 go_wp2
 go_loop [7] (fun i => ∃ k : Nat, k ≤ s.size ∧ i = .int .i64 k ∧ (s.data.toList.take k).all (btw a b) = true) (fun i => s.size - (intOf i).toNat)
 case atStart => exact ⟨0, Nat.zero_le _, rfl, rfl⟩
 case round =>
  obtain ⟨k, hk, rfl, hall⟩ := hrel
  have HA := Lib.hid hall
  clear hall
  by_cases hlt : k < s.size
  ·have hlt2 : k < s.data.toList.length := by simpa using hlt
   have hby := byte_at s k hlt
   have HB := Lib.hid hby
   have hd := (s[k]'hlt).toNat_lt
   have k0 : (0 : Int) ≤ (k : Int) := by omega
   have k1 : (k : Int) < (s.size : Int) := by omega
   clear hby
   by_cases h1 : (s[k]'hlt).toNat < a
   ·have E := Lib.hid (HQ.out.symm.trans (all_no (p := btw a b) hlt2 ((btw_no a b _).2 (by rw [← HB.out]; omega))))
    go_wp2
    go_ret
    exact ⟨ret_b E.out.symm, rfl⟩
   ·by_cases h2 : b < (s[k]'hlt).toNat
    ·have E := Lib.hid (HQ.out.symm.trans (all_no (p := btw a b) hlt2 ((btw_no a b _).2 (by rw [← HB.out]; omega))))
     go_wp2
     go_ret
     exact ⟨ret_b E.out.symm, rfl⟩
    ·have E := Lib.hid (show (s.data.toList.take (k + 1)).all (btw a b) = true by rw [List.take_succ_eq_append_getElem hlt2, List.all_append, HA.out, ← HB.out]; simp [(btw_iff a b _).2 ⟨Nat.le_of_not_lt h1, Nat.le_of_not_lt h2⟩])
     go_wp2
     go_round
     case rel => exact ⟨k + 1, by omega, by go_num, E.out⟩
     case measure => simp [intOf]; omega
  ·have E := Lib.hid (show q = true by have := HA.out; rw [List.take_of_length_le (by simp; omega)] at this; exact HQ.out.symm.trans this)
   go_wp2
   go_ret
   exact ⟨ret_b E.out.symm, rfl⟩
theorem within_any (l : List UInt8) (a b : Nat) (q : Bool) (w : World) (hl : l.length ≤ 4294967296) (hq : l.all (btw a b) = q) :
 Calls Tryd.prog 29 #[.string ⟨l.toArray⟩, .int .u8 a, .int .u8 b] w fun e w' => e = .returned (.bool q) ∧ w = w' := by
 exact within_str ⟨l.toArray⟩ a b q w hl hq
theorem part_no {p : List Int} {k : Nat} (hk : k < p.length) (h : ¬ (-1 ≤ p[k] ∧ p[k] ≤ 1114111)) : partB p = false := by
 unfold partB
 rw [show (p.all fun n => decide (-1 ≤ n) && decide (n ≤ 1114111)) = false from List.all_eq_false.2 ⟨_, List.getElem_mem hk, by simp; omega⟩, Bool.and_false]
set_option maxRecDepth 100000 in
set_option maxHeartbeats 4000000 in
theorem params_any (A : Option Addr) (c : Nat) (ps : List (List Int)) (q : Bool) (w : World) (hq : parOk ps = q) (hl : ps.length ≤ 4294967296) (hr : RdP w A ps) :
 Calls Tryd.prog 28 #[.slice A ps.length c] w fun e w' => e = .returned (.bool q) ∧ w = w' := by
 by_cases h16 : 16 < ps.length
 ·obtain rfl : false = q := (par_long h16).symm.trans hq
  clear hq
  go_enter Tryd.func28, Tryd.ntmps28
  go_wp2
  go_ret
  exact ⟨rfl, rfl⟩
 ·have HQ := Lib.hid hq
  clear hq
  have key : ps.length ≠ 1 ∨ ∃ (h : ps.length = 1), ((ps[0]'(by omega)).length ≠ 1 ∨ ∃ (h2 : (ps[0]'(by omega)).length = 1), ((ps[0]'(by omega))[0]'(by omega) ≠ -1 ∨ ps = [[-1]])) := by
   by_cases h1 : ps.length = 1
   ·refine .inr ⟨h1, ?_⟩
    match ps, h1 with
    | [p], _ =>
      by_cases h2 : p.length = 1
      ·refine .inr ⟨h2, ?_⟩
       match p, h2 with
       | [x], _ =>
         by_cases h3 : x = -1
         ·exact .inr (by rw [h3])
         ·exact .inl h3
      ·exact .inl h2
   ·exact .inl h1
  rcases key with h1 | ⟨h1, h2 | ⟨h2, h3 | h3⟩⟩
  ·have HNE := Lib.hid (show ps ≠ [[-1]] from fun e => h1 (by rw [e]; rfl))
   have t1 : ((ps.length : Int) == 1) = false := beq_false_of_ne (by omega)
   clear h1
   go_enter Tryd.func28, Tryd.ntmps28
   go_wp2
   go_loop [3] (fun i => ∃ k : Nat, k ≤ ps.length ∧ i = .int .i64 k ∧ (ps.take k).all partB = true) (fun i => ps.length - (intOf i).toNat)
   case atStart => exact ⟨0, Nat.zero_le _, rfl, rfl⟩
   case round =>
    obtain ⟨k, hk, rfl, hall⟩ := hrel
    have HA := Lib.hid hall
    clear hall
    by_cases hlt : k < ps.length
    ·obtain ⟨b, o, hA, hb, hcc⟩ := hr (by omega)
     cases hA
     obtain ⟨A', c', hck, hrk⟩ := hcc k hlt
     obtain ⟨n, hn⟩ : ∃ n, (ps[k]'hlt).length = n := ⟨_, rfl⟩
     rw [hn] at hck
     have HN := Lib.hid hn
     clear hn hcc
     by_cases hs : 1 ≤ n ∧ n ≤ 8
     ·obtain ⟨n1, n8⟩ := hs
      go_wp2
      go_loop [4] (fun i => ∃ j : Nat, j ≤ n ∧ i = .int .i64 j ∧ ((ps[k]'hlt).take j).all numOk = true) (fun i => n - (intOf i).toNat)
      case atStart => exact ⟨0, Nat.zero_le _, rfl, rfl⟩
      case round =>
       obtain ⟨j, hj, rfl, hall⟩ := hrel
       have HJ := Lib.hid hall
       clear hall
       by_cases hjl : j < n
       ·have hjl2 : j < (ps[k]'hlt).length := by rw [HN.out]; exact hjl
        obtain ⟨b2, o2, rfl, hb2, hc2⟩ := hrk.int_at (by omega)
        have hcj := hc2 j hjl2
        obtain ⟨x, hx⟩ : ∃ x, (ps[k]'hlt)[j]'hjl2 = x := ⟨_, rfl⟩
        rw [hx] at hcj
        have HX := Lib.hid hx
        clear hx hc2
        by_cases x0 : x < -1
        ·have E := Lib.hid (HQ.out.symm.trans (par_no hlt (part_no hjl2 (by rw [HX.out]; omega))))
         go_wp2
         go_ret
         exact ⟨ret_b E.out.symm, rfl⟩
        ·by_cases x1 : 1114111 < x
         ·have E := Lib.hid (HQ.out.symm.trans (par_no hlt (part_no hjl2 (by rw [HX.out]; omega))))
          go_wp2
          go_ret
          exact ⟨ret_b E.out.symm, rfl⟩
         ·have E := Lib.hid (show ((ps[k]'hlt).take (j + 1)).all numOk = true by rw [List.take_succ_eq_append_getElem hjl2, List.all_append, HJ.out, HX.out]; simp [(numOk_iff x).2 ⟨by omega, by omega⟩])
          go_wp2
          go_round
          case rel => exact ⟨j + 1, by omega, by go_num, E.out⟩
          case measure => simp [intOf]; omega
       ·have hP := partB_yes (p := ps[k]'hlt) (by rw [HN.out]; exact n1) (by rw [HN.out]; exact n8) (by have := HJ.out; rwa [List.take_of_length_le (by rw [HN.out]; omega)] at this)
        have E := Lib.hid (show (ps.take (k + 1)).all partB = true by rw [List.take_succ_eq_append_getElem hlt, List.all_append, HA.out]; simp [hP])
        clear hP
        go_wp2
        go_round
        case rel => exact ⟨k + 1, by omega, by go_num, by first | exact E.out | exact List.all_eq_true.1 E.out⟩
        case measure => simp [intOf]; omega
     ·have E := Lib.hid (HQ.out.symm.trans (par_no hlt (part_len (by rw [HN.out]; exact hs))))
      by_cases n0 : n < 1
      ·clear hs
       go_wp2
       go_ret
       exact ⟨ret_b E.out.symm, rfl⟩
      ·have n8 : 8 < n := by omega
       clear hs
       go_wp2
       go_ret
       exact ⟨ret_b E.out.symm, rfl⟩
    ·have E := Lib.hid (HQ.out.symm.trans (parOk_yes (by omega) HNE.out (by have := HA.out; rwa [List.take_of_length_le (by omega)] at this)))
     go_wp2
     go_ret
     exact ⟨ret_b E.out.symm, rfl⟩
  ·have HNE := Lib.hid (show ps ≠ [[-1]] from fun e => h2 (by subst e; rfl))
   obtain ⟨b0, o0, rfl, hb0, hcc0⟩ := hr (by omega)
   obtain ⟨A0, c0, hc0, _⟩ := hcc0 0 (by omega)
   obtain ⟨n0, hn0⟩ : ∃ n, (ps[0]'(by omega)).length = n := ⟨_, rfl⟩
   rw [hn0] at hc0 h2
   simp only [Nat.add_zero] at hc0
   have t0 : ((ps.length : Int) == 1) = true := beq_iff_eq.2 (by omega)
   have t1 : ((n0 : Int) == 1) = false := beq_false_of_ne (by omega)
   clear h2 hn0 hcc0
   go_enter Tryd.func28, Tryd.ntmps28
   go_wp2
   go_loop [3] (fun i => ∃ k : Nat, k ≤ ps.length ∧ i = .int .i64 k ∧ (ps.take k).all partB = true) (fun i => ps.length - (intOf i).toNat)
   case atStart => exact ⟨0, Nat.zero_le _, rfl, rfl⟩
   case round =>
    obtain ⟨k, hk, rfl, hall⟩ := hrel
    have HA := Lib.hid hall
    clear hall
    by_cases hlt : k < ps.length
    ·obtain ⟨b, o, hA, hb, hcc⟩ := hr (by omega)
     cases hA
     obtain ⟨A', c', hck, hrk⟩ := hcc k hlt
     obtain ⟨n, hn⟩ : ∃ n, (ps[k]'hlt).length = n := ⟨_, rfl⟩
     rw [hn] at hck
     have HN := Lib.hid hn
     clear hn hcc
     by_cases hs : 1 ≤ n ∧ n ≤ 8
     ·obtain ⟨n1, n8⟩ := hs
      go_wp2
      go_loop [4] (fun i => ∃ j : Nat, j ≤ n ∧ i = .int .i64 j ∧ ((ps[k]'hlt).take j).all numOk = true) (fun i => n - (intOf i).toNat)
      case atStart => exact ⟨0, Nat.zero_le _, rfl, rfl⟩
      case round =>
       obtain ⟨j, hj, rfl, hall⟩ := hrel
       have HJ := Lib.hid hall
       clear hall
       by_cases hjl : j < n
       ·have hjl2 : j < (ps[k]'hlt).length := by rw [HN.out]; exact hjl
        obtain ⟨b2, o2, rfl, hb2, hc2⟩ := hrk.int_at (by omega)
        have hcj := hc2 j hjl2
        obtain ⟨x, hx⟩ : ∃ x, (ps[k]'hlt)[j]'hjl2 = x := ⟨_, rfl⟩
        rw [hx] at hcj
        have HX := Lib.hid hx
        clear hx hc2
        by_cases x0 : x < -1
        ·have E := Lib.hid (HQ.out.symm.trans (par_no hlt (part_no hjl2 (by rw [HX.out]; omega))))
         go_wp2
         go_ret
         exact ⟨ret_b E.out.symm, rfl⟩
        ·by_cases x1 : 1114111 < x
         ·have E := Lib.hid (HQ.out.symm.trans (par_no hlt (part_no hjl2 (by rw [HX.out]; omega))))
          go_wp2
          go_ret
          exact ⟨ret_b E.out.symm, rfl⟩
         ·have E := Lib.hid (show ((ps[k]'hlt).take (j + 1)).all numOk = true by rw [List.take_succ_eq_append_getElem hjl2, List.all_append, HJ.out, HX.out]; simp [(numOk_iff x).2 ⟨by omega, by omega⟩])
          go_wp2
          go_round
          case rel => exact ⟨j + 1, by omega, by go_num, E.out⟩
          case measure => simp [intOf]; omega
       ·have hP := partB_yes (p := ps[k]'hlt) (by rw [HN.out]; exact n1) (by rw [HN.out]; exact n8) (by have := HJ.out; rwa [List.take_of_length_le (by rw [HN.out]; omega)] at this)
        have E := Lib.hid (show (ps.take (k + 1)).all partB = true by rw [List.take_succ_eq_append_getElem hlt, List.all_append, HA.out]; simp [hP])
        clear hP
        go_wp2
        go_round
        case rel => exact ⟨k + 1, by omega, by go_num, by first | exact E.out | exact List.all_eq_true.1 E.out⟩
        case measure => simp [intOf]; omega
     ·have E := Lib.hid (HQ.out.symm.trans (par_no hlt (part_len (by rw [HN.out]; exact hs))))
      by_cases n0 : n < 1
      ·clear hs
       go_wp2
       go_ret
       exact ⟨ret_b E.out.symm, rfl⟩
      ·have n8 : 8 < n := by omega
       clear hs
       go_wp2
       go_ret
       exact ⟨ret_b E.out.symm, rfl⟩
    ·have E := Lib.hid (HQ.out.symm.trans (parOk_yes (by omega) HNE.out (by have := HA.out; rwa [List.take_of_length_le (by omega)] at this)))
     go_wp2
     go_ret
     exact ⟨ret_b E.out.symm, rfl⟩
  ·have HNE := Lib.hid (show ps ≠ [[-1]] from fun e => h3 (by subst e; rfl))
   obtain ⟨b0, o0, rfl, hb0, hcc0⟩ := hr (by omega)
   obtain ⟨A0, c0, hc0, hr0⟩ := hcc0 0 (by omega)
   obtain ⟨b1, o1, rfl, hb1, hcc1⟩ := hr0.int_at (by omega)
   have hc1 := hcc1 0 (by omega)
   obtain ⟨x, hx⟩ : ∃ x, (ps[0]'(by omega))[0]'(by omega) = x := ⟨_, rfl⟩
   rw [h2] at hc0
   rw [hx] at hc1 h3
   simp only [Nat.add_zero] at hc0 hc1
   have t0 : ((ps.length : Int) == 1) = true := beq_iff_eq.2 (by omega)
   have t1 : (x == -1) = false := beq_false_of_ne h3
   clear h2 h3 hx hcc0 hcc1 hr0
   go_enter Tryd.func28, Tryd.ntmps28
   go_wp2
   go_loop [3] (fun i => ∃ k : Nat, k ≤ ps.length ∧ i = .int .i64 k ∧ (ps.take k).all partB = true) (fun i => ps.length - (intOf i).toNat)
   case atStart => exact ⟨0, Nat.zero_le _, rfl, rfl⟩
   case round =>
    obtain ⟨k, hk, rfl, hall⟩ := hrel
    have HA := Lib.hid hall
    clear hall
    by_cases hlt : k < ps.length
    ·obtain ⟨b, o, hA, hb, hcc⟩ := hr (by omega)
     cases hA
     obtain ⟨A', c', hck, hrk⟩ := hcc k hlt
     obtain ⟨n, hn⟩ : ∃ n, (ps[k]'hlt).length = n := ⟨_, rfl⟩
     rw [hn] at hck
     have HN := Lib.hid hn
     clear hn hcc
     by_cases hs : 1 ≤ n ∧ n ≤ 8
     ·obtain ⟨n1, n8⟩ := hs
      go_wp2
      go_loop [4] (fun i => ∃ j : Nat, j ≤ n ∧ i = .int .i64 j ∧ ((ps[k]'hlt).take j).all numOk = true) (fun i => n - (intOf i).toNat)
      case atStart => exact ⟨0, Nat.zero_le _, rfl, rfl⟩
      case round =>
       obtain ⟨j, hj, rfl, hall⟩ := hrel
       have HJ := Lib.hid hall
       clear hall
       by_cases hjl : j < n
       ·have hjl2 : j < (ps[k]'hlt).length := by rw [HN.out]; exact hjl
        obtain ⟨b2, o2, rfl, hb2, hc2⟩ := hrk.int_at (by omega)
        have hcj := hc2 j hjl2
        obtain ⟨x, hx⟩ : ∃ x, (ps[k]'hlt)[j]'hjl2 = x := ⟨_, rfl⟩
        rw [hx] at hcj
        have HX := Lib.hid hx
        clear hx hc2
        by_cases x0 : x < -1
        ·have E := Lib.hid (HQ.out.symm.trans (par_no hlt (part_no hjl2 (by rw [HX.out]; omega))))
         go_wp2
         go_ret
         exact ⟨ret_b E.out.symm, rfl⟩
        ·by_cases x1 : 1114111 < x
         ·have E := Lib.hid (HQ.out.symm.trans (par_no hlt (part_no hjl2 (by rw [HX.out]; omega))))
          go_wp2
          go_ret
          exact ⟨ret_b E.out.symm, rfl⟩
         ·have E := Lib.hid (show ((ps[k]'hlt).take (j + 1)).all numOk = true by rw [List.take_succ_eq_append_getElem hjl2, List.all_append, HJ.out, HX.out]; simp [(numOk_iff x).2 ⟨by omega, by omega⟩])
          go_wp2
          go_round
          case rel => exact ⟨j + 1, by omega, by go_num, E.out⟩
          case measure => simp [intOf]; omega
       ·have hP := partB_yes (p := ps[k]'hlt) (by rw [HN.out]; exact n1) (by rw [HN.out]; exact n8) (by have := HJ.out; rwa [List.take_of_length_le (by rw [HN.out]; omega)] at this)
        have E := Lib.hid (show (ps.take (k + 1)).all partB = true by rw [List.take_succ_eq_append_getElem hlt, List.all_append, HA.out]; simp [hP])
        clear hP
        go_wp2
        go_round
        case rel => exact ⟨k + 1, by omega, by go_num, by first | exact E.out | exact List.all_eq_true.1 E.out⟩
        case measure => simp [intOf]; omega
     ·have E := Lib.hid (HQ.out.symm.trans (par_no hlt (part_len (by rw [HN.out]; exact hs))))
      by_cases n0 : n < 1
      ·clear hs
       go_wp2
       go_ret
       exact ⟨ret_b E.out.symm, rfl⟩
      ·have n8 : 8 < n := by omega
       clear hs
       go_wp2
       go_ret
       exact ⟨ret_b E.out.symm, rfl⟩
    ·have E := Lib.hid (HQ.out.symm.trans (parOk_yes (by omega) HNE.out (by have := HA.out; rwa [List.take_of_length_le (by omega)] at this)))
     go_wp2
     go_ret
     exact ⟨ret_b E.out.symm, rfl⟩
  ·subst h3
   obtain rfl : false = q := HQ.out
   obtain ⟨b0, o0, rfl, hb0, hcc0⟩ := hr (by simp)
   obtain ⟨A0, c0, hc0, hr0⟩ := hcc0 0 (by simp)
   obtain ⟨b1, o1, rfl, hb1, hcc1⟩ := hr0.int_at (by simp)
   have hc1 := hcc1 0 (by simp)
   simp only [Nat.add_zero, List.getElem_cons_zero, List.length_cons, List.length_nil, Nat.zero_add] at hc0 hc1
   clear hcc0 hcc1 hr0
   go_enter Tryd.func28, Tryd.ntmps28
   go_wp2
   go_ret
   exact ⟨rfl, rfl⟩
end Go.Proofs.YtkkjahhilcjpgaaDoor
