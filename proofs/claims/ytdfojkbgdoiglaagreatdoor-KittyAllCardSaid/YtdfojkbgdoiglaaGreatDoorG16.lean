/-
  Layer 3, walked: the document's within and params. Layer 9, the landed keys, walked: Look. Layer 2, walked: the code points that a function tells, one after the other, for every loop that ranges over it.
-/
import Derived.Test.YtdfojkbgdoiglaaGreatDoorG06
import Derived.Test.YtdfojkbgdoiglaaGreatDoorG08
import Derived.Test.YtdfojkbgdoiglaaGreatDoorG14
import Derived.Test.YtdfojkbgdoiglaaGreatDoorG15
import Derived.RangeFuncNested
import Derived.RangeFuncBound
import Derived.RangeFuncCalls
import Derived.RangeFuncLeaves
import Derived.RangeFuncBox
import Derived.Shelf.Abstract
import Derived.Shelf.RegionOpen
import Derived.WalkKit
import Derived.OwnWalkIn
import Derived.TacticsInMore
import Derived.LoopNIn
import Derived.LoopIn
import Derived.Maps.AppendAt
namespace Go.Proofs.YtdfojkbgdoiglaaGreatDoor
open Go.RowKit
set_option maxRecDepth 100000 in
set_option maxHeartbeats 2000000 in
theorem within_str (s : ByteArray) (a b : Nat) (q : Bool) (w : World) (hl : s.size ≤ 4294967296) (hq : s.data.toList.all (btw a b) = q) :
 Calls Tryz.prog 79 #[.string s, .int .u8 a, .int .u8 b] w fun e w' => e = .returned (.bool q) ∧ w = w' := by
 have HQ := Lib.hid hq
 clear hq
 go_enter Tryz.func79, Tryz.ntmps79
 go_wp2
 go_loop [7] (fun i => ∃ k : Nat, k ≤ s.size ∧ i = .int .i64 k ∧ (s.data.toList.take k).all (btw a b) = true) (fun i => s.size - (intOf i).toNat)
 case atStart => exact ⟨0, Nat.zero_le _, rfl, rfl⟩
 case round =>
  obtain ⟨k, hk, rfl, hall⟩ := hrel
  have HA := Lib.hid hall
  clear hall
  by_cases hlt : k < s.size
  ·have hlt2 : k < s.data.toList.length := by simpa using hlt
   have hby := byte_at s k hlt
   have HB := Lib.hid hby
   have hd := (s[k]'hlt).toNat_lt
   have k0 : (0 : Int) ≤ (k : Int) := by omega
   have k1 : (k : Int) < (s.size : Int) := by omega
   clear hby
   by_cases h1 : (s[k]'hlt).toNat < a
   ·have E := Lib.hid (HQ.out.symm.trans (all_no (p := btw a b) hlt2 ((btw_no a b _).2 (by rw [← HB.out]; omega))))
    go_wp2
    go_ret
    exact ⟨ret_b E.out.symm, rfl⟩
   ·by_cases h2 : b < (s[k]'hlt).toNat
    ·have E := Lib.hid (HQ.out.symm.trans (all_no (p := btw a b) hlt2 ((btw_no a b _).2 (by rw [← HB.out]; omega))))
     go_wp2
     go_ret
     exact ⟨ret_b E.out.symm, rfl⟩
    ·have E := Lib.hid (show (s.data.toList.take (k + 1)).all (btw a b) = true by rw [List.take_succ_eq_append_getElem hlt2, List.all_append, HA.out, ← HB.out]; simp [(btw_iff a b _).2 ⟨Nat.le_of_not_lt h1, Nat.le_of_not_lt h2⟩])
     go_wp2
     go_round
     case rel => exact ⟨k + 1, by omega, by go_num, E.out⟩
     case measure => simp [intOf]; omega
  ·have E := Lib.hid (show q = true by have := HA.out; rw [List.take_of_length_le (by simp; omega)] at this; exact HQ.out.symm.trans this)
   go_wp2
   go_ret
   exact ⟨ret_b E.out.symm, rfl⟩
theorem within_any (l : List UInt8) (a b : Nat) (q : Bool) (w : World) (hl : l.length ≤ 4294967296) (hq : l.all (btw a b) = q) :
 Calls Tryz.prog 79 #[.string ⟨l.toArray⟩, .int .u8 a, .int .u8 b] w fun e w' => e = .returned (.bool q) ∧ w = w' := by
 exact within_str ⟨l.toArray⟩ a b q w hl hq
theorem part_no {p : List Int} {k : Nat} (hk : k < p.length) (h : ¬ (-1 ≤ p[k] ∧ p[k] ≤ 1114111)) : partB p = false := by
 unfold partB
 rw [show (p.all fun n => decide (-1 ≤ n) && decide (n ≤ 1114111)) = false from List.all_eq_false.2 ⟨_, List.getElem_mem hk, by simp; omega⟩, Bool.and_false]
set_option maxRecDepth 100000 in
set_option maxHeartbeats 4000000 in
theorem params_any (A : Option Addr) (c : Nat) (ps : List (List Int)) (q : Bool) (w : World) (hq : parOk ps = q) (hl : ps.length ≤ 4294967296) (hr : RdP w A ps) :
 Calls Tryz.prog 78 #[.slice A ps.length c] w fun e w' => e = .returned (.bool q) ∧ w = w' := by
 by_cases h16 : 16 < ps.length
 ·obtain rfl : false = q := (par_long h16).symm.trans hq
  clear hq
  go_enter Tryz.func78, Tryz.ntmps78
  go_wp2
  go_ret
  exact ⟨rfl, rfl⟩
 ·have HQ := Lib.hid hq
  clear hq
  have key : ps.length ≠ 1 ∨ ∃ (h : ps.length = 1), ((ps[0]'(by omega)).length ≠ 1 ∨ ∃ (h2 : (ps[0]'(by omega)).length = 1), ((ps[0]'(by omega))[0]'(by omega) ≠ -1 ∨ ps = [[-1]])) := by
   by_cases h1 : ps.length = 1
   ·refine .inr ⟨h1, ?_⟩
    match ps, h1 with
    | [p], _ =>
      by_cases h2 : p.length = 1
      ·refine .inr ⟨h2, ?_⟩
       match p, h2 with
       | [x], _ =>
         by_cases h3 : x = -1
         ·exact .inr (by rw [h3])
         ·exact .inl h3
      ·exact .inl h2
   ·exact .inl h1
  rcases key with h1 | ⟨h1, h2 | ⟨h2, h3 | h3⟩⟩
  ·have HNE := Lib.hid (show ps ≠ [[-1]] from fun e => h1 (by rw [e]; rfl))
   have t1 : ((ps.length : Int) == 1) = false := beq_false_of_ne (by omega)
   clear h1
   go_enter Tryz.func78, Tryz.ntmps78
   go_wp2
   go_loop [3] (fun i => ∃ k : Nat, k ≤ ps.length ∧ i = .int .i64 k ∧ (ps.take k).all partB = true) (fun i => ps.length - (intOf i).toNat)
   case atStart => exact ⟨0, Nat.zero_le _, rfl, rfl⟩
   case round =>
    obtain ⟨k, hk, rfl, hall⟩ := hrel
    have HA := Lib.hid hall
    clear hall
    by_cases hlt : k < ps.length
    ·obtain ⟨b, o, hA, hb, hcc⟩ := hr (by omega)
     cases hA
     obtain ⟨A', c', hck, hrk⟩ := hcc k hlt
     obtain ⟨n, hn⟩ : ∃ n, (ps[k]'hlt).length = n := ⟨_, rfl⟩
     rw [hn] at hck
     have HN := Lib.hid hn
     clear hn hcc
     by_cases hs : 1 ≤ n ∧ n ≤ 8
     ·obtain ⟨n1, n8⟩ := hs
      go_wp2
      go_loop [4] (fun i => ∃ j : Nat, j ≤ n ∧ i = .int .i64 j ∧ ((ps[k]'hlt).take j).all numOk = true) (fun i => n - (intOf i).toNat)
      case atStart => exact ⟨0, Nat.zero_le _, rfl, rfl⟩
      case round =>
       obtain ⟨j, hj, rfl, hall⟩ := hrel
       have HJ := Lib.hid hall
       clear hall
       by_cases hjl : j < n
       ·have hjl2 : j < (ps[k]'hlt).length := by rw [HN.out]; exact hjl
        obtain ⟨b2, o2, rfl, hb2, hc2⟩ := hrk.int_at (by omega)
        have hcj := hc2 j hjl2
        obtain ⟨x, hx⟩ : ∃ x, (ps[k]'hlt)[j]'hjl2 = x := ⟨_, rfl⟩
        rw [hx] at hcj
        have HX := Lib.hid hx
        clear hx hc2
        by_cases x0 : x < -1
        ·have E := Lib.hid (HQ.out.symm.trans (par_no hlt (part_no hjl2 (by rw [HX.out]; omega))))
         go_wp2
         go_ret
         exact ⟨ret_b E.out.symm, rfl⟩
        ·by_cases x1 : 1114111 < x
         ·have E := Lib.hid (HQ.out.symm.trans (par_no hlt (part_no hjl2 (by rw [HX.out]; omega))))
          go_wp2
          go_ret
          exact ⟨ret_b E.out.symm, rfl⟩
         ·have E := Lib.hid (show ((ps[k]'hlt).take (j + 1)).all numOk = true by rw [List.take_succ_eq_append_getElem hjl2, List.all_append, HJ.out, HX.out]; simp [(numOk_iff x).2 ⟨by omega, by omega⟩])
          go_wp2
          go_round
          case rel => exact ⟨j + 1, by omega, by go_num, E.out⟩
          case measure => simp [intOf]; omega
       ·have hP := partB_yes (p := ps[k]'hlt) (by rw [HN.out]; exact n1) (by rw [HN.out]; exact n8) (by have := HJ.out; rwa [List.take_of_length_le (by rw [HN.out]; omega)] at this)
        have E := Lib.hid (show (ps.take (k + 1)).all partB = true by rw [List.take_succ_eq_append_getElem hlt, List.all_append, HA.out]; simp [hP])
        clear hP
        go_wp2
        go_round
        case rel => exact ⟨k + 1, by omega, by go_num, by first | exact E.out | exact List.all_eq_true.1 E.out⟩
        case measure => simp [intOf]; omega
     ·have E := Lib.hid (HQ.out.symm.trans (par_no hlt (part_len (by rw [HN.out]; exact hs))))
      by_cases n0 : n < 1
      ·clear hs
       go_wp2
       go_ret
       exact ⟨ret_b E.out.symm, rfl⟩
      ·have n8 : 8 < n := by omega
       clear hs
       go_wp2
       go_ret
       exact ⟨ret_b E.out.symm, rfl⟩
    ·have E := Lib.hid (HQ.out.symm.trans (parOk_yes (by omega) HNE.out (by have := HA.out; rwa [List.take_of_length_le (by omega)] at this)))
     go_wp2
     go_ret
     exact ⟨ret_b E.out.symm, rfl⟩
  ·have HNE := Lib.hid (show ps ≠ [[-1]] from fun e => h2 (by subst e; rfl))
   obtain ⟨b0, o0, rfl, hb0, hcc0⟩ := hr (by omega)
   obtain ⟨A0, c0, hc0, _⟩ := hcc0 0 (by omega)
   obtain ⟨n0, hn0⟩ : ∃ n, (ps[0]'(by omega)).length = n := ⟨_, rfl⟩
   rw [hn0] at hc0 h2
   simp only [Nat.add_zero] at hc0
   have t0 : ((ps.length : Int) == 1) = true := beq_iff_eq.2 (by omega)
   have t1 : ((n0 : Int) == 1) = false := beq_false_of_ne (by omega)
   clear h2 hn0 hcc0
   go_enter Tryz.func78, Tryz.ntmps78
   go_wp2
   go_loop [3] (fun i => ∃ k : Nat, k ≤ ps.length ∧ i = .int .i64 k ∧ (ps.take k).all partB = true) (fun i => ps.length - (intOf i).toNat)
   case atStart => exact ⟨0, Nat.zero_le _, rfl, rfl⟩
   case round =>
    obtain ⟨k, hk, rfl, hall⟩ := hrel
    have HA := Lib.hid hall
    clear hall
    by_cases hlt : k < ps.length
    ·obtain ⟨b, o, hA, hb, hcc⟩ := hr (by omega)
     cases hA
     obtain ⟨A', c', hck, hrk⟩ := hcc k hlt
     obtain ⟨n, hn⟩ : ∃ n, (ps[k]'hlt).length = n := ⟨_, rfl⟩
     rw [hn] at hck
     have HN := Lib.hid hn
     clear hn hcc
     by_cases hs : 1 ≤ n ∧ n ≤ 8
     ·obtain ⟨n1, n8⟩ := hs
      go_wp2
      go_loop [4] (fun i => ∃ j : Nat, j ≤ n ∧ i = .int .i64 j ∧ ((ps[k]'hlt).take j).all numOk = true) (fun i => n - (intOf i).toNat)
      case atStart => exact ⟨0, Nat.zero_le _, rfl, rfl⟩
      case round =>
       obtain ⟨j, hj, rfl, hall⟩ := hrel
       have HJ := Lib.hid hall
       clear hall
       by_cases hjl : j < n
       ·have hjl2 : j < (ps[k]'hlt).length := by rw [HN.out]; exact hjl
        obtain ⟨b2, o2, rfl, hb2, hc2⟩ := hrk.int_at (by omega)
        have hcj := hc2 j hjl2
        obtain ⟨x, hx⟩ : ∃ x, (ps[k]'hlt)[j]'hjl2 = x := ⟨_, rfl⟩
        rw [hx] at hcj
        have HX := Lib.hid hx
        clear hx hc2
        by_cases x0 : x < -1
        ·have E := Lib.hid (HQ.out.symm.trans (par_no hlt (part_no hjl2 (by rw [HX.out]; omega))))
         go_wp2
         go_ret
         exact ⟨ret_b E.out.symm, rfl⟩
        ·by_cases x1 : 1114111 < x
         ·have E := Lib.hid (HQ.out.symm.trans (par_no hlt (part_no hjl2 (by rw [HX.out]; omega))))
          go_wp2
          go_ret
          exact ⟨ret_b E.out.symm, rfl⟩
         ·have E := Lib.hid (show ((ps[k]'hlt).take (j + 1)).all numOk = true by rw [List.take_succ_eq_append_getElem hjl2, List.all_append, HJ.out, HX.out]; simp [(numOk_iff x).2 ⟨by omega, by omega⟩])
          go_wp2
          go_round
          case rel => exact ⟨j + 1, by omega, by go_num, E.out⟩
          case measure => simp [intOf]; omega
       ·have hP := partB_yes (p := ps[k]'hlt) (by rw [HN.out]; exact n1) (by rw [HN.out]; exact n8) (by have := HJ.out; rwa [List.take_of_length_le (by rw [HN.out]; omega)] at this)
        have E := Lib.hid (show (ps.take (k + 1)).all partB = true by rw [List.take_succ_eq_append_getElem hlt, List.all_append, HA.out]; simp [hP])
        clear hP
        go_wp2
        go_round
        case rel => exact ⟨k + 1, by omega, by go_num, by first | exact E.out | exact List.all_eq_true.1 E.out⟩
        case measure => simp [intOf]; omega
     ·have E := Lib.hid (HQ.out.symm.trans (par_no hlt (part_len (by rw [HN.out]; exact hs))))
      by_cases n0 : n < 1
      ·clear hs
       go_wp2
       go_ret
       exact ⟨ret_b E.out.symm, rfl⟩
      ·have n8 : 8 < n := by omega
       clear hs
       go_wp2
       go_ret
       exact ⟨ret_b E.out.symm, rfl⟩
    ·have E := Lib.hid (HQ.out.symm.trans (parOk_yes (by omega) HNE.out (by have := HA.out; rwa [List.take_of_length_le (by omega)] at this)))
     go_wp2
     go_ret
     exact ⟨ret_b E.out.symm, rfl⟩
  ·have HNE := Lib.hid (show ps ≠ [[-1]] from fun e => h3 (by subst e; rfl))
   obtain ⟨b0, o0, rfl, hb0, hcc0⟩ := hr (by omega)
   obtain ⟨A0, c0, hc0, hr0⟩ := hcc0 0 (by omega)
   obtain ⟨b1, o1, rfl, hb1, hcc1⟩ := hr0.int_at (by omega)
   have hc1 := hcc1 0 (by omega)
   obtain ⟨x, hx⟩ : ∃ x, (ps[0]'(by omega))[0]'(by omega) = x := ⟨_, rfl⟩
   rw [h2] at hc0
   rw [hx] at hc1 h3
   simp only [Nat.add_zero] at hc0 hc1
   have t0 : ((ps.length : Int) == 1) = true := beq_iff_eq.2 (by omega)
   have t1 : (x == -1) = false := beq_false_of_ne h3
   clear h2 h3 hx hcc0 hcc1 hr0
   go_enter Tryz.func78, Tryz.ntmps78
   go_wp2
   go_loop [3] (fun i => ∃ k : Nat, k ≤ ps.length ∧ i = .int .i64 k ∧ (ps.take k).all partB = true) (fun i => ps.length - (intOf i).toNat)
   case atStart => exact ⟨0, Nat.zero_le _, rfl, rfl⟩
   case round =>
    obtain ⟨k, hk, rfl, hall⟩ := hrel
    have HA := Lib.hid hall
    clear hall
    by_cases hlt : k < ps.length
    ·obtain ⟨b, o, hA, hb, hcc⟩ := hr (by omega)
     cases hA
     obtain ⟨A', c', hck, hrk⟩ := hcc k hlt
     obtain ⟨n, hn⟩ : ∃ n, (ps[k]'hlt).length = n := ⟨_, rfl⟩
     rw [hn] at hck
     have HN := Lib.hid hn
     clear hn hcc
     by_cases hs : 1 ≤ n ∧ n ≤ 8
     ·obtain ⟨n1, n8⟩ := hs
      go_wp2
      go_loop [4] (fun i => ∃ j : Nat, j ≤ n ∧ i = .int .i64 j ∧ ((ps[k]'hlt).take j).all numOk = true) (fun i => n - (intOf i).toNat)
      case atStart => exact ⟨0, Nat.zero_le _, rfl, rfl⟩
      case round =>
       obtain ⟨j, hj, rfl, hall⟩ := hrel
       have HJ := Lib.hid hall
       clear hall
       by_cases hjl : j < n
       ·have hjl2 : j < (ps[k]'hlt).length := by rw [HN.out]; exact hjl
        obtain ⟨b2, o2, rfl, hb2, hc2⟩ := hrk.int_at (by omega)
        have hcj := hc2 j hjl2
        obtain ⟨x, hx⟩ : ∃ x, (ps[k]'hlt)[j]'hjl2 = x := ⟨_, rfl⟩
        rw [hx] at hcj
        have HX := Lib.hid hx
        clear hx hc2
        by_cases x0 : x < -1
        ·have E := Lib.hid (HQ.out.symm.trans (par_no hlt (part_no hjl2 (by rw [HX.out]; omega))))
         go_wp2
         go_ret
         exact ⟨ret_b E.out.symm, rfl⟩
        ·by_cases x1 : 1114111 < x
         ·have E := Lib.hid (HQ.out.symm.trans (par_no hlt (part_no hjl2 (by rw [HX.out]; omega))))
          go_wp2
          go_ret
          exact ⟨ret_b E.out.symm, rfl⟩
         ·have E := Lib.hid (show ((ps[k]'hlt).take (j + 1)).all numOk = true by rw [List.take_succ_eq_append_getElem hjl2, List.all_append, HJ.out, HX.out]; simp [(numOk_iff x).2 ⟨by omega, by omega⟩])
          go_wp2
          go_round
          case rel => exact ⟨j + 1, by omega, by go_num, E.out⟩
          case measure => simp [intOf]; omega
       ·have hP := partB_yes (p := ps[k]'hlt) (by rw [HN.out]; exact n1) (by rw [HN.out]; exact n8) (by have := HJ.out; rwa [List.take_of_length_le (by rw [HN.out]; omega)] at this)
        have E := Lib.hid (show (ps.take (k + 1)).all partB = true by rw [List.take_succ_eq_append_getElem hlt, List.all_append, HA.out]; simp [hP])
        clear hP
        go_wp2
        go_round
        case rel => exact ⟨k + 1, by omega, by go_num, by first | exact E.out | exact List.all_eq_true.1 E.out⟩
        case measure => simp [intOf]; omega
     ·have E := Lib.hid (HQ.out.symm.trans (par_no hlt (part_len (by rw [HN.out]; exact hs))))
      by_cases n0 : n < 1
      ·clear hs
       go_wp2
       go_ret
       exact ⟨ret_b E.out.symm, rfl⟩
      ·have n8 : 8 < n := by omega
       clear hs
       go_wp2
       go_ret
       exact ⟨ret_b E.out.symm, rfl⟩
    ·have E := Lib.hid (HQ.out.symm.trans (parOk_yes (by omega) HNE.out (by have := HA.out; rwa [List.take_of_length_le (by omega)] at this)))
     go_wp2
     go_ret
     exact ⟨ret_b E.out.symm, rfl⟩
  ·subst h3
   obtain rfl : false = q := HQ.out
   obtain ⟨b0, o0, rfl, hb0, hcc0⟩ := hr (by simp)
   obtain ⟨A0, c0, hc0, hr0⟩ := hcc0 0 (by simp)
   obtain ⟨b1, o1, rfl, hb1, hcc1⟩ := hr0.int_at (by simp)
   have hc1 := hcc1 0 (by simp)
   simp only [Nat.add_zero, List.getElem_cons_zero, List.length_cons, List.length_nil, Nat.zero_add] at hc0 hc1
   clear hcc0 hcc1 hr0
   go_enter Tryz.func78, Tryz.ntmps78
   go_wp2
   go_ret
   exact ⟨rfl, rfl⟩
end Go.Proofs.YtdfojkbgdoiglaaGreatDoor
namespace Go.Proofs.YtdfojkbgdoiglaaGreatDoor
open Go.RowKit
theorem find_take_no {k : Nat} {c : Int} (h : ∀ r ∈ roL.take k, inRo c r = false) {r : Ro} (hk : k < roL.length) (hr : roL[k] = r) (hi : inRo c r = true) : roL.find? (inRo c) = some r := by
 have e : roL = roL.take k ++ roL.drop k := (List.take_append_drop k roL).symm
 rw [List.drop_eq_getElem_cons hk, hr] at e
 rw [e, List.find?_append, List.find?_eq_none.2 (fun x hx => by rw [h x hx]; decide)]
 simp [hi]
theorem take_more {k : Nat} {c : Int} (h : ∀ r ∈ roL.take k, inRo c r = false) {r : Ro} (hk : k < roL.length) (hr : roL[k] = r) (hi : inRo c r = false) : ∀ r ∈ roL.take (k + 1), inRo c r = false := by
 rw [List.take_succ_eq_append_getElem hk, hr]
 intro x hx
 rcases List.mem_append.1 hx with hx | hx
 ·exact h x hx
 ·rw [List.mem_singleton.1 hx]; exact hi
theorem ro_mem {k : Nat} (hk : k < roL.length) {r : Ro} (hr : roL[k] = r) : r ∈ roL := hr ▸ List.getElem_mem hk
theorem find_all_no {c : Int} (h : ∀ r ∈ roL.take 22, inRo c r = false) : roL.find? (inRo c) = none := by
 rw [show roL.take 22 = roL from rfl] at h
 exact List.find?_eq_none.2 (fun x hx => by rw [h x hx]; decide)
theorem below_set5 {B : Nat} {a w : World} (h : Below B a w) {b : Nat} (hb : B ≤ b) (x y z u v : Value) : Below B a (((((w.setCell ⟨b, 0, none⟩ x).setCell ⟨b, 1, none⟩ y).setCell ⟨b, 2, none⟩ z).setCell ⟨b, 3, none⟩ u).setCell ⟨b, 4, none⟩ v) :=
 ((((h.setCell (p := ⟨b, 0, none⟩) hb x).setCell (p := ⟨b, 1, none⟩) hb y).setCell (p := ⟨b, 2, none⟩) hb z).setCell (p := ⟨b, 3, none⟩) hb u).setCell (p := ⟨b, 4, none⟩) hb v
set_option maxRecDepth 100000 in
set_option maxHeartbeats 4000000 in
theorem plook_any (c : Int) (w : World) (hs : Siz w) (hR : Rws w) : Calls Tryz.prog 13 #[.int .i64 c] w fun e w' => e = .returned (enV (lookE c)) ∧ Below w.heap.size w w' := by
 have HC := Lib.hid (lookP_eq c)
 obtain ⟨b, o, cp, t, fz, hg, hg0, hb0, hrd⟩ := hR
 have cg := cell_of_row w 0 0 _ t fz hg
 simp only [List.getElem?_toArray, List.getElem?_cons_zero] at cg
 have hG : ∀ x, (w.alloc x).cell? ⟨0, 0, none⟩ = some (.slice (some ⟨b, o, none⟩) 22 cp) := fun x => (((Below.refl _ w).alloc (Nat.le_refl _) x).cell (p := ⟨0, 0, none⟩) hg0).trans cg
 have p0 := Blk.new w 41 #[.int .i64 0, .int .u8 0, .int .i64 0, .int .i64 0, .bool false]
 have hB0 := (Below.refl w.heap.size w).alloc (Nat.le_refl _) (.cells #[.int .i64 0, .int .u8 0, .int .i64 0, .int .i64 0, .bool false] 41)
 go_enter Tryz.func13, Tryz.ntmps13
 go_wp2
 clear hG cg hg
 go_loopw [7] (fun i wr => ∃ k : Nat, k ≤ 22 ∧ i = .int .i64 k ∧ Hid (∀ r ∈ roL.take k, inRo c r = false) ∧ Blk wr w.heap.size 41 #[.int .i64 0, .int .u8 0, .int .i64 0, .int .i64 0, .bool false] ∧ Below w.heap.size w wr) (fun i _ => 22 - (intOf i).toNat)
 case atStart => exact ⟨0, by omega, rfl, Lib.hid (by simp), p0, hB0⟩
 case round =>
  obtain ⟨k, hk, rfl, HN, hp, hbw⟩ := hrel
  clear p0 hB0
  by_cases hlt : k < 22
  ·obtain ⟨r, hr⟩ : ∃ r, roL[k]'hlt = r := ⟨_, rfl⟩
   obtain ⟨A, cp1, hns, a0, a1, a2, a3, a4, a5, a6⟩ := (hrd.below hbw hb0).at_ hlt hr
   have hb1 : b < wr.heap.size := Nat.lt_of_lt_of_le hb0 hbw.size
   have HNS : Hid (∀ x, Rd (wr.alloc x) A (is_ r.nums)) := Lib.hid fun x => (hns.rd hbw.size).alloc x
   have k1 : (k : Int) < 22 := by omega
   have k0 : (0 : Int) ≤ (k : Int) := by omega
   have hx := ro_mem hlt hr
   clear hns
   by_cases h1 : r.first ≤ c
   ·by_cases h2 : c ≤ r.last
    ·have HF := Lib.hid (find_take_no HN.out hlt hr ((inRo_iff c r).2 ⟨h1, h2⟩))
     have HE : Hid (enV (entK r (c - r.first).toNat) = enV (lookE c)) := Lib.hid (by rw [← HC.out]; unfold lookP; rw [HF.out])
     obtain ⟨⟨K, F, N, C, B⟩, hE⟩ : ∃ E, entK r (c - r.first).toNat = E := ⟨_, rfl⟩
     have HQ : Hid (∀ W, Rd W A (is_ r.nums) → Calls Tryz.prog 35 #[.agg #[.int .i64 r.first, .int .i64 r.last, .int .i64 r.kind, .string ⟨r.finals.toArray⟩, .slice A r.nums.length cp1, .string ⟨r.chars.toArray⟩, .bool r.keys], .int .i64 c] W fun e w' => e = .returned (.agg #[.int .i64 K, .int .u8 F, .int .i64 N, .int .i64 C, .bool B]) ∧ Below W.heap.size W w') := Lib.hid fun W hW => by
      have := entry_ro r hx (c - r.first).toNat c (by omega) h2 A cp1 W hW
      rwa [hE] at this
     rw [hE] at HE
     clear hE hr
     go_wp2_with fail
     refine (HQ.out _ (HNS.out _)).mono ?_
     rintro e w2 ⟨rfl, hb2⟩
     have hp2 := (hp.alloc (.cells #[.int .i64 r.first, .int .i64 r.last, .int .i64 r.kind, .string ⟨r.finals.toArray⟩, .slice A r.nums.length cp1, .string ⟨r.chars.toArray⟩, .bool r.keys] 71)).below hb2 (by simp; exact Nat.lt_succ_of_lt hp.lt)
     have hbe := (hbw.alloc hbw.size (.cells #[.int .i64 r.first, .int .i64 r.last, .int .i64 r.kind, .string ⟨r.finals.toArray⟩, .slice A r.nums.length cp1, .string ⟨r.chars.toArray⟩, .bool r.keys] 71)).trans (hb2.mono (by simp; exact Nat.le_succ_of_le hbw.size))
     have q0 := hp2.frozen 0
     have q1 := hp2.frozen 1
     have q2 := hp2.frozen 2
     have q3 := hp2.frozen 3
     have q4 := hp2.frozen 4
     have c0 := hp2.cell 0
     have c1 := hp2.cell 1
     have c2 := hp2.cell 2
     have c3 := hp2.cell 3
     have c4 := hp2.cell 4
     go_wp2_with fail
     exact bodyPost_ret (v := .agg #[.int .i64 K, .int .u8 F, .int .i64 N, .int .i64 C, .bool B]) (by simp [results, Tryz.results13, go_sem, c0, c1, c2, c3, c4]) rfl ⟨by rw [← HE.out]; rfl, below_set5 hbe (Nat.le_refl _) _ _ _ _ _⟩
    ·have HN2 := Lib.hid (take_more HN.out hlt hr (inRo_no (c := c) (r := r) (fun h => h2 h.2)))
     clear hr
     go_wp2
     go_roundw
     case rel => exact ⟨k + 1, by omega, by go_num, HN2, hp.alloc _, hbw.alloc hbw.size _⟩
     case measure => simp [intOf]; omega
   ·have HN2 := Lib.hid (take_more HN.out hlt hr (inRo_no (c := c) (r := r) (fun h => h1 h.1)))
    clear hr
    go_wp2
    go_roundw
    case rel => exact ⟨k + 1, by omega, by go_num, HN2, hp.alloc _, hbw.alloc hbw.size _⟩
    case measure => simp [intOf]; omega
  ·obtain rfl : k = 22 := by omega
   have HF := Lib.hid (find_all_no HN.out)
   have hs2 := hs.below hbw (Nat.le_refl _)
   obtain ⟨T, hT⟩ : ∃ T, txK c = T := ⟨_, rfl⟩
   have HE : Hid ((if T then (⟨1, 0, 0, 0, false⟩ : En) else ⟨0, 0, 0, 0, false⟩) = lookE c) := Lib.hid (by rw [← HC.out, ← hT]; unfold lookP; rw [HF.out])
   have HQ := Lib.hid (isText_any c wr hs2)
   rw [hT] at HQ
   clear hT
   go_wp2_with fail
   refine HQ.out.mono ?_
   rintro e w2 ⟨rfl, hb2⟩
   have hp2 := hp.below hb2 hp.lt
   have hbe := hbw.trans (hb2.mono hbw.size)
   have q0 := hp2.frozen 0
   have q1 := hp2.frozen 1
   have q2 := hp2.frozen 2
   have q3 := hp2.frozen 3
   have q4 := hp2.frozen 4
   have c0 := hp2.cell 0
   have c1 := hp2.cell 1
   have c2 := hp2.cell 2
   have c3 := hp2.cell 3
   have c4 := hp2.cell 4
   cases T with
   | true =>
     go_wp2_with fail
     exact bodyPost_ret (v := .agg #[.int .i64 1, .int .u8 0, .int .i64 0, .int .i64 0, .bool false]) (by simp [results, Tryz.results13, go_sem, c0, c1, c2, c3, c4]) rfl ⟨by rw [← HE.out]; rfl, below_set5 hbe (Nat.le_refl _) _ _ _ _ _⟩
   | false =>
     go_wp2_with fail
     exact bodyPost_ret (v := .agg #[.int .i64 0, .int .u8 0, .int .i64 0, .int .i64 0, .bool false]) (by simp [results, Tryz.results13, go_sem, c0, c1, c2, c3, c4]) rfl ⟨by rw [← HE.out]; rfl, below_set5 hbe (Nat.le_refl _) _ _ _ _ _⟩
end Go.Proofs.YtdfojkbgdoiglaaGreatDoor
namespace Go.Proofs.YtdfojkbgdoiglaaGreatDoor
open Go.RowKit Go.Shelf
attribute [local go_sem] Oper.semAt_some
theorem Siz.low {n₁ : Nat} {w w' : World} (h : Siz w) (h0 : 1 < n₁) (hb : Below n₁ w w') : Siz w' := by
 obtain ⟨t, fz, hh⟩ := h
 exact ⟨t, fz, (hb.block _ h0).trans hh⟩
def Kp2 (n₁ B : Nat) (w w' : World) : Prop := Below n₁ w w' ∧ w'.heap[B]? = w.heap[B]?
theorem take_tup (A : Option Addr) (n c : Nat) (l : List UInt8) (r : Int) (m : Nat) (w : World) (hn : l.length = n) (h : takeL l = (r, m)) (hs : Siz w) (hl : l.length ≤ 4294967296) (hlc : n ≤ c) (hr : Rd w A (bs l)) :
 Calls Tryz.prog 100 #[.slice A n c] w fun e w' => e = .returned (.tuple #[.int .i64 r, .int .i64 m]) ∧ Below w.heap.size w w' := by
 subst hn
 refine (take_any A c l w hs hl hlc hr).mono ?_
 rintro e w' ⟨rfl, hb⟩
 exact ⟨by unfold Tk; rw [h], hb⟩
theorem below_grown0 {w w' : World} (h : Below w.heap.size w w') : w.grownBy w' none := ⟨h.os, h.tape, h.output, h.size, fun k hk _ => h.block k hk⟩
set_option maxRecDepth 100000 in
set_option maxHeartbeats 2000000 in
theorem points_any (A : Option Addr) (n c : Nat) (w : World) : Calls Tryz.prog 90 #[.slice A n c] w fun e w' => e = .returned (.func (.func 99) #[] #[.pointer (some ⟨w.heap.size, 0, none⟩)]) ∧ w' = w.alloc (.cells #[.slice A n c] 27) := by
 go_enter Tryz.func90, Tryz.ntmps90
 go_wp2
 go_ret
 exact ⟨rfl, rfl⟩
set_option maxRecDepth 100000 in
set_option maxHeartbeats 2000000 in
theorem pts1_in (n : Nat) (hn : 1 ≤ n) (l Bs n₁ B0 c : Nat) (A : Option Addr) (t : List UInt8) (ht : t.length ≤ 4294967296) (htc : t.length ≤ c) (hg0 : 1 < n₁) (J Jx : List (Int × Bool) → World → Prop) (hJ : AbidesFrom B0 J)
 (hY : ∀ pre x W, J pre W → pre.length < (ptsL t).length → YieldAt Fence.wide (n - 1) Tryz.prog l #[.int .i64 x.1, .bool x.2] W fun e W' =>
   (e = .returned (.bool true) ∧ J (pre ++ [x]) W' ∧ Kp2 n₁ Bs W W') ∨ (e = .returned (.bool false) ∧ Jx (pre ++ [x]) W'))
 (W : World) (hbox : Blk W Bs 27 #[.slice A t.length c]) (hs : Siz W) (hr : RdIn n₁ W A (bs t)) (hn₁ : n₁ ≤ W.heap.size) (h0 : J [] W) :
 CallsIn Fence.wide n Tryz.prog 99 #[.func (.yield l) #[] #[], .pointer (some ⟨Bs, 0, none⟩)] W fun e W' => (∃ v, e = .returned v) ∧
  ((∃ ys, ys = ptsL t ∧ J ys W') ∨ (∃ pre, pre <+: ptsL t ∧ Jx pre W')) := by
 refine callsIn_of_wp Tryz.func99 rfl trivial ?_ rfl
 simp only [Tryz.ntmps99, List.size_toArray, List.length_cons, List.length_nil, Nat.reduceAdd, Nat.reduceSub, Array.replicate_succ, Array.replicate_zero, List.push_toArray, List.append_toArray, List.nil_append, List.cons_append]
 gi_wp2
 gi_loopw [3] (fun i wr => ∃ (k : Nat) (pre : List (Int × Bool)), k ≤ t.length ∧ i = .int .i64 k ∧ pre ++ ptsL (t.drop k) = ptsL t ∧ J pre wr ∧ Blk wr Bs 27 #[.slice A t.length c] ∧ Siz wr ∧ RdIn n₁ wr A (bs t) ∧ n₁ ≤ wr.heap.size) (fun i _ => t.length - (intOf i).toNat)
 case atStart => exact ⟨0, [], Nat.zero_le _, rfl, rfl, h0, hbox, hs, hr, hn₁⟩
 case round =>
  obtain ⟨k, pre, hk, rfl, hpre, hJs, hbx, hsz, hrd, hnw⟩ := hrel
  have HP := Lib.hid hpre
  clear hpre
  have hcb := hbx.cell 0
  by_cases hlt : k < t.length
  ·obtain ⟨b, o, rfl, hb, hcc⟩ := hrd (by rw [bs_length]; omega)
   have hdr := hrd.drop k hlt
   clear hcc
   have k0 : (0 : Int) ≤ (k : Int) := by omega
   have k1 : (k : Int) ≤ (t.length : Int) := by omega
   have hlen := Lib.hid (show (t.drop k).length = t.length - k from List.length_drop)
   have hld : (t.drop k).length ≤ 4294967296 := by rw [List.length_drop]; omega
   by_cases hz : (takeL (t.drop k)).2 = 0
   ·have E := Lib.hid (take_zero hz)
    have PN := Lib.hid (show ptsL (t.drop k) = [(0, false)] from ptsL_no (by rw [List.length_drop]; omega) hz)
    have hlt2 : pre.length < (ptsL t).length := by rw [← HP.out, PN.out]; simp
    have PE := Lib.hid (show pre ++ [(0, false)] = ptsL t by rw [← HP.out, PN.out])
    clear hz
    gi_wp2_with fail
    refine ⟨trivial, ?_⟩
    gi_at_call 100
    refine (callsIn_wide.2 (take_tup _ _ _ (t.drop k) 0 0 _ hlen.out E.out hsz hld (by omega) hdr)).mono ?_
    rintro e w2 ⟨rfl, hb2⟩
    have hJ2 : J pre w2 := hJ _ _ _ none hJs (below_grown0 hb2) (fun r e => by cases e)
    clear hb2
    obtain ⟨fn, tmps, assign, body, hy, hR⟩ := hY pre (0, false) w2 hJ2 hlt2
    dsimp only at hy
    gi_wp2
    refine hR.mono ?_
    rintro e W3 (⟨rfl, hJ3, hk3⟩ | ⟨rfl, hJx3⟩)
    ·gi_wp2
     refine bodyPost_ret (results_none rfl _ _ _) rfl ?_
     exact ⟨⟨_, rfl⟩, .inl ⟨_, PE.out, hJ3⟩⟩
    ·gi_wp2
     refine bodyPost_ret (results_none rfl _ _ _) rfl ?_
     exact ⟨⟨_, rfl⟩, .inr ⟨_, ⟨[], by rw [List.append_nil]; exact PE.out⟩, hJx3⟩⟩
   ·have PY := Lib.hid (ptsL_yes hz)
    have hle := (take_snd_le (t.drop k)).1
    obtain ⟨r, hr1⟩ : ∃ r, (takeL (t.drop k)).1 = r := ⟨_, rfl⟩
    obtain ⟨m, hm1⟩ : ∃ m, (takeL (t.drop k)).2 = m := ⟨_, rfl⟩
    have E := Lib.hid (show takeL (t.drop k) = (r, m) by rw [← hr1, ← hm1])
    rw [hm1, List.length_drop] at hle
    rw [hm1] at hz
    have m0 : (0 : Int) < (m : Int) := by omega
    have m2 : 0 < m := by omega
    have m3 : decide (0 < m) = true := decide_eq_true m2
    have m4 : decide ((0 : Int) < (m : Int)) = true := decide_eq_true m0
    have m1 : ((m : Int) == 0) = false := beq_false_of_ne (by omega)
    have PD := Lib.hid (show ptsL (t.drop k) = (r, true) :: ptsL (t.drop (k + m)) by rw [PY.out, hr1, hm1, List.drop_drop])
    have hlt2 : pre.length < (ptsL t).length := by rw [← HP.out, PD.out]; simp
    have PE := Lib.hid (show (pre ++ [(r, true)]) ++ ptsL (t.drop (k + m)) = ptsL t by rw [← HP.out, PD.out]; simp)
    clear hr1 hm1 PY
    gi_wp2_with fail
    refine ⟨trivial, ?_⟩
    gi_at_call 100
    refine (callsIn_wide.2 (take_tup _ _ _ (t.drop k) r m _ hlen.out E.out hsz hld (by omega) hdr)).mono ?_
    rintro e w2 ⟨rfl, hb2⟩
    have hJ2 : J pre w2 := hJ _ _ _ none hJs (below_grown0 hb2) (fun r e => by cases e)
    have hbx2 := hbx.below hb2 hbx.lt
    have hsz2 := hsz.below' hb2
    have hrd2 := hrd.below (hb2.mono hnw)
    have hnw2 := Nat.le_trans hnw hb2.size
    clear hb2
    obtain ⟨fn, tmps, assign, body, hy, hR⟩ := hY pre (r, true) w2 hJ2 hlt2
    dsimp only at hy
    gi_wp2
    refine hR.mono ?_
    rintro e W3 (⟨rfl, hJ3, hk3⟩ | ⟨rfl, hJx3⟩)
    ·gi_wp2
     go_roundw
     case rel => exact ⟨k + m, _, by omega, by go_num, PE.out, hJ3, hk3.2.trans hbx2, hsz2.low hg0 hk3.1, hrd2.below hk3.1, Nat.le_trans hnw2 hk3.1.size⟩
     case measure => simp [intOf]; omega
    ·gi_wp2
     refine bodyPost_ret (results_none rfl _ _ _) rfl ?_
     exact ⟨⟨_, rfl⟩, .inr ⟨_, ⟨_, PE.out⟩, hJx3⟩⟩
  ·have hke : k = t.length := by omega
   have PE := Lib.hid (show pre = ptsL t by
    have h1 := HP.out
    rw [hke, List.drop_length] at h1
    rw [← h1]; show pre = pre ++ []; simp)
   clear hke
   gi_wp2
   go_end0
   exact ⟨⟨_, rfl⟩, .inl ⟨_, PE.out, hJs⟩⟩
end Go.Proofs.YtdfojkbgdoiglaaGreatDoor
