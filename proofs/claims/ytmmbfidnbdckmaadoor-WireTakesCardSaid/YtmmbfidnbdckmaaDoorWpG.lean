/-
  Layer 3, walked: Arg, the program's and the document's.
-/
import Derived.Test.YtmmbfidnbdckmaaDoorWpM
namespace Go.Proofs.YtmmbfidnbdckmaaDoor
open Go.RowKit

/-- The first part of a parameter; or another number. -/
def headI (o : Int) : List Int → Int
  | n :: _ => if n < 0 then o else n
  | [] => o
def argL (ps : List (List Int)) (i o : Int) : Int := if i < 0 ∨ (ps.length : Int) ≤ i then o else headI o (ps.getD i.toNat [])

set_option maxRecDepth 100000 in
set_option maxHeartbeats 4000000 in
theorem parg_any (s : Sq) (A : Option Addr) (c : Nat) (i o v : Int) (w : World) (hv : argL s.params i o = v) (hi0 : -9223372036854775808 ≤ i) (hi1 : i ≤ 9223372036854775807) (hl : s.params.length ≤ 4294967296) (hr : RdP w A s.params) :
    Calls Tryd.prog 20 #[sqV s A c, .int .i64 i, .int .i64 o] w fun e w' => e = .returned (.int .i64 v) ∧ Below w.heap.size w w' := by
  have hB : ∀ o, Below w.heap.size w (w.alloc o) := fun o => (Below.refl _ w).alloc (Nat.le_refl _) _
  have hr2 := hr.alloc (.cells (seqC s A c) 24)
  unfold seqC at hr2
  obtain ⟨np, hnp⟩ : ∃ np, s.params.length = np := ⟨_, rfl⟩
  have HNP := Lib.hid hnp
  rw [hnp] at hl hr2
  have HV := Lib.hid hv
  clear hv hr
  unfold sqV
  rw [hnp]
  clear hnp
  by_cases h1 : i < 0
  · have E := Lib.hid (show o = v by rw [← HV.out]; unfold argL; rw [if_pos (by omega)])
    go_enter Tryd.func20, Tryd.ntmps20
    go_wp2_with fail
    go_ret
    exact ⟨ret_i E.out, hB _⟩
  · by_cases h2 : (np : Int) ≤ i
    · have E := Lib.hid (show o = v by rw [← HV.out]; unfold argL; rw [if_pos (by rw [HNP.out]; omega)])
      go_enter Tryd.func20, Tryd.ntmps20
      go_wp2_with fail
      go_ret
      exact ⟨ret_i E.out, hB _⟩
    · obtain ⟨k, rfl⟩ : ∃ k : Nat, i = (k : Int) := ⟨i.toNat, by omega⟩
      have hk : k < np := by omega
      have hk1 : (k : Int) < (np : Int) := by omega
      have hk0 : (0 : Int) ≤ (k : Int) := by omega
      have hkp : k < s.params.length := by rw [HNP.out]; exact hk
      clear h1 h2
      obtain ⟨b, oo, hA, hb, hcc⟩ := hr2 (by rw [HNP.out]; omega)
      obtain ⟨A', c', hck, hrk⟩ := hcc k hkp
      cases hA
      obtain ⟨p, hp⟩ : ∃ p, s.params[k]'hkp = p := ⟨_, rfl⟩
      rw [hp] at hck hrk
      have HAL := Lib.hid (show headI o p = v by
        rw [← HV.out]
        unfold argL
        rw [if_neg (by rw [HNP.out]; omega), Int.toNat_natCast, List.getD_eq_getElem?_getD, List.getElem?_eq_getElem hkp, hp]; rfl)
      clear hp hcc
      cases p with
      | nil =>
        have E := Lib.hid (show o = v from HAL.out)
        clear HAL
        go_enter Tryd.func20, Tryd.ntmps20
        go_wp2_with fail
        go_ret
        exact ⟨ret_i E.out, hB _⟩
      | cons x p =>
        obtain ⟨b2, o2, hA2, hb2, hc2⟩ := hrk.int_at (by simp)
        cases hA2
        have hc0 := hc2 0 (by simp)
        rw [Nat.add_zero, List.getElem_cons_zero] at hc0
        obtain ⟨m, hm⟩ : ∃ m, (x :: p).length = m := ⟨_, rfl⟩
        have hm1 : 0 < m := by rw [← hm]; simp
        rw [hm] at hck
        have t1 : ((m : Int) == 0) = false := beq_false_of_ne (by omega)
        clear hc2 hrk hm
        by_cases hx : x < 0
        · have E := Lib.hid (show o = v by have : (if x < 0 then o else x) = v := HAL.out; rw [if_pos hx] at this; exact this)
          clear HAL
          go_enter Tryd.func20, Tryd.ntmps20
          go_wp2_with fail
          go_ret
          exact ⟨ret_i E.out, hB _⟩
        · have E := Lib.hid (show x = v by have : (if x < 0 then o else x) = v := HAL.out; rw [if_neg hx] at this; exact this)
          clear HAL
          go_enter Tryd.func20, Tryd.ntmps20
          go_wp2_with fail
          go_ret
          exact ⟨ret_i E.out, hB _⟩

set_option maxRecDepth 100000 in
set_option maxHeartbeats 4000000 in
theorem rarg_any (s : Sq) (A : Option Addr) (c : Nat) (i o v : Int) (w : World) (hv : argL s.params i o = v) (hi0 : -9223372036854775808 ≤ i) (hi1 : i ≤ 9223372036854775807) (hl : s.params.length ≤ 4294967296) (hr : RdP w A s.params) :
    Calls Tryd.prog 21 #[sqV s A c, .int .i64 i, .int .i64 o] w fun e w' => e = .returned (.int .i64 v) ∧ Below w.heap.size w w' := by
  have hB : ∀ o, Below w.heap.size w (w.alloc o) := fun o => (Below.refl _ w).alloc (Nat.le_refl _) _
  have hr2 := hr.alloc (.cells (seqC s A c) 24)
  unfold seqC at hr2
  obtain ⟨np, hnp⟩ : ∃ np, s.params.length = np := ⟨_, rfl⟩
  have HNP := Lib.hid hnp
  rw [hnp] at hl hr2
  have HV := Lib.hid hv
  clear hv hr
  unfold sqV
  rw [hnp]
  clear hnp
  by_cases h1 : i < 0
  · have E := Lib.hid (show o = v by rw [← HV.out]; unfold argL; rw [if_pos (by omega)])
    go_enter Tryd.func21, Tryd.ntmps21
    go_wp2_with fail
    go_ret
    exact ⟨ret_i E.out, hB _⟩
  · by_cases h2 : (np : Int) ≤ i
    · have E := Lib.hid (show o = v by rw [← HV.out]; unfold argL; rw [if_pos (by rw [HNP.out]; omega)])
      go_enter Tryd.func21, Tryd.ntmps21
      go_wp2_with fail
      go_ret
      exact ⟨ret_i E.out, hB _⟩
    · obtain ⟨k, rfl⟩ : ∃ k : Nat, i = (k : Int) := ⟨i.toNat, by omega⟩
      have hk : k < np := by omega
      have hk1 : (k : Int) < (np : Int) := by omega
      have hk0 : (0 : Int) ≤ (k : Int) := by omega
      have hkp : k < s.params.length := by rw [HNP.out]; exact hk
      clear h1 h2
      obtain ⟨b, oo, hA, hb, hcc⟩ := hr2 (by rw [HNP.out]; omega)
      obtain ⟨A', c', hck, hrk⟩ := hcc k hkp
      cases hA
      obtain ⟨p, hp⟩ : ∃ p, s.params[k]'hkp = p := ⟨_, rfl⟩
      rw [hp] at hck hrk
      have HAL := Lib.hid (show headI o p = v by
        rw [← HV.out]
        unfold argL
        rw [if_neg (by rw [HNP.out]; omega), Int.toNat_natCast, List.getD_eq_getElem?_getD, List.getElem?_eq_getElem hkp, hp]; rfl)
      clear hp hcc
      cases p with
      | nil =>
        have E := Lib.hid (show o = v from HAL.out)
        clear HAL
        go_enter Tryd.func21, Tryd.ntmps21
        go_wp2_with fail
        go_ret
        exact ⟨ret_i E.out, hB _⟩
      | cons x p =>
        obtain ⟨b2, o2, hA2, hb2, hc2⟩ := hrk.int_at (by simp)
        cases hA2
        have hc0 := hc2 0 (by simp)
        rw [Nat.add_zero, List.getElem_cons_zero] at hc0
        obtain ⟨m, hm⟩ : ∃ m, (x :: p).length = m := ⟨_, rfl⟩
        have hm1 : 0 < m := by rw [← hm]; simp
        rw [hm] at hck
        have t1 : ((m : Int) == 0) = false := beq_false_of_ne (by omega)
        clear hc2 hrk hm
        by_cases hx : x < 0
        · have E := Lib.hid (show o = v by have : (if x < 0 then o else x) = v := HAL.out; rw [if_pos hx] at this; exact this)
          clear HAL
          go_enter Tryd.func21, Tryd.ntmps21
          go_wp2_with fail
          go_ret
          exact ⟨ret_i E.out, hB _⟩
        · have E := Lib.hid (show x = v by have : (if x < 0 then o else x) = v := HAL.out; rw [if_neg hx] at this; exact this)
          clear HAL
          go_enter Tryd.func21, Tryd.ntmps21
          go_wp2_with fail
          go_ret
          exact ⟨ret_i E.out, hB _⟩
end Go.Proofs.YtmmbfidnbdckmaaDoor
