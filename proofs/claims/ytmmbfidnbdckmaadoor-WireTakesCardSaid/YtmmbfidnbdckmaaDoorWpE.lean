/-
  Layer 3, walked: two lists of numbers compared, by the document and by the library; lists of lists.
-/
import Derived.Test.YtmmbfidnbdckmaaDoorInts
import Derived.Test.YtmmbfidnbdckmaaDoorWirQ
namespace Go.Proofs.YtmmbfidnbdckmaaDoor
open Go.RowKit

set_option maxRecDepth 100000 in
set_option maxHeartbeats 4000000 in
theorem ints_any (A B : Option Addr) (c d : Nat) (a b : List Int) (w : World) (hl : a.length ≤ 4294967296) (hl2 : b.length ≤ 4294967296) (hra : Rd w A (is_ a)) (hrb : Rd w B (is_ b)) :
    Calls Tryd.prog 38 #[.slice A a.length c, .slice B b.length d] w fun e w' => e = .returned (.bool (decide (a = b))) ∧ Below w.heap.size w w' := by
  by_cases hlen : a.length = b.length
  · go_enter Tryd.func38, Tryd.ntmps38
    go_wp2
    go_loopw [5] (fun i wr => ∃ k : Nat, k ≤ a.length ∧ i = .int .i64 k ∧ a.take k = b.take k ∧ Below w.heap.size w wr) (fun i _ => a.length - (intOf i).toNat)
    case atStart => exact ⟨0, Nat.zero_le _, rfl, rfl, Below.refl _ _⟩
    case round =>
      obtain ⟨k, hk, rfl, hab, hbw⟩ := hrel
      have HAB := Lib.hid hab
      clear hab
      by_cases hlt : k < a.length
      · have hltb : k < b.length := by omega
        obtain ⟨p, o, rfl, hp, hc⟩ := hra.int_at (by omega)
        obtain ⟨q, u, rfl, hq, hd⟩ := hrb.int_at (by omega)
        have hck := (hbw.cell (p := ⟨p, o + k, none⟩) hp).trans (hc k hlt)
        have hdk := (hbw.cell (p := ⟨q, u + k, none⟩) hq).trans (hd k hltb)
        clear hc hd
        have g0 : (0 : Int) ≤ (k : Int) := by omega
        have g1 : (k : Int) < (a.length : Int) := by omega
        have g2 : (k : Int) < (b.length : Int) := by omega
        by_cases he : a[k]'hlt = b[k]'hltb
        · have H := Lib.hid (show a.take (k + 1) = b.take (k + 1) by rw [List.take_succ_eq_append_getElem hlt, List.take_succ_eq_append_getElem hltb, HAB.out, he])
          obtain ⟨x, hx⟩ : ∃ x, a[k]'hlt = x := ⟨_, rfl⟩
          obtain ⟨y, hy⟩ : ∃ y, b[k]'hltb = y := ⟨_, rfl⟩
          rw [hx] at hck he
          rw [hy] at hdk he
          subst he
          clear hx hy
          go_wp2
          go_quiet (fail)
          go_wp2
          go_roundw
          case rel => exact ⟨k + 1, by omega, by go_num, H.out, below_drewN hbw _⟩
          case measure => simp [intOf]; omega
        · have E := Lib.hid (show decide (a = b) = false from decide_eq_false (fun e => he (by subst e; rfl)))
          have t1 : (a[k]'hlt == b[k]'hltb) = false := beq_false_of_ne he
          have t2 : (a[k]'hlt != b[k]'hltb) = true := by simp [bne, t1]
          clear he
          go_wp2
          go_quiet (fail)
          go_wp2
          go_ret
          exact ⟨ret_b E.out.symm, below_drewN hbw _⟩
      · have E := Lib.hid (show decide (a = b) = true from decide_eq_true (by
          have h1 := HAB.out
          rw [List.take_of_length_le (by omega), List.take_of_length_le (by omega)] at h1
          exact h1))
        go_wp2
        go_ret
        exact ⟨ret_b E.out.symm, hbw⟩
  · have E := Lib.hid (show decide (a = b) = false from decide_eq_false (fun e => hlen (by rw [e])))
    have t1 : ((a.length : Int) == (b.length : Int)) = false := beq_false_of_ne (by omega)
    have t2 : ((a.length : Int) != (b.length : Int)) = true := by simp [bne, t1]
    clear hlen
    go_enter Tryd.func38, Tryd.ntmps38
    go_wp2
    go_ret
    exact ⟨ret_b E.out.symm, Below.refl _ _⟩

set_option maxRecDepth 100000 in
set_option maxHeartbeats 4000000 in
theorem eq_any (A B : Option Addr) (c d : Nat) (a b : List Int) (w : World) (hl : a.length ≤ 4294967296) (hl2 : b.length ≤ 4294967296) (hra : Rd w A (is_ a)) (hrb : Rd w B (is_ b)) :
    Calls Tryd.prog 40 #[.slice A a.length c, .slice B b.length d] w fun e w' => e = .returned (.bool (decide (a = b))) ∧ Below w.heap.size w w' := by
  by_cases hlen : a.length = b.length
  · go_enter Tryd.func40, Tryd.ntmps40
    go_wp2
    go_loopw [13] (fun i wr => ∃ k : Nat, k ≤ a.length ∧ i = .int .i64 k ∧ a.take k = b.take k ∧ Below w.heap.size w wr) (fun i _ => a.length - (intOf i).toNat)
    case atStart => exact ⟨0, Nat.zero_le _, rfl, rfl, Below.refl _ _⟩
    case round =>
      obtain ⟨k, hk, rfl, hab, hbw⟩ := hrel
      have HAB := Lib.hid hab
      clear hab
      by_cases hlt : k < a.length
      · have hltb : k < b.length := by omega
        obtain ⟨p, o, rfl, hp, hc⟩ := hra.int_at (by omega)
        obtain ⟨q, u, rfl, hq, hd⟩ := hrb.int_at (by omega)
        have hck := (hbw.cell (p := ⟨p, o + k, none⟩) hp).trans (hc k hlt)
        have hdk := (hbw.cell (p := ⟨q, u + k, none⟩) hq).trans (hd k hltb)
        clear hc hd
        have g0 : (0 : Int) ≤ (k : Int) := by omega
        have g1 : (k : Int) < (a.length : Int) := by omega
        have g2 : (k : Int) < (b.length : Int) := by omega
        by_cases he : a[k]'hlt = b[k]'hltb
        · have H := Lib.hid (show a.take (k + 1) = b.take (k + 1) by rw [List.take_succ_eq_append_getElem hlt, List.take_succ_eq_append_getElem hltb, HAB.out, he])
          obtain ⟨x, hx⟩ : ∃ x, a[k]'hlt = x := ⟨_, rfl⟩
          obtain ⟨y, hy⟩ : ∃ y, b[k]'hltb = y := ⟨_, rfl⟩
          rw [hx] at hck he
          rw [hy] at hdk he
          subst he
          clear hx hy
          go_wp2
          go_quiet (fail)
          go_wp2
          go_roundw
          case rel => exact ⟨k + 1, by omega, by go_num, H.out, below_drewN hbw _⟩
          case measure => simp [intOf]; omega
        · have E := Lib.hid (show decide (a = b) = false from decide_eq_false (fun e => he (by subst e; rfl)))
          have t1 : (a[k]'hlt == b[k]'hltb) = false := beq_false_of_ne he
          have t2 : (a[k]'hlt != b[k]'hltb) = true := by simp [bne, t1]
          clear he
          go_wp2
          go_quiet (fail)
          go_wp2
          go_ret
          exact ⟨ret_b E.out.symm, below_drewN hbw _⟩
      · have E := Lib.hid (show decide (a = b) = true from decide_eq_true (by
          have h1 := HAB.out
          rw [List.take_of_length_le (by omega), List.take_of_length_le (by omega)] at h1
          exact h1))
        go_wp2
        go_ret
        exact ⟨ret_b E.out.symm, hbw⟩
  · have E := Lib.hid (show decide (a = b) = false from decide_eq_false (fun e => hlen (by rw [e])))
    have t1 : ((a.length : Int) == (b.length : Int)) = false := beq_false_of_ne (by omega)
    have t2 : ((a.length : Int) != (b.length : Int)) = true := by simp [bne, t1]
    clear hlen
    go_enter Tryd.func40, Tryd.ntmps40
    go_wp2
    go_ret
    exact ⟨ret_b E.out.symm, Below.refl _ _⟩

theorem ints_at (A B : Option Addr) (n m c d : Nat) (a b : List Int) (q : Bool) (w : World) (hn : a.length = n) (hm : b.length = m) (hq : decide (a = b) = q) (hl : n ≤ 4294967296) (hl2 : m ≤ 4294967296) (hra : Rd w A (is_ a)) (hrb : Rd w B (is_ b)) :
    Calls Tryd.prog 38 #[.slice A n c, .slice B m d] w fun e w' => e = .returned (.bool q) ∧ Below w.heap.size w w' := by
  subst hn hm hq
  exact ints_any A B c d a b w hl hl2 hra hrb
theorem eq_at (A B : Option Addr) (n m c d : Nat) (a b : List Int) (q : Bool) (w : World) (hn : a.length = n) (hm : b.length = m) (hq : decide (a = b) = q) (hl : n ≤ 4294967296) (hl2 : m ≤ 4294967296) (hra : Rd w A (is_ a)) (hrb : Rd w B (is_ b)) :
    Calls Tryd.prog 40 #[.slice A n c, .slice B m d] w fun e w' => e = .returned (.bool q) ∧ Below w.heap.size w w' := by
  subst hn hm hq
  exact eq_any A B c d a b w hl hl2 hra hrb

set_option maxRecDepth 100000 in
set_option maxHeartbeats 4000000 in
theorem eqf_any (A B : Option Addr) (n m c d : Nat) (ps qs : List (List Int)) (q : Bool) (w : World) (hn : ps.length = n) (hm : qs.length = m) (hq : decide (ps = qs) = q) (hl : n ≤ 4294967296) (hl2 : m ≤ 4294967296) (hp : ∀ p ∈ ps, p.length ≤ 4294967296) (hq2 : ∀ p ∈ qs, p.length ≤ 4294967296) (hra : RdP w A ps) (hrb : RdP w B qs) :
    Calls Tryd.prog 39 #[.slice A n c, .slice B m d, .func (.func 40) #[] #[]] w fun e w' => e = .returned (.bool q) ∧ Below w.heap.size w w' := by
  have HN := Lib.hid hn
  have HM := Lib.hid hm
  have HQ := Lib.hid hq
  have HP := Lib.hid hp
  have HP2 := Lib.hid hq2
  clear hp hq2
  by_cases hlen : n = m
  · subst hlen
    clear hn hm hq
    go_enter Tryd.func39, Tryd.ntmps39
    go_wp2_with fail
    go_loopw [17] (fun i wr => ∃ k : Nat, k ≤ n ∧ i = .int .i64 k ∧ ps.take k = qs.take k ∧ Below w.heap.size w wr) (fun i _ => n - (intOf i).toNat)
    case atStart => exact ⟨0, Nat.zero_le _, rfl, rfl, Below.refl _ _⟩
    case round =>
      obtain ⟨k, hk, rfl, hab, hbw⟩ := hrel
      have HAB := Lib.hid hab
      clear hab
      by_cases hlt : k < n
      · have hka : k < ps.length := by rw [HN.out]; exact hlt
        have hkb : k < qs.length := by rw [HM.out]; exact hlt
        obtain ⟨p, o, hA, hpb, hc⟩ := (hra.below hbw) (by omega)
        obtain ⟨p2, o2, hA2, hpb2, hc2⟩ := (hrb.below hbw) (by omega)
        cases hA
        cases hA2
        obtain ⟨A1, c1, hck, hr1⟩ := hc k hka
        obtain ⟨A2, c2, hdk, hr2⟩ := hc2 k hkb
        have h1l := HP.out _ (List.getElem_mem hka)
        have h2l := HP2.out _ (List.getElem_mem hkb)
        obtain ⟨x, hx⟩ : ∃ x, ps[k]'hka = x := ⟨_, rfl⟩
        obtain ⟨y, hy⟩ : ∃ y, qs[k]'hkb = y := ⟨_, rfl⟩
        rw [hx] at hck hr1 h1l
        rw [hy] at hdk hr2 h2l
        have HX := Lib.hid hx
        have HY := Lib.hid hy
        clear hx hy hc hc2
        obtain ⟨nx, hnx⟩ : ∃ nx, x.length = nx := ⟨_, rfl⟩
        obtain ⟨ny, hny⟩ : ∃ ny, y.length = ny := ⟨_, rfl⟩
        rw [hnx] at hck h1l
        rw [hny] at hdk h2l
        have HNX := Lib.hid hnx
        have HNY := Lib.hid hny
        clear hnx hny
        cases he : decide (x = y) with
        | true =>
          have HE := Lib.hid he
          have H := Lib.hid (show ps.take (k + 1) = qs.take (k + 1) by rw [List.take_succ_eq_append_getElem hka, List.take_succ_eq_append_getElem hkb, HAB.out, HX.out, HY.out, of_decide_eq_true he])
          clear he
          go_wp2_with fail
          refine (eq_at A1 A2 nx ny c1 c2 x y true _ HNX.out HNY.out HE.out h1l h2l hr1 hr2).mono ?_
          rintro e w2 ⟨rfl, hb2⟩
          go_wp2_with fail
          go_roundw
          case rel => exact ⟨k + 1, by omega, by go_num, H.out, hbw.trans (hb2.mono hbw.size)⟩
          case measure => simp [intOf]; omega
        | false =>
          have HE := Lib.hid he
          have E := Lib.hid (show false = q by
            rw [← HQ.out]
            refine (decide_eq_false (fun e => of_decide_eq_false he ?_)).symm
            subst e
            exact HX.out.symm.trans HY.out)
          clear he
          go_wp2_with fail
          refine (eq_at A1 A2 nx ny c1 c2 x y false _ HNX.out HNY.out HE.out h1l h2l hr1 hr2).mono ?_
          rintro e w2 ⟨rfl, hb2⟩
          go_wp2_with fail
          go_ret
          exact ⟨ret_b E.out, hbw.trans (hb2.mono hbw.size)⟩
      · have E := Lib.hid (show true = q by
          rw [← HQ.out]
          refine (decide_eq_true ?_).symm
          have h1 := HAB.out
          rw [List.take_of_length_le (by rw [HN.out]; omega), List.take_of_length_le (by rw [HM.out]; omega)] at h1
          exact h1)
        go_wp2_with fail
        go_ret
        exact ⟨ret_b E.out, hbw⟩
  · have E := Lib.hid (show false = q by
      rw [← hq]
      refine (decide_eq_false (fun e => hlen ?_)).symm
      rw [← hn, ← hm, e])
    have t1 : ((n : Int) == (m : Int)) = false := beq_false_of_ne (by omega)
    have t2 : ((n : Int) != (m : Int)) = true := by simp [bne, t1]
    clear hlen hn hm hq
    go_enter Tryd.func39, Tryd.ntmps39
    go_wp2_with fail
    go_ret
    exact ⟨ret_b E.out, Below.refl _ _⟩
end Go.Proofs.YtmmbfidnbdckmaaDoor
