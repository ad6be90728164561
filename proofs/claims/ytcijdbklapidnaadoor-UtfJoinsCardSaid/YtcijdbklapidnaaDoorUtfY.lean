/-
  Layer 2, walked: the document's Text; are two lists the same.
-/
import Derived.Test.YtcijdbklapidnaaDoorUtfX
import Derived.BigQuiet
import Derived.Deep.QuietTactic
namespace Go.Proofs.YtcijdbklapidnaaDoor
open Go.RowKit

set_option maxRecDepth 100000 in
set_option maxHeartbeats 2000000 in
theorem rtext_any (A : Option Addr) (c : Nat) (l : List Int) (w : World) (hl : l.length ≤ 268435456) (hr : Rd w A (is_ l)) :
    Calls Tryd.prog 17 #[.slice A l.length c] w (Tx (textL l) w) := by
  obtain ⟨i0, hi, hz0, hz1, hz2⟩ := info_parts Tryd.u8info
  go_enter Tryd.func17, Tryd.ntmps17
  go_wp2
  go_loopw [4, 5] (fun v i wr => ∃ k : Nat, k ≤ l.length ∧ i = .int .i64 k ∧ (l.take k).all isPt = true ∧ Own wr w.heap.size 5 1 v (catL (l.take k)).length (bs (catL (l.take k))) ∧ Below w.heap.size w wr) (fun _ i _ => l.length - (intOf i).toNat)
  case atStart => exact ⟨0, Nat.zero_le _, rfl, rfl, Own.nil_ _ _ _ _, Below.refl _ _⟩
  case round =>
    obtain ⟨k, hk, rfl, hall, hown, hbw⟩ := hrel
    have HA := Lib.hid hall
    clear hall
    by_cases hlt : k < l.length
    · obtain ⟨b, o, rfl, hb, hc⟩ := hr.int_at (by omega)
      have hck := (hbw.cell (p := ⟨b, o + k, none⟩) hb).trans (hc k hlt)
      have hcl := catL_length (l.take k)
      have hlk : (l.take k).length ≤ k := List.length_take_le _ _
      clear hc
      cases hp : isPt (l[k]'hlt) with
      | false =>
        have E := Lib.hid (tx_no hlt hp)
        have HP := Lib.hid hp
        clear hp
        go_wp2_with fail
        refine (risPt_any _ _).mono ?_
        rw [HP.out]
        rintro e w1 ⟨rfl, rfl⟩
        go_wp2_with fail
        go_ret2
        exact Tx.no E.out hbw
      | true =>
        have HP := Lib.hid hp
        have HL := Lib.hid (cat_len l k hlt hp)
        have HS := Lib.hid (cat_step l k hlt)
        have hpl := putL_length hp
        have hpc := (cnt_bd (l[k]'hlt)).2
        have HQ := Lib.hid hpl
        have hp4 := putL_le (l[k]'hlt)
        clear hp hpl
        have one := bs_one (putL (l[k]'hlt))
        have h63 : (catL (l.take k)).length + (putL (l[k]'hlt)).length ≤ maxLen := by simp only [maxLen]; omega
        have hlim : ((catL (l.take k)).length + (putL (l[k]'hlt)).length) * 1 ≤ 140737488355328 := by omega
        go_wp2_with fail
        refine (risPt_any _ _).mono ?_
        rw [HP.out]
        rintro e w1 ⟨rfl, rfl⟩
        go_wp2_with fail
        refine (rPut_any _ _).mono ?_
        rintro e w2 ⟨A3, c3, rfl, hr3, hb3⟩
        have hown2 := hown.behind hb3
        have hb2 := hbw.trans (hb3.mono hbw.size)
        have hs2 := hb2.size
        clear hb3
        go_wp2_with (at_builtin; refine list_app _ rfl (.tmp 18) (.tmp 23) 22 rfl w.heap.size 5 i0 _ 1 1 Tryd.underlying22 hi hz0 hz1 hz2 rfl Nat.one_pos _ _ _ rfl hown2 A3 _ c3 (bs (putL (l[k]'hlt))) rfl (by rw [bs_length, Nat.mul_one]) hr3 one h63 hlim hs2 ?_; intro v4 w4 hown4 hg4)
        have hb4 : Below w.heap.size w w4 := hb2.grown hg4 hs2 (fun g hg => (hown2.lt g hg).1)
        have ho : Own w4 w.heap.size 5 1 v4 (catL (l.take (k + 1))).length (bs (catL (l.take (k + 1)))) := by rw [HL.out, HS.out, ← HQ.out]; exact hown4
        clear hown4 hg4
        go_wp2_with fail
        go_roundw
        case rel => exact ⟨k + 1, by omega, by go_num, take_all hlt HA.out HP.out, ho, hb4⟩
        case measure => simp [intOf]; omega
    · have hkl : l.take k = l := List.take_of_length_le (by omega)
      rw [hkl] at hown HA
      have E := Lib.hid (tx_yes HA.out)
      clear hkl
      obtain ⟨A2, c2, rfl, hc2, hr2⟩ := hown.cap
      go_wp2
      go_ret2
      exact Tx.yes E.out hc2 hr2 hbw

set_option maxRecDepth 100000 in
set_option maxHeartbeats 2000000 in
theorem ints_any (A : Option Addr) (c : Nat) (a : List Int) (B : Option Addr) (d : Nat) (b : List Int) (w : World) (ha : a.length ≤ 268435456) (hb : b.length ≤ 268435456) (hra : Rd w A (is_ a)) (hrb : Rd w B (is_ b)) :
    Calls Tryd.prog 19 #[.slice A a.length c, .slice B b.length d] w fun e w' => e = .returned (.bool (decide (a = b))) ∧ Below w.heap.size w w' := by
  by_cases hlen : a.length = b.length
  · go_enter Tryd.func19, Tryd.ntmps19
    go_wp2
    go_loopw [5] (fun i wr => ∃ k : Nat, k ≤ a.length ∧ i = .int .i64 k ∧ a.take k = b.take k ∧ Below w.heap.size w wr) (fun i _ => a.length - (intOf i).toNat)
    case atStart => exact ⟨0, Nat.zero_le _, rfl, rfl, Below.refl _ _⟩
    case round =>
      obtain ⟨k, hk, rfl, hab, hbw⟩ := hrel
      have HAB := Lib.hid hab
      clear hab
      by_cases hlt : k < a.length
      · have hltb : k < b.length := by omega
        obtain ⟨p, o, rfl, hp, hc⟩ := hra.int_at (by omega)
        obtain ⟨q, u, rfl, hq, hd⟩ := hrb.int_at (by omega)
        have hck := (hbw.cell (p := ⟨p, o + k, none⟩) hp).trans (hc k hlt)
        have hdk := (hbw.cell (p := ⟨q, u + k, none⟩) hq).trans (hd k hltb)
        clear hc hd
        have g0 : (0 : Int) ≤ (k : Int) := by omega
        have g1 : (k : Int) < (a.length : Int) := by omega
        have g2 : (k : Int) < (b.length : Int) := by omega
        by_cases he : a[k]'hlt = b[k]'hltb
        · have H := Lib.hid (show a.take (k + 1) = b.take (k + 1) by rw [List.take_succ_eq_append_getElem hlt, List.take_succ_eq_append_getElem hltb, HAB.out, he])
          obtain ⟨x, hx⟩ : ∃ x, a[k]'hlt = x := ⟨_, rfl⟩
          obtain ⟨y, hy⟩ : ∃ y, b[k]'hltb = y := ⟨_, rfl⟩
          rw [hx] at hck he
          rw [hy] at hdk he
          subst he
          clear hx hy
          go_wp2
          go_quiet (fail)
          go_wp2
          go_roundw
          case rel => exact ⟨k + 1, by omega, by go_num, H.out, below_drewN hbw _⟩
          case measure => simp [intOf]; omega
        · have E := Lib.hid (show decide (a = b) = false from decide_eq_false (fun e => he (by subst e; rfl)))
          have t1 : (a[k]'hlt == b[k]'hltb) = false := beq_false_of_ne he
          have t2 : (a[k]'hlt != b[k]'hltb) = true := by simp [bne, t1]
          clear he
          go_wp2
          go_quiet (fail)
          go_wp2
          go_ret
          exact ⟨ret_b E.out.symm, below_drewN hbw _⟩
      · have E := Lib.hid (show decide (a = b) = true from decide_eq_true (by
          have h1 := HAB.out
          rw [List.take_of_length_le (by omega), List.take_of_length_le (by omega)] at h1
          exact h1))
        go_wp2
        go_ret
        exact ⟨ret_b E.out.symm, hbw⟩
  · have E := Lib.hid (show decide (a = b) = false from decide_eq_false (fun e => hlen (by rw [e])))
    have t1 : ((a.length : Int) == (b.length : Int)) = false := beq_false_of_ne (by omega)
    have t2 : ((a.length : Int) != (b.length : Int)) = true := by simp [bne, t1]
    clear hlen
    go_enter Tryd.func19, Tryd.ntmps19
    go_wp2
    go_ret
    exact ⟨ret_b E.out.symm, Below.refl _ _⟩
end Go.Proofs.YtcijdbklapidnaaDoor
