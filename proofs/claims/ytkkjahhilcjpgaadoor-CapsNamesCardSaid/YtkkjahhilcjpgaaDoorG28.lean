/-
  Layer 3, walked: two lists of numbers compared, by the document and by the library; lists of lists.
-/
import Derived.Test.YtkkjahhilcjpgaaDoorG02
import Derived.Test.YtkkjahhilcjpgaaDoorG15
namespace Go.Proofs.YtkkjahhilcjpgaaDoor
open Go.RowKit
set_option maxRecDepth 100000 in
set_option maxHeartbeats 4000000 in
theorem eqf_any (A B : Option Addr) (n m c d : Nat) (ps qs : List (List Int)) (q : Bool) (w : World) (hn : ps.length = n) (hm : qs.length = m) (hq : decide (ps = qs) = q) (hl : n ≤ 4294967296) (hl2 : m ≤ 4294967296) (hp : ∀ p ∈ ps, p.length ≤ 4294967296) (hq2 : ∀ p ∈ qs, p.length ≤ 4294967296) (hra : RdP w A ps) (hrb : RdP w B qs) :
 Calls Tryd.prog 45 #[.slice A n c, .slice B m d, .func (.func 46) #[] #[]] w fun e w' => e = .returned (.bool q) ∧ Below w.heap.size w w' := by
 have HN := Lib.hid hn
 have HM := Lib.hid hm
 have HQ := Lib.hid hq
 have HP := Lib.hid hp
 have HP2 := Lib.hid hq2
 clear hp hq2
 by_cases hlen : n = m
 ·subst hlen
  clear hn hm hq
  go_enter Tryd.func45, Tryd.ntmps45
  go_wp2_with fail
  go_loopw [17] (fun i wr => ∃ k : Nat, k ≤ n ∧ i = .int .i64 k ∧ ps.take k = qs.take k ∧ Below w.heap.size w wr) (fun i _ => n - (intOf i).toNat)
  case atStart => exact ⟨0, Nat.zero_le _, rfl, rfl, Below.refl _ _⟩
  case round =>
   obtain ⟨k, hk, rfl, hab, hbw⟩ := hrel
   have HAB := Lib.hid hab
   clear hab
   by_cases hlt : k < n
   ·have hka : k < ps.length := by rw [HN.out]; exact hlt
    have hkb : k < qs.length := by rw [HM.out]; exact hlt
    obtain ⟨p, o, hA, hpb, hc⟩ := (hra.below hbw) (by omega)
    obtain ⟨p2, o2, hA2, hpb2, hc2⟩ := (hrb.below hbw) (by omega)
    cases hA
    cases hA2
    obtain ⟨A1, c1, hck, hr1⟩ := hc k hka
    obtain ⟨A2, c2, hdk, hr2⟩ := hc2 k hkb
    have h1l := HP.out _ (List.getElem_mem hka)
    have h2l := HP2.out _ (List.getElem_mem hkb)
    obtain ⟨x, hx⟩ : ∃ x, ps[k]'hka = x := ⟨_, rfl⟩
    obtain ⟨y, hy⟩ : ∃ y, qs[k]'hkb = y := ⟨_, rfl⟩
    rw [hx] at hck hr1 h1l
    rw [hy] at hdk hr2 h2l
    have HX := Lib.hid hx
    have HY := Lib.hid hy
    clear hx hy hc hc2
    obtain ⟨nx, hnx⟩ : ∃ nx, x.length = nx := ⟨_, rfl⟩
    obtain ⟨ny, hny⟩ : ∃ ny, y.length = ny := ⟨_, rfl⟩
    rw [hnx] at hck h1l
    rw [hny] at hdk h2l
    have HNX := Lib.hid hnx
    have HNY := Lib.hid hny
    clear hnx hny
    cases he : decide (x = y) with
    | true =>
      have HE := Lib.hid he
      have H := Lib.hid (show ps.take (k + 1) = qs.take (k + 1) by rw [List.take_succ_eq_append_getElem hka, List.take_succ_eq_append_getElem hkb, HAB.out, HX.out, HY.out, of_decide_eq_true he])
      clear he
      go_wp2_with fail
      refine (eq_at A1 A2 nx ny c1 c2 x y true _ HNX.out HNY.out HE.out h1l h2l hr1 hr2).mono ?_
      rintro e w2 ⟨rfl, hb2⟩
      go_wp2_with fail
      go_roundw
      case rel => exact ⟨k + 1, by omega, by go_num, H.out, hbw.trans (hb2.mono hbw.size)⟩
      case measure => simp [intOf]; omega
    | false =>
      have HE := Lib.hid he
      have E := Lib.hid (show false = q by
       rw [← HQ.out]
       refine (decide_eq_false (fun e => of_decide_eq_false he ?_)).symm
       subst e
       exact HX.out.symm.trans HY.out)
      clear he
      go_wp2_with fail
      refine (eq_at A1 A2 nx ny c1 c2 x y false _ HNX.out HNY.out HE.out h1l h2l hr1 hr2).mono ?_
      rintro e w2 ⟨rfl, hb2⟩
      go_wp2_with fail
      go_ret
      exact ⟨ret_b E.out, hbw.trans (hb2.mono hbw.size)⟩
   ·have E := Lib.hid (show true = q by
     rw [← HQ.out]
     refine (decide_eq_true ?_).symm
     have h1 := HAB.out
     rw [List.take_of_length_le (by rw [HN.out]; omega), List.take_of_length_le (by rw [HM.out]; omega)] at h1
     exact h1)
    go_wp2_with fail
    go_ret
    exact ⟨ret_b E.out, hbw⟩
 ·have E := Lib.hid (show false = q by
   rw [← hq]
   refine (decide_eq_false (fun e => hlen ?_)).symm
   rw [← hn, ← hm, e])
  have t1 : ((n : Int) == (m : Int)) = false := beq_false_of_ne (by omega)
  have t2 : ((n : Int) != (m : Int)) = true := by simp [bne, t1]
  clear hlen hn hm hq
  go_enter Tryd.func45, Tryd.ntmps45
  go_wp2_with fail
  go_ret
  exact ⟨ret_b E.out, Below.refl _ _⟩
end Go.Proofs.YtkkjahhilcjpgaaDoor
