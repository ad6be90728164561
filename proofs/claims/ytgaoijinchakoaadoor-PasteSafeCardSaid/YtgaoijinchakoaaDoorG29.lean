/-
  Layer 3, walked: the program's isNone and paramsMay.
-/
import Derived.Test.YtgaoijinchakoaaDoorG08
import Derived.Test.YtgaoijinchakoaaDoorShelf
namespace Go.Proofs.YtgaoijinchakoaaDoor
open Go.RowKit
theorem none_key (ps : List (List Int)) : ps.length ≠ 1 ∧ decide (ps = [[-1]]) = false ∨ ∃ (h : ps.length = 1), ((ps[0]'(by omega)).length ≠ 1 ∧ decide (ps = [[-1]]) = false ∨ ∃ (h2 : (ps[0]'(by omega)).length = 1), ((ps[0]'(by omega))[0]'(by omega) ≠ -1 ∧ decide (ps = [[-1]]) = false ∨ (ps[0]'(by omega))[0]'(by omega) = -1 ∧ decide (ps = [[-1]]) = true)) := by
 by_cases h1 : ps.length = 1
 ·refine .inr ⟨h1, ?_⟩
  match ps, h1 with
  | [p], _ =>
    by_cases h2 : p.length = 1
    ·refine .inr ⟨h2, ?_⟩
     match p, h2 with
     | [x], _ =>
       by_cases h3 : x = -1
       ·exact .inr ⟨h3, by rw [h3]; rfl⟩
       ·exact .inl ⟨h3, decide_eq_false (by simpa using h3)⟩
    ·exact .inl ⟨h2, decide_eq_false (fun e => h2 (by injection e with e; rw [e]; rfl))⟩
 ·exact .inl ⟨h1, decide_eq_false (fun e => h1 (by rw [e]; rfl))⟩
set_option maxRecDepth 100000 in
set_option maxHeartbeats 4000000 in
theorem isNone_any (A : Option Addr) (n c : Nat) (ps : List (List Int)) (q : Bool) (w : World) (hn : ps.length = n) (hq : decide (ps = [[-1]]) = q) (hl : n ≤ 4294967296) (hr : RdP w A ps) :
 Calls Tryd.prog 59 #[.slice A n c] w fun e w' => e = .returned (.bool q) ∧ w = w' := by
 subst hn
 rcases none_key ps with ⟨h1, h⟩ | ⟨h1, ⟨h2, h⟩ | ⟨h2, ⟨h3, h⟩ | ⟨h3, h⟩⟩⟩
 all_goals
  rw [h] at hq
  subst hq
  clear h
 ·have t1 : ((ps.length : Int) == 1) = false := beq_false_of_ne (by omega)
  clear h1
  go_enter Tryd.func59, Tryd.ntmps59
  go_wp2
  go_ret
  exact ⟨rfl, rfl⟩
 ·obtain ⟨b, o, hA, hb, hcc⟩ := hr (by omega)
  obtain ⟨A', c', hck, hrk⟩ := hcc 0 (by omega)
  rw [Nat.add_zero] at hck
  cases hA
  obtain ⟨m, hm⟩ : ∃ m, (ps[0]'(by omega)).length = m := ⟨_, rfl⟩
  rw [hm] at hck h2
  clear hm hcc hrk
  have t1 : ((ps.length : Int) == 1) = true := beq_iff_eq.2 (by omega)
  have p0 : 0 < ps.length := by omega
  have t2 : ((m : Int) == 1) = false := beq_false_of_ne (by omega)
  clear h1 h2
  go_enter Tryd.func59, Tryd.ntmps59
  go_wp2
  go_ret
  exact ⟨rfl, rfl⟩
 all_goals
  obtain ⟨b, o, hA, hb, hcc⟩ := hr (by omega)
  obtain ⟨A', c', hck, hrk⟩ := hcc 0 (by omega)
  rw [Nat.add_zero] at hck
  obtain ⟨b2, o2, hA2, hb2, hc2⟩ := hrk.int_at (by omega)
  have hc3 := hc2 0 (by omega)
  rw [Nat.add_zero] at hc3
  cases hA
  cases hA2
  obtain ⟨x, hx⟩ : ∃ x, (ps[0]'(by omega))[0]'(by omega) = x := ⟨_, rfl⟩
  rw [hx] at hc3 h3
  rw [h2] at hck
  have t1 : ((ps.length : Int) == 1) = true := beq_iff_eq.2 (by omega)
  have p0 : 0 < ps.length := by omega
  clear hx hc2 hcc hrk h2 h1
 ·have t3 : (x == -1) = false := beq_false_of_ne h3
  clear h3
  go_enter Tryd.func59, Tryd.ntmps59
  go_wp2
  go_ret
  exact ⟨rfl, rfl⟩
 ·subst h3
  go_enter Tryd.func59, Tryd.ntmps59
  go_wp2
  go_ret
  exact ⟨rfl, rfl⟩
theorem fold_min (l : List Int) : ∀ a m : Int, m ≤ l.foldl min a ↔ m ≤ a ∧ ∀ x ∈ l, m ≤ x := by
 induction l with
 | nil => intro a m; simp
 | cons c l ih =>
   intro a m
   rw [List.foldl_cons, ih]
   simp only [List.mem_cons, forall_eq_or_imp]
   exact ⟨fun h => ⟨by omega, by omega, h.2⟩, fun h => ⟨by omega, h.2.2⟩⟩
theorem fold_max (l : List Int) : ∀ a m : Int, l.foldl max a ≤ m ↔ a ≤ m ∧ ∀ x ∈ l, x ≤ m := by
 induction l with
 | nil => intro a m; simp
 | cons c l ih =>
   intro a m
   rw [List.foldl_cons, ih]
   simp only [List.mem_cons, forall_eq_or_imp]
   exact ⟨fun h => ⟨by omega, by omega, h.2⟩, fun h => ⟨by omega, h.2.2⟩⟩
theorem part_minmax {p : List Int} (h : 1 ≤ p.length) : p.all numOk = true ↔ -1 ≤ Lib.minOf p ∧ Lib.maxOf p ≤ 1114111 := by
 match p, h with
 | a :: p, _ =>
   unfold Lib.minOf Lib.maxOf
   rw [fold_min, fold_max]
   simp only [List.headD_cons, List.all_eq_true, numOk_iff]
   constructor
   ·intro h
    exact ⟨⟨(h a (List.mem_cons_self ..)).1, fun x hx => (h x hx).1⟩, (h a (List.mem_cons_self ..)).2, fun x hx => (h x hx).2⟩
   ·intro h x hx
    exact ⟨h.1.2 x hx, h.2.2 x hx⟩
set_option maxRecDepth 100000 in
set_option maxHeartbeats 4000000 in
theorem pparams_any (A : Option Addr) (c : Nat) (ps : List (List Int)) (q : Bool) (w : World) (hq : parOk ps = q) (hl : ps.length ≤ 4294967296) (hp : ∀ p ∈ ps, p.length ≤ 4294967296) (hr : RdP w A ps) :
 Calls Tryd.prog 54 #[.slice A ps.length c] w fun e w' => e = .returned (.bool q) ∧ w = w' := by
 by_cases h16 : 16 < ps.length
 ·obtain rfl : false = q := (par_long h16).symm.trans hq
  clear hq
  go_enter Tryd.func54, Tryd.ntmps54
  go_wp2
  go_ret
  exact ⟨rfl, rfl⟩
 ·have HQ := Lib.hid hq
  clear hq
  cases hN : decide (ps = [[-1]]) with
  | true =>
    have HN := Lib.hid hN
    have he := of_decide_eq_true hN
    obtain rfl : false = q := by rw [← HQ.out, he]; rfl
    clear hN he
    go_enter Tryd.func54, Tryd.ntmps54
    go_wp2_with fail
    refine (isNone_any A _ c ps true _ rfl HN.out hl hr).mono ?_
    rintro e w1 ⟨rfl, rfl⟩
    go_wp2_with fail
    go_ret
    exact ⟨rfl, rfl⟩
  | false =>
    have HN := Lib.hid hN
    have HNE := Lib.hid (of_decide_eq_false hN)
    clear hN
    go_enter Tryd.func54, Tryd.ntmps54
    go_wp2_with fail
    refine (isNone_any A _ c ps false _ rfl HN.out hl hr).mono ?_
    rintro e w1 ⟨rfl, rfl⟩
    go_wp2_with fail
    go_loop [14] (fun i => ∃ k : Nat, k ≤ ps.length ∧ i = .int .i64 k ∧ (ps.take k).all partB = true) (fun i => ps.length - (intOf i).toNat)
    case atStart => exact ⟨0, Nat.zero_le _, rfl, rfl⟩
    case round =>
     obtain ⟨k, hk, rfl, hall⟩ := hrel
     have HA := Lib.hid hall
     clear hall
     by_cases hlt : k < ps.length
     ·obtain ⟨b, o, hA, hb, hcc⟩ := hr (by omega)
      cases hA
      obtain ⟨A', c', hck, hrk⟩ := hcc k hlt
      obtain ⟨p, hp'⟩ : ∃ p, (ps[k]'hlt) = p := ⟨_, rfl⟩
      have hpl := hp _ (List.getElem_mem hlt)
      rw [hp'] at hck hrk hpl
      have HP := Lib.hid hp'
      clear hp' hcc
      obtain ⟨n, hn⟩ : ∃ n, p.length = n := ⟨_, rfl⟩
      rw [hn] at hck hpl
      have HLN := Lib.hid hn
      clear hn
      by_cases hs : 1 ≤ n ∧ n ≤ 8
      ·obtain ⟨n1, n8⟩ := hs
       obtain ⟨b2, o2, hA2, hb2, hc2⟩ := hrk.int_at (by rw [HLN.out]; omega)
       cases hA2
       have HC2 := Lib.hid (fun j (hj : j < p.length) => (hc2 j hj).trans (show some (Value.int .i64 p[j]) = some (.int .i64 (p.getD j 0)) by rw [List.getD_eq_getElem?_getD, List.getElem?_eq_getElem hj]; rfl))
       clear hc2
       have HT := Lib.hid (show p.take n = p from List.take_of_length_le (by rw [HLN.out]; omega))
       have HM := Lib.hid (part_minmax (p := p) (by rw [HLN.out]; omega))
       obtain ⟨mn, hmn⟩ : ∃ mn, Lib.minOf (p.take n) = mn := ⟨_, rfl⟩
       obtain ⟨mx, hmx⟩ : ∃ mx, Lib.maxOf (p.take n) = mx := ⟨_, rfl⟩
       have HMN := Lib.hid hmn
       have HMX := Lib.hid hmx
       clear hmn hmx
       by_cases m1 : -1 ≤ mn
       ·by_cases m2 : mx ≤ 1114111
        ·have E := Lib.hid (show (ps.take (k + 1)).all partB = true by
          rw [List.take_succ_eq_append_getElem hlt, List.all_append, HA.out, HP.out]
          simp only [List.all_cons, List.all_nil, Bool.and_true, Bool.true_and]
          refine partB_yes (by rw [HLN.out]; omega) (by rw [HLN.out]; omega) (HM.out.2 ?_)
          have e1 := HMN.out
          have e2 := HMX.out
          rw [HT.out] at e1 e2
          rw [e1, e2]
          exact ⟨m1, m2⟩)
         go_wp2_with fail
         refine (Tryd.slices_Min_int _ _ n _ p _ (by omega) (by rw [HLN.out]; omega) (by omega) HC2.out).mono ?_
         rw [HMN.out]
         rintro e w1 ⟨rfl, rfl⟩
         go_wp2_with fail
         refine (Tryd.slices_Max_int _ _ n _ p _ (by omega) (by rw [HLN.out]; omega) (by omega) HC2.out).mono ?_
         rw [HMX.out]
         rintro e w1 ⟨rfl, rfl⟩
         go_wp2_with fail
         go_round
         case rel => exact ⟨k + 1, by omega, by go_num, E.out⟩
         case measure => simp [intOf]; omega
        ·have E := Lib.hid (show false = q by
          rw [← HQ.out]
          refine (par_no hlt ?_).symm
          rw [HP.out]
          cases hB : partB p with
          | false => rfl
          | true =>
            exfalso
            unfold partB at hB
            simp only [Bool.and_eq_true] at hB
            have := (HM.out.1 hB.2).2
            have e2 := HMX.out
            rw [HT.out] at e2
            omega)
         go_wp2_with fail
         refine (Tryd.slices_Min_int _ _ n _ p _ (by omega) (by rw [HLN.out]; omega) (by omega) HC2.out).mono ?_
         rw [HMN.out]
         rintro e w1 ⟨rfl, rfl⟩
         go_wp2_with fail
         refine (Tryd.slices_Max_int _ _ n _ p _ (by omega) (by rw [HLN.out]; omega) (by omega) HC2.out).mono ?_
         rw [HMX.out]
         rintro e w1 ⟨rfl, rfl⟩
         go_wp2_with fail
         go_ret
         exact ⟨ret_b E.out, rfl⟩
       ·have E := Lib.hid (show false = q by
         rw [← HQ.out]
         refine (par_no hlt ?_).symm
         rw [HP.out]
         cases hB : partB p with
         | false => rfl
         | true =>
           exfalso
           unfold partB at hB
           simp only [Bool.and_eq_true] at hB
           have := (HM.out.1 hB.2).1
           have e2 := HMN.out
           rw [HT.out] at e2
           omega)
        go_wp2_with fail
        refine (Tryd.slices_Min_int _ _ n _ p _ (by omega) (by rw [HLN.out]; omega) (by omega) HC2.out).mono ?_
        rw [HMN.out]
        rintro e w1 ⟨rfl, rfl⟩
        go_wp2_with fail
        go_ret
        exact ⟨ret_b E.out, rfl⟩
      ·have E := Lib.hid (show false = q by
        rw [← HQ.out]
        refine (par_no hlt ?_).symm
        rw [HP.out]
        exact part_len (by rw [HLN.out]; exact hs))
       by_cases n1 : n < 1
       ·clear hs
        go_wp2_with fail
        go_ret
        exact ⟨ret_b E.out, rfl⟩
       ·have n8 : 8 < n := by omega
        clear hs
        go_wp2_with fail
        go_ret
        exact ⟨ret_b E.out, rfl⟩
     ·have E := Lib.hid (show true = q by
       have := HA.out
       rw [List.take_of_length_le (by omega)] at this
       rw [← HQ.out]
       exact (parOk_yes (by omega) HNE.out this).symm)
      go_wp2_with fail
      go_ret
      exact ⟨ret_b E.out, rfl⟩
end Go.Proofs.YtgaoijinchakoaaDoor
