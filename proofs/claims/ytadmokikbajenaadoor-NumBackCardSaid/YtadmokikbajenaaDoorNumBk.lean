/-
  Layer 1's law of numbers there and back, walked.
-/
import Derived.Test.YtadmokikbajenaaDoorNumW
import Derived.Test.YtadmokikbajenaaDoorNumM
import Derived.Test.YtadmokikbajenaaDoorOwn
namespace Go.Proofs.YtadmokikbajenaaDoor
open Go.RowKit

theorem min_eq (n : Int) (h0 : 0 ≤ n) (a : Nat) (h : (a : Int) = min n 1114111) : (if 1114111 < n then (1114111 : Int) else n) = a := by
  split <;> omega

set_option maxHeartbeats 2000000 in
theorem numBack_walk (n : Int) (h0 : -9223372036854775808 ≤ n) (h1 : n ≤ 9223372036854775807) (A : Option Addr) (l : List UInt8) (c : Nat) (w : World) (hr : Rd w A (bs l)) (htab : Tab w) :
    Calls Tryd.prog 5 #[.int .i64 n, .slice A l.length c] w fun e w' => e = .returned (.bool true) ∧ Below w.heap.size w w' := by
  obtain ⟨i0, hi, hz0, hz1, hz2⟩ := info_parts Tryd.u8info
  by_cases hlen : 100 < l.length
  · go_enter Tryd.func5, Tryd.ntmps5
    go_wp2_with fail
    refine (awake_any _ htab).mono ?_
    rintro e w1 ⟨rfl, hb1⟩
    go_wp2_with fail
    go_ret
    exact ⟨rfl, hb1⟩
  · have hl : l.length ≤ 100 := by omega
    by_cases hn : n < 0
    · cases l with
      | nil =>
        clear hlen hl
        go_enter Tryd.func5, Tryd.ntmps5
        go_wp2_with fail
        refine (awake_any _ htab).mono ?_
        rintro e w1 ⟨rfl, hb1⟩
        go_wp2_with fail
        go_ret
        exact ⟨rfl, hb1⟩
      | cons x r =>
        obtain ⟨b, o, rfl, hb, hc⟩ := hr.at_ (by simp)
        have hc0 := hc 0 (by simp)
        have hx := x.toNat_lt
        simp only [Nat.add_zero, List.getElem_cons_zero] at hc0
        go_enter Tryd.func5, Tryd.ntmps5
        go_wp2_with fail
        refine (awake_any _ htab).mono ?_
        rintro e w1 ⟨rfl, hb1⟩
        have hc1 := (hb1.cell (p := ⟨b, o, none⟩) hb).trans hc0
        go_wp2_with fail
        all_goals go_ret
        all_goals exact ⟨rfl, hb1⟩
    · have hn0 : 0 ≤ n := by omega
      have htl := textL_length n h1
      cases hm : l.head?.any isD with
      | true =>
        cases l with
        | nil => cases hm
        | cons x r =>
          obtain ⟨b, o, rfl, hb, hc⟩ := hr.at_ (by simp)
          have hc0 := hc 0 (by simp)
          have hx := x.toNat_lt
          have hd : 48 ≤ x.toNat ∧ x.toNat ≤ 57 := of_decide_eq_true hm
          obtain ⟨hd1, hd2⟩ := hd
          clear hm hc
          simp only [Nat.add_zero, List.getElem_cons_zero] at hc0
          go_enter Tryd.func5, Tryd.ntmps5
          go_wp2_with fail
          refine (awake_any _ htab).mono ?_
          rintro e w1 ⟨rfl, hb1⟩
          have hc1 := (hb1.cell (p := ⟨b, o, none⟩) hb).trans hc0
          go_wp2_with fail
          all_goals go_ret
          all_goals exact ⟨rfl, hb1⟩
      | false =>
        have HT := Lib.hid (take_text n hn0 l hm)
        have hone := bs_one l
        cases l with
        | nil =>
          clear hm hlen hl
          go_enter Tryd.func5, Tryd.ntmps5
          go_wp2_with fail
          refine (awake_any _ htab).mono ?_
          rintro e w1 ⟨rfl, hb1⟩
          go_wp2_with fail
          refine (text_any n _ h0 h1 (htab.below hb1)).mono ?_
          rintro e w2 ⟨rfl, hb2⟩
          have hb2 : Below w.heap.size w w2 := hb1.trans (hb2.mono hb1.size)
          have hsz : (⟨(textL n).toArray⟩ : ByteArray).size ≤ 21 := by show (textL n).toArray.size ≤ _; rw [List.size_toArray]; exact htl
          have hms : (⟨(textL n).toArray⟩ : ByteArray).size ≤ maxLen := by simp only [maxLen]; omega
          have h63 : (⟨(textL n).toArray⟩ : ByteArray).size + 0 ≤ maxLen := by simp only [maxLen]; omega
          have hlim : ((⟨(textL n).toArray⟩ : ByteArray).size + 0) * 1 ≤ 140737488355328 := by omega
          have hbs2 := hb2.size
          go_wp2_with (first
            | ((with_reducible refine list_conv _ rfl (.tmp 38) 9 22 rfl w.heap.size 5 ⟨(textL n).toArray⟩ ?_ Tryd.underlying9 Tryd.underlying22 Tryd.underlying5 hms hbs2 ?_); rfl; intro v3 w3 hown3 hg3
               have hb3 : Below w.heap.size w w3 := hb2.grown hg3 hbs2 (by simp)
               have hr3 := hr.below hb3
               have hbs3 := hb3.size)
            | (at_builtin; refine list_app _ rfl (.tmp 39) (.tmp 40) 22 rfl w.heap.size 5 i0 _ 1 1 Tryd.underlying22 hi hz0 hz1 hz2 rfl Nat.one_pos v3 _ _ rfl hown3 _ 0 c (bs []) rfl (by simp [bs]) hr3 hone h63 hlim hbs3 ?_; intro v4 w4 hown4 hg4))
          have hb4 : Below w.heap.size w w4 := hb3.grown hg4 hbs3 (fun g hg => (hown3.lt g hg).1)
          obtain ⟨A4, c4, rfl, hr4⟩ := hown4.form
          have hr4 : Rd w4 A4 (bs (textL n ++ [])) := by rw [bs_append]; exact hr4
          have hll : (textL n ++ []).length ≤ 4294967296 := by rw [List.length_append]; simp only [List.length_nil] at *; omega
          go_wp2_with fail
          refine (take_at A4 c4 (textL n ++ []) _ _ ?_ hll hr4).mono ?_
          · rw [List.length_append]; rfl
          rintro e w5 ⟨rfl, hb5⟩
          have hb5 : Below w.heap.size w w5 := hb4.trans (hb5.mono hb4.size)
          obtain ⟨P, hP⟩ : ∃ P : Int, (satv (textL n ++ []) : Int) = P := ⟨_, rfl⟩
          obtain ⟨D, hD⟩ : ∃ D : Nat, digs (textL n ++ []) = D := ⟨_, rfl⟩
          rw [hP, hD]
          have t1 : (P == min n 1114111) = true := beq_iff_eq.2 (hP.symm.trans HT.out.1)
          have t2 : ((D : Int) == ((textL n).length : Int)) = true := beq_iff_eq.2 (by rw [← hD, HT.out.2])
          clear hP hD hll hr4 hsz hms h63 hlim hown3 hown4 hr3 hg3 hg4 hone hbs2 hbs3
          go_wp2_with fail
          go_ret
          exact ⟨rfl, hb5⟩
        | cons x r =>
          obtain ⟨b, o, rfl, hb, hc⟩ := hr.at_ (by simp)
          have hc0 := hc 0 (by simp)
          have hx := x.toNat_lt
          have hd : ¬ (48 ≤ x.toNat ∧ x.toNat ≤ 57) := of_decide_eq_false hm
          have hl1 : r.length + 1 ≤ 100 := by simpa using hl
          clear hm hlen
          simp only [Nat.add_zero, List.getElem_cons_zero] at hc0
          by_cases hd1 : x.toNat < 48
          all_goals
            first
              | (have hd2 : 57 < x.toNat := by omega)
              | skip
            clear hd hc
            go_enter Tryd.func5, Tryd.ntmps5
            go_wp2_with fail
            refine (awake_any _ htab).mono ?_
            rintro e w1 ⟨rfl, hb1⟩
            have hc1 := (hb1.cell (p := ⟨b, o, none⟩) hb).trans hc0
            go_wp2_with fail
            refine (text_any n _ h0 h1 (htab.below hb1)).mono ?_
            rintro e w2 ⟨rfl, hb2⟩
            have hb2 : Below w.heap.size w w2 := hb1.trans (hb2.mono hb1.size)
            have hsz : (⟨(textL n).toArray⟩ : ByteArray).size ≤ 21 := by show (textL n).toArray.size ≤ _; rw [List.size_toArray]; exact htl
            have hms : (⟨(textL n).toArray⟩ : ByteArray).size ≤ maxLen := by simp only [maxLen]; omega
            have h63 : (⟨(textL n).toArray⟩ : ByteArray).size + (r.length + 1) ≤ maxLen := by simp only [maxLen]; omega
            have hlim : ((⟨(textL n).toArray⟩ : ByteArray).size + (r.length + 1)) * 1 ≤ 140737488355328 := by omega
            have hbs2 := hb2.size
            go_wp2_with (first
              | ((with_reducible refine list_conv _ rfl (.tmp 38) 9 22 rfl w.heap.size 5 ⟨(textL n).toArray⟩ ?_ Tryd.underlying9 Tryd.underlying22 Tryd.underlying5 hms hbs2 ?_); rfl; intro v3 w3 hown3 hg3
                 have hb3 : Below w.heap.size w w3 := hb2.grown hg3 hbs2 (by simp)
                 have hr3 := hr.below hb3
                 have hbs3 := hb3.size)
              | (at_builtin; refine list_app _ rfl (.tmp 39) (.tmp 40) 22 rfl w.heap.size 5 i0 _ 1 1 Tryd.underlying22 hi hz0 hz1 hz2 rfl Nat.one_pos v3 _ _ rfl hown3 _ (r.length + 1) c (bs (x :: r)) rfl (by simp [bs]) hr3 hone h63 hlim hbs3 ?_; intro v4 w4 hown4 hg4))
            have hb4 : Below w.heap.size w w4 := hb3.grown hg4 hbs3 (fun g hg => (hown3.lt g hg).1)
            obtain ⟨A4, c4, rfl, hr4⟩ := hown4.form
            have hr4 : Rd w4 A4 (bs (textL n ++ (x :: r))) := by rw [bs_append]; exact hr4
            have hll : (textL n ++ (x :: r)).length ≤ 4294967296 := by rw [List.length_append]; simp only [List.length_cons] at *; omega
            go_wp2_with fail
            refine (take_at A4 c4 (textL n ++ (x :: r)) _ _ ?_ hll hr4).mono ?_
            · rw [List.length_append]; rfl
            rintro e w5 ⟨rfl, hb5⟩
            have hb5 : Below w.heap.size w w5 := hb4.trans (hb5.mono hb4.size)
            obtain ⟨P, hP⟩ : ∃ P : Int, (satv (textL n ++ (x :: r)) : Int) = P := ⟨_, rfl⟩
            obtain ⟨D, hD⟩ : ∃ D : Nat, digs (textL n ++ (x :: r)) = D := ⟨_, rfl⟩
            rw [hP, hD]
            have t1 : (P == min n 1114111) = true := beq_iff_eq.2 (hP.symm.trans HT.out.1)
            have t2 : ((D : Int) == ((textL n).length : Int)) = true := beq_iff_eq.2 (by rw [← hD, HT.out.2])
            clear hP hD hll hr4 hsz hms h63 hlim hown3 hown4 hr3 hg3 hg4 hone hbs2 hbs3
            go_wp2_with fail
            go_ret
            exact ⟨rfl, hb5⟩
end Go.Proofs.YtadmokikbajenaaDoor
