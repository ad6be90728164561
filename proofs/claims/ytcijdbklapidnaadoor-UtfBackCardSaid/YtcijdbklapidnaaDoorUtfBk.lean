/-
  Layer 2's law of code points there and back, walked.
-/
import Derived.Test.YtcijdbklapidnaaDoorUtfW
namespace Go.Proofs.YtcijdbklapidnaaDoor
open Go.RowKit

set_option maxRecDepth 100000 in
set_option maxHeartbeats 4000000 in
theorem utfBack_walk (n : Int) (_ : -9223372036854775808 ≤ n) (_ : n ≤ 9223372036854775807) (A : Option Addr) (l : List UInt8) (c : Nat) (_ : l.length ≤ c) (w : World) (hr : Rd w A (bs l)) (hs : Siz w) :
    Calls Tryd.prog 5 #[.int .i64 n, .slice A l.length c] w fun e w' => e = .returned (.bool true) ∧ Below w.heap.size w w' := by
  obtain ⟨i0, hi, hz0, hz1, hz2⟩ := info_parts Tryd.u8info
  by_cases hlen : 100 < l.length
  · go_enter Tryd.func5, Tryd.ntmps5
    go_wp2_with fail
    refine (awake_any _ hs).mono ?_
    rintro e w1 ⟨rfl, hb1⟩
    go_wp2_with fail
    go_ret
    exact ⟨rfl, hb1⟩
  · have hl : l.length ≤ 100 := by omega
    clear hlen
    cases hp : isPt n with
    | false =>
      have HP := Lib.hid hp
      clear hp
      go_enter Tryd.func5, Tryd.ntmps5
      go_wp2_with fail
      refine (awake_any _ hs).mono ?_
      rintro e w1 ⟨rfl, hb1⟩
      go_wp2_with fail
      refine (Put_at n [] 0 (putL_no HP.out) rfl _ (hs.below' hb1)).mono ?_
      rintro e w2 ⟨A2, c2, rfl, hr2, hb2⟩
      have hb2 : Below w.heap.size w w2 := hb1.trans (hb2.mono hb1.size)
      go_wp2_with fail
      refine (risPt_any n _).mono ?_
      rw [HP.out]
      rintro e w3 ⟨rfl, rfl⟩
      go_wp2_with fail
      go_ret
      exact ⟨rfl, hb2⟩
    | true =>
      have HT := Lib.hid (take_put hp l)
      have hpl := putL_length hp
      obtain ⟨c1, c4⟩ := cnt_bd n
      obtain ⟨U, hU⟩ : ∃ U, putL n = U := ⟨_, rfl⟩
      rw [hU] at hpl
      have HTT := Lib.hid (show takeL (U ++ l) = (n, U.length) by rw [← hU, HT.out, hU, hpl])
      have HU := Lib.hid hU
      have HP := Lib.hid hp
      have u1 : 1 ≤ U.length := by omega
      have u4 : U.length ≤ 4 := by omega
      clear hp HT hpl hU c1 c4
      have h1 : 0 + U.length ≤ maxLen := by simp only [maxLen]; omega
      have h2 : (0 + U.length) * 1 ≤ 140737488355328 := by omega
      have h3 : 0 + U.length + l.length ≤ maxLen := by simp only [maxLen]; omega
      have h4 : (0 + U.length + l.length) * 1 ≤ 140737488355328 := by omega
      have oa := bs_one U
      have ob := bs_one l
      go_enter Tryd.func5, Tryd.ntmps5
      go_wp2_with fail
      refine (awake_any _ hs).mono ?_
      rintro e w1 ⟨rfl, hb1⟩
      go_wp2_with fail
      refine (Put_at n U U.length HU.out rfl _ (hs.below' hb1)).mono ?_
      rintro e w2 ⟨A2, c2, rfl, hr2, hb2⟩
      have hb2 : Below w.heap.size w w2 := hb1.trans (hb2.mono hb1.size)
      go_wp2_with fail
      refine (risPt_any n _).mono ?_
      rw [HP.out]
      rintro e w3 ⟨rfl, rfl⟩
      have hs3 := hb2.size
      have hown3 : Own (w2.alloc (.cells #[] 5)) w.heap.size 5 1 (.slice (some ⟨w2.heap.size, 0, none⟩) 0 0) 0 [] := Own.of (World.ownsRow_made w2 #[] 0 hs3 (by decide) rfl)
      have hr3 := hr2.alloc (.cells #[] 5)
      have hb3a : Below w.heap.size w (w2.alloc (.cells #[] 5)) := hb2.alloc hs3 _
      have hs3a := hb3a.size
      go_wp2_with (first
        | (at_builtin; refine list_app _ rfl (.tmp 26) (.tmp 27) 22 rfl w.heap.size 5 i0 _ 1 1 Tryd.underlying22 hi hz0 hz1 hz2 rfl Nat.one_pos (.slice (some ⟨w2.heap.size, 0, none⟩) 0 0) 0 [] rfl hown3 A2 U.length c2 (bs U) rfl (by simp [bs]) hr3 oa h1 h2 hs3a ?_; intro v4 w4 hown4 hg4
           have hb4 : Below w.heap.size w w4 := hb3a.grown hg4 hs3a (fun g hg => (hown3.lt g hg).1)
           have hr4 := hr.below hb4
           have hs4 := hb4.size)
        | (at_builtin; refine list_app _ rfl (.tmp 28) (.tmp 29) 22 rfl w.heap.size 5 i0 _ 1 1 Tryd.underlying22 hi hz0 hz1 hz2 rfl Nat.one_pos v4 _ _ rfl hown4 A l.length c (bs l) rfl (by simp [bs]) hr4 ob h3 h4 hs4 ?_; intro v5 w5 hown5 hg5))
      have hb5 : Below w.heap.size w w5 := hb4.grown hg5 hs4 (fun g hg => (hown4.lt g hg).1)
      obtain ⟨A5, c5, rfl, hc5, hr5⟩ := hown5.cap
      have hr5 : Rd w5 A5 (bs (U ++ l)) := by rw [bs_append]; simpa using hr5
      clear hown3 hown4 hown5 hg4 hg5 hr3 hr4 h1 h2 h3 h4
      go_wp2_with fail
      refine (take_tup A5 _ c5 (U ++ l) n U.length _ (by rw [List.length_append]; omega) HTT.out (hs.below' hb5) (by rw [List.length_append]; omega) (by omega) hr5).mono ?_
      rintro e w6 ⟨rfl, hb6⟩
      have hb6 : Below w.heap.size w w6 := hb5.trans (hb6.mono hb5.size)
      go_wp2_with fail
      go_ret
      exact ⟨ret_b (decide_eq_true (by omega)), hb6⟩
end Go.Proofs.YtcijdbklapidnaaDoor
