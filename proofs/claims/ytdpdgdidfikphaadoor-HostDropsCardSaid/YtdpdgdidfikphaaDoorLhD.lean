/-
  Layer 5: the walk of HostDrops, out of what a law needs of the parser.
-/
import Derived.Test.YtdpdgdidfikphaaDoorHosC
namespace Go.Proofs.YtdpdgdidfikphaaDoor
open Go.RowKit

theorem feed_drop (p : HP) (c : UInt8) (h : c.toNat = 24 ∨ c.toNat = 26) : feedH p [c] = (hp0, []) := by
  rw [feedH, one_drop p c h]
  rfl
section
variable {HB : HBox} {Inv : World → Prop}
set_option maxRecDepth 100000 in
set_option maxHeartbeats 16000000 in
theorem hostDrops_walk (H : HostC HB Inv) (A : Option Addr) (l : List UInt8) (c : Nat) (_hk : l.length ≤ c) (B : Option Addr) (l2 : List UInt8) (c2 : Nat) (_hk2 : l2.length ≤ c2) (sub : Bool) (w : World) (hr : Rd w A (bs l)) (hr2 : Rd w B (bs l2)) (hi : Inv w) :
    Calls Tryd.prog 5 #[.slice A l.length c, .slice B l2.length c2, .bool sub] w fun e w' => e = .returned (.bool true) ∧ Below w.heap.size w w' := by
  obtain ⟨m, hm⟩ : ∃ m, l.length = m := ⟨_, rfl⟩
  obtain ⟨m2, hm2⟩ : ∃ m, l2.length = m := ⟨_, rfl⟩
  rw [hm, hm2]
  have HM := Lib.hid hm
  have HM2 := Lib.hid hm2
  clear hm hm2 _hk _hk2
  by_cases h1 : m ≤ 200
  · by_cases h2 : m2 ≤ 200
    · obtain ⟨cc, hcc, hcv⟩ : ∃ cc : UInt8, (cc.toNat = 24 ∨ cc.toNat = 26) ∧ ((cc.toNat : Nat) : Int) = if sub = true then 26 else 24 := by
        cases sub
        · exact ⟨24, .inl rfl, rfl⟩
        · exact ⟨26, .inr rfl, rfl⟩
      obtain ⟨q2, ls2, hq2⟩ : ∃ q ls, feedH hp0 l2 = (q, ls) := ⟨_, _, rfl⟩
      obtain ⟨n2, hn2⟩ : ∃ n, ls2.length = n := ⟨_, rfl⟩
      have hn300 : n2 ≤ 200 := by
        have := feed_len hp0 l2
        rw [hq2, HM2.out] at this
        dsimp only at this
        omega
      obtain ⟨qb, hqb⟩ : ∃ qb, decide (q2.how = 0) = qb := ⟨_, rfl⟩
      have HSH := Lib.hid (show ∀ s ∈ ls2, ShortS s from fun s hs => short_may (feed_may hp0 l2 s (by rw [hq2]; exact hs)))
      have HQ2 := Lib.hid hq2
      have HN2 := Lib.hid hn2
      have HQB := Lib.hid hqb
      clear hq2 hn2 hqb
      go_enter Tryd.func5, Tryd.ntmps5
      go_wp2_with fail
      refine (hostAwake H w hi).mono ?_
      rintro e w1 ⟨rfl, hb1⟩
      go_wp2_with fail
      refine (H.new w w1 hi hb1).mono ?_
      rintro e w2 ⟨S, g, rfl, hp, _, hb2⟩
      have hb2 := hb1.trans (hb2.mono hb1.size)
      go_wp2_with fail
      refine (H.feed A m c l hp HM.out (by omega) (RdOff.ahead hr hb2 (H.lo hp))).mono ?_
      rintro e w3 ⟨S3, A3, c3, f3, rfl, _, hp3, _, hf3, _⟩
      have hb3 := hb2.trans (hf3.below (B := w.heap.size) hb2.size (H.lo hp))
      clear hp hf3 hb2 hb1
      have hp3a := H.behind hp3 ((Below.refl _ w3).alloc (Nat.le_refl _) (.cells (bs [cc]).toArray 5))
      have hb3a := hb3.alloc hb3.size (.cells (bs [cc]).toArray 5)
      have hr3a := RdOff.new S3 _ (rd_lit w3 [cc] (bs [cc]).toArray (0, 0) rfl) (H.hi hp3)
      have HD := Lib.hid (feed_drop (feedH hp0 l).1 cc hcc)
      have HCV := Lib.hid hcv
      clear hcv hcc
      cases sub
      all_goals
        have hcv := HCV.out
        simp only [if_true, if_false, Bool.false_eq_true] at hcv
        have eB : bs [cc] = [.int .u8 ((cc.toNat : Nat) : Int)] := rfl
        rw [eB, hcv] at hp3a hb3a hr3a
        clear eB hcv
        go_wp2_with fail
        refine (H.feed_at (some ⟨w3.heap.size, 0, none⟩) 1 1 [cc] hp3a rfl (by omega) ?_ HD.out (m := 0) rfl).mono ?_
        · rw [show bs [cc] = [.int .u8 ((cc.toNat : Nat) : Int)] from rfl, HCV.out]
          exact hr3a
        rintro e w4 ⟨S4, A4, c4, f4, rfl, _, hp4, _, hf4, _⟩
        have hb4 := hb3a.trans (hf4.below (B := w.heap.size) hb3a.size (H.lo hp3a))
        clear hp3a hb3a hr3a hf4 hp3 hb3
        go_wp2_with fail
        refine (H.idle_at hp4 true rfl).mono ?_
        rintro e w4' ⟨rfl, rfl⟩
        go_wp2_with fail
        refine (H.new w w4 hi hb4).mono ?_
        rintro e w5 ⟨T, g5, rfl, hq5, hT, hb5⟩
        have hp5 := H.behind hp4 hb5
        have hapart := Lib.hid (show ∀ k, S4 k → ¬ T k from fun k h1 h2 => by have := H.hi hp4 k h1; have := hT k h2; omega)
        have hb5 := hb4.trans (hb5.mono hb4.size)
        have hr5 := RdOff.ahead hr2 hb5 (H.lo hp5)
        clear hp4 hb4 hT
        go_wp2_with fail
        refine (H.feed_at B m2 c2 l2 hp5 HM2.out (by omega) hr5 HQ2.out HN2.out).mono ?_
        rintro e w6 ⟨S6, A6, c6, f6, rfl, _, hp6, hw6, hf6, hd6⟩
        have hq6 := H.fr hq5 hf6 (fun k ht hs => hapart.out k hs ht) (H.lo hp5)
        have hapart6 := Lib.hid (show ∀ k, S6 k → ¬ T k from fun k h1 h2 => by
          rcases hw6 k h1 with h3 | h3
          · exact hapart.out k h3 h2
          · have := H.hi hq5 k h2; omega)
        have HT5 := Lib.hid (show ∀ k, T k → (k < w5.heap.size ∧ ¬ S4 k) ∨ S6 k from fun k ht => .inl ⟨H.hi hq5 k ht, fun hs => hapart.out k hs ht⟩)
        have hb6 := hb5.trans (hf6.below (B := w.heap.size) hb5.size (H.lo hp5))
        have hr6 := RdOff.ahead hr2 hb6 (H.lo hq6)
        clear hp5 hf6 hw6 hr5 hb5 hq5
        go_wp2_with fail
        refine (H.feed_at B m2 c2 l2 hq6 HM2.out (by omega) hr6 HQ2.out HN2.out).mono ?_
        rintro e w7 ⟨T7, A7, c7, f7, rfl, _, hq7, hw7, hf7, hd7⟩
        have hp7 := H.fr hp6 hf7 (fun k hs ht => hapart6.out k hs ht) (H.lo hq6)
        have hA6 := (hd6.go (S' := fun _ => False) hf7 HT5.out (fun _ h => h.elim)).out.q
        have hA7 := hd7.out.q
        have hb7 := hb6.trans (hf7.below (B := w.heap.size) hb6.size (H.lo hq6))
        clear hq6 hp6 hf7 hw7 hd6 hd7 hr6 hb6
        go_wp2_with fail
        refine (rsames_any ls2 ls2 A6 A7 n2 n2 c6 c7 true _ HN2.out HN2.out ⟨fun _ => rfl, fun _ => rfl⟩ (by omega) (by omega) HSH.out HSH.out hA6 hA7).mono ?_
        rintro e w8 ⟨rfl, hb8⟩
        have hp8 := H.behind hp7 hb8
        have hq8 := H.behind hq7 hb8
        have hb9 := hb7.trans (hb8.mono hb7.size)
        clear hp7 hq7 hb8 hb7 hA6 hA7
        go_wp2_with fail
        refine (H.idle_at hp8 qb HQB.out).mono ?_
        rintro e w8' ⟨rfl, rfl⟩
        go_wp2_with fail
        refine (H.idle_at hq8 qb HQB.out).mono ?_
        rintro e w8' ⟨rfl, rfl⟩
        go_wp2_with fail
        go_ret
        exact ⟨rfl, hb9⟩
    · have t1 : decide (200 < (m : Int)) = false := by simp; omega
      have t2 : decide (200 < (m2 : Int)) = true := by simp; omega
      go_enter Tryd.func5, Tryd.ntmps5
      go_wp2_with fail
      refine (hostAwake H w hi).mono ?_
      rintro e w1 ⟨rfl, hb1⟩
      go_wp2_with fail
      go_ret
      exact ⟨rfl, hb1⟩
  · have t1 : decide (200 < (m : Int)) = true := by simp; omega
    go_enter Tryd.func5, Tryd.ntmps5
    go_wp2_with fail
    refine (hostAwake H w hi).mono ?_
    rintro e w1 ⟨rfl, hb1⟩
    go_wp2_with fail
    go_ret
    exact ⟨rfl, hb1⟩
end
end Go.Proofs.YtdpdgdidfikphaaDoor
