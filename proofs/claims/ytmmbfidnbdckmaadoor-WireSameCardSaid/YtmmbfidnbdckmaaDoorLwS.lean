/-
  Layer 3: the walk of the law WireSame.
-/
import Derived.Test.YtmmbfidnbdckmaaDoorWpC
import Derived.Deep.Cut
namespace Go.Proofs.YtmmbfidnbdckmaaDoor
open Go.RowKit

theorem same_put {s t : Sq} (hs : mayS s = 0) (ht : mayS t = 0) : decide (putS s = putS t) = sameB s t := by
  rw [Bool.eq_iff_iff, decide_eq_true_eq, sameB_iff]
  exact ⟨putS_inj hs ht, fun e => by rw [e]⟩

set_option maxRecDepth 100000 in
set_option maxHeartbeats 16000000 in
theorem wireSame_walk (s : Sq) (A : Option Addr) (c : Nat) (t : Sq) (B : Option Addr) (d : Nat) (w : World) (hs : SqIn w s A c) (ht : SqIn w t B d) (htab : Tab w) :
    Calls Tryd.prog 6 #[sqV s A c, sqV t B d] w fun e w' => e = .returned (.bool true) ∧ Below w.heap.size w w' := by
  have T0 : Bx2 w ((w.alloc (.cells #[.int .i64 s.kind, .int .u8 (s.priv.toNat : Int), .slice A s.params.length c, .string ⟨s.inter.toArray⟩, .int .u8 (s.final.toNat : Int), .string ⟨s.data.toArray⟩] 24)).alloc (.cells #[.int .i64 t.kind, .int .u8 (t.priv.toNat : Int), .slice B t.params.length d, .string ⟨t.inter.toArray⟩, .int .u8 (t.final.toNat : Int), .string ⟨t.data.toArray⟩] 24)) s A c t B d := Bx2.new w s t A B c d
  have hsp := hs.rd
  have htp := ht.rd
  have hsn := hs.np
  have htn := ht.np
  clear hs ht
  unfold sqV
  go_enter Tryd.func6, Tryd.ntmps6
  go_wp2_with fail
  refine (awake_any _ (htab.below T0.be)).mono ?_
  rintro e w1 ⟨rfl, hb⟩
  have T1 := T0.next hb
  clear T0 hb
  obtain ⟨⟨a0, a1, a2, a3, a4, a5⟩, b0, b1, b2, b3, b4, b5⟩ := T1.cells
  cases hf1 : fewB s with
  | false =>
    have HF1 := Lib.hid hf1
    clear hf1
    go_wp2_with fail
    refine (few_any s A c false _ HF1.out hsn (hsp.below T1.be)).mono ?_
    rintro e w2 ⟨rfl, hb⟩
    go_wp2_with fail
    go_ret
    exact ⟨rfl, (T1.next hb).be⟩
  | true =>
    have HF1 := Lib.hid hf1
    clear hf1
    go_wp2_with fail
    refine (few_any s A c true _ HF1.out hsn (hsp.below T1.be)).mono ?_
    rintro e w2 ⟨rfl, hb⟩
    have T2 := T1.next hb
    clear T1 hb
    clear a0 a1 a2 a3 a4 a5 b0 b1 b2 b3 b4 b5
    obtain ⟨⟨a0, a1, a2, a3, a4, a5⟩, b0, b1, b2, b3, b4, b5⟩ := T2.cells
    cases hf2 : fewB t with
    | false =>
      have HF2 := Lib.hid hf2
      clear hf2
      go_wp2_with fail
      refine (few_any t B d false _ HF2.out htn (htp.below T2.be)).mono ?_
      rintro e w3 ⟨rfl, hb⟩
      go_wp2_with fail
      go_ret
      exact ⟨rfl, (T2.next hb).be⟩
    | true =>
      have HF2 := Lib.hid hf2
      clear hf2
      go_wp2_with fail
      refine (few_any t B d true _ HF2.out htn (htp.below T2.be)).mono ?_
      rintro e w3 ⟨rfl, hb⟩
      have T3 := T2.next hb
      clear T2 hb
      clear a0 a1 a2 a3 a4 a5 b0 b1 b2 b3 b4 b5
      obtain ⟨⟨a0, a1, a2, a3, a4, a5⟩, b0, b1, b2, b3, b4, b5⟩ := T3.cells
      obtain ⟨l1, l2, l3⟩ := few_len HF1.out
      obtain ⟨l4, l5, l6⟩ := few_len HF2.out
      have HL2 := Lib.hid l2
      have HL5 := Lib.hid l5
      clear l2 l5
      obtain ⟨m1, hm1⟩ : ∃ m, mayS s = m := ⟨_, rfl⟩
      obtain ⟨m2, hm2⟩ : ∃ m, mayS t = m := ⟨_, rfl⟩
      obtain ⟨P1, hP1⟩ : ∃ P, putE s = P := ⟨_, rfl⟩
      obtain ⟨P2, hP2⟩ : ∃ P, putE t = P := ⟨_, rfl⟩
      have HM1 := Lib.hid hm1
      have HM2 := Lib.hid hm2
      have HP1 := Lib.hid hP1
      have HP2 := Lib.hid hP2
      have hp1 := putE_len s
      have hp2 := putE_len t
      rw [hP1] at hp1
      rw [hP2] at hp2
      clear hm1 hm2 hP1 hP2
      go_wp2_with fail
      refine (pputE_any s A c m1 P1 _ HM1.out HP1.out HF1.out (htab.below T3.be) (hsp.below T3.be)).mono ?_
      rintro e w4 ⟨⟨A1, c1, rfl, hc1, hr1⟩, hb⟩
      obtain ⟨n1, hn1⟩ : ∃ n, P1.length = n := ⟨_, rfl⟩
      have HN1 := Lib.hid hn1
      rw [hn1] at hp1 hc1 ⊢
      have T4 := T3.next hb
      clear T3 hb hn1
      clear a0 a1 a2 a3 a4 a5 b0 b1 b2 b3 b4 b5
      obtain ⟨⟨a0, a1, a2, a3, a4, a5⟩, b0, b1, b2, b3, b4, b5⟩ := T4.cells
      go_wp2_with fail
      refine (pputE_any t B d m2 P2 _ HM2.out HP2.out HF2.out (htab.below T4.be) (htp.below T4.be)).mono ?_
      rintro e w5 ⟨⟨A2, c2, rfl, hc2, hr2⟩, hb⟩
      obtain ⟨n2, hn2⟩ : ∃ n, P2.length = n := ⟨_, rfl⟩
      have HN2 := Lib.hid hn2
      rw [hn2] at hp2 hc2 ⊢
      have T5 := T4.next hb
      have hr15 := hr1.below hb
      clear T4 hb hn2 hr1
      clear a0 a1 a2 a3 a4 a5 b0 b1 b2 b3 b4 b5
      obtain ⟨⟨a0, a1, a2, a3, a4, a5⟩, b0, b1, b2, b3, b4, b5⟩ := T5.cells
      obtain ⟨q, hq⟩ : ∃ q, sameB s t = q := ⟨_, rfl⟩
      have HQ := Lib.hid hq
      clear hq
      go_wp2_with fail
      refine (rsame_any s t A B c d q _ HQ.out l1 l4 HL2.out HL5.out (hsp.below T5.be) (htp.below T5.be)).mono ?_
      rintro e w6 ⟨rfl, hb⟩
      have T6 := T5.next hb
      have hr16 := hr15.below hb
      have hr26 := hr2.below hb
      clear T5 hb hr15 hr2
      clear a0 a1 a2 a3 a4 a5 b0 b1 b2 b3 b4 b5
      obtain ⟨⟨a0, a1, a2, a3, a4, a5⟩, b0, b1, b2, b3, b4, b5⟩ := T6.cells
      go_wp2_with fail
      refine (psame_any s t A B c d q _ HQ.out l1 l4 HL2.out HL5.out (hsp.below T6.be) (htp.below T6.be)).mono ?_
      rintro e w7 ⟨rfl, hb⟩
      have T7 := T6.next hb
      have hr17 := hr16.below hb
      have hr27 := hr26.below hb
      clear T6 hb hr16 hr26
      clear a0 a1 a2 a3 a4 a5 b0 b1 b2 b3 b4 b5
      obtain ⟨⟨a0, a1, a2, a3, a4, a5⟩, b0, b1, b2, b3, b4, b5⟩ := T7.cells
      go_wp2_with fail
      refine (psame_any s s A A c c true _ ((sameB_iff _ _).2 rfl) l1 l1 HL2.out HL2.out (hsp.below T7.be) (hsp.below T7.be)).mono ?_
      rintro e w8 ⟨rfl, hb⟩
      have T8 := T7.next hb
      have hr18 := hr17.below hb
      have hr28 := hr27.below hb
      clear T7 hb hr17 hr27
      clear a0 a1 a2 a3 a4 a5 b0 b1 b2 b3 b4 b5
      by_cases h1 : m1 = 0
      · by_cases h2 : m2 = 0
        · subst h1
          subst h2
          have HE := Lib.hid (show decide (P1 = P2) = q by
            rw [← HP1.out, ← HP2.out, putE_0 HM1.out, putE_0 HM2.out, same_put HM1.out HM2.out, HQ.out])
          have hcv1 := conv_str (P := Tryd.prog) (w := w8) Tryd.underlying27 Tryd.underlying5 (c := c1) HN1.out hr18 9 Tryd.underlying9
          have hcv2 := conv_str (P := Tryd.prog) (w := w8) Tryd.underlying27 Tryd.underlying5 (c := c2) HN2.out hr28 9 Tryd.underlying9
          go_wp2_with fail
          go_ret
          refine ⟨ret_b ?_, T8.be⟩
          rw [← HE.out, beq_iff_eq, Bool.eq_iff_iff]
          simp
        · have t1 : (m2 == 0) = false := beq_false_of_ne h2
          have t2 : (m2 != 0) = true := by simp [bne, t1]
          clear h2
          subst h1
          go_wp2_with fail
          go_ret
          exact ⟨rfl, T8.be⟩
      · have t1 : (m1 == 0) = false := beq_false_of_ne h1
        have t2 : (m1 != 0) = true := by simp [bne, t1]
        clear h1
        go_wp2_with fail
        go_ret
        exact ⟨rfl, T8.be⟩
end Go.Proofs.YtmmbfidnbdckmaaDoor
