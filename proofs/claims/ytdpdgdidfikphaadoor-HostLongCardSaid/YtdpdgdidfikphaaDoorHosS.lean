/-
  Layer 5, walked: whether two lists of sequences are the same, by the document.
-/
import Derived.Test.YtdpdgdidfikphaaDoorSqs
import Derived.Test.YtdpdgdidfikphaaDoorSame
namespace Go.Proofs.YtdpdgdidfikphaaDoor
open Go.RowKit

/-- Its lists are no longer than a walk bears. -/
def ShortS (s : Sq) : Prop := s.params.length ≤ 4294967296 ∧ ∀ p ∈ s.params, p.length ≤ 4294967296

set_option maxRecDepth 100000 in
set_option maxHeartbeats 8000000 in
theorem rsames_any (ls ms : List Sq) (A B : Option Addr) (n m c d : Nat) (q : Bool) (w : World) (hn : ls.length = n) (hm : ms.length = m) (hq : q = true ↔ ls = ms) (hl : n ≤ 4294967296) (hl2 : m ≤ 4294967296) (hs : ∀ s ∈ ls, ShortS s) (ht : ∀ s ∈ ms, ShortS s) (hra : RdQ w A ls) (hrb : RdQ w B ms) :
    Calls Tryd.prog 10 #[.slice A n c, .slice B m d] w fun e w' => e = .returned (.bool q) ∧ Below w.heap.size w w' := by
  have HN := Lib.hid hn
  have HM := Lib.hid hm
  have HS := Lib.hid hs
  have HT := Lib.hid ht
  have HQ := Lib.hid hq
  clear hn hm hs ht hq
  by_cases hlen : n = m
  · subst hlen
    go_enter Tryd.func10, Tryd.ntmps10
    go_wp2_with fail
    go_loopw [5] (fun i wr => ∃ j : Nat, j ≤ n ∧ i = .int .i64 j ∧ Hid (ls.take j = ms.take j) ∧ Below w.heap.size w wr) (fun i _ => n - (intOf i).toNat)
    case atStart => exact ⟨0, Nat.zero_le _, rfl, Lib.hid rfl, Below.refl _ _⟩
    case round =>
      obtain ⟨j, hj, rfl, HAB, hbw⟩ := hrel
      by_cases hlt : j < n
      · have hka : j < ls.length := by rw [HN.out]; exact hlt
        have hkb : j < ms.length := by rw [HM.out]; exact hlt
        obtain ⟨s, hs⟩ : ∃ s, ls[j]'hka = s := ⟨_, rfl⟩
        obtain ⟨t, ht⟩ : ∃ t, ms[j]'hkb = t := ⟨_, rfl⟩
        obtain ⟨b, o, A1, c1, hA, hsq, a0, a1, a2, a3, a4, a5⟩ := (hra.below hbw).at_ hka hs
        obtain ⟨b2, o2, A2, c2, hA2, hsq2, d0, d1, d2, d3, d4, d5⟩ := (hrb.below hbw).at_ hkb ht
        cases hA
        cases hA2
        obtain ⟨l1, l2⟩ := HS.out s (by rw [← hs]; exact List.getElem_mem hka)
        obtain ⟨l3, l4⟩ := HT.out t (by rw [← ht]; exact List.getElem_mem hkb)
        have HSS := Lib.hid hs
        have HTT := Lib.hid ht
        have HL2 := Lib.hid l2
        have HL4 := Lib.hid l4
        have hr1 : RdP wr.drew A1 s.params := hsq.rd
        have hr2 : RdP wr.drew A2 t.params := hsq2.rd
        clear hs ht l2 l4 hsq hsq2
        cases he : sameB s t with
        | true =>
          have HE := Lib.hid he
          have H := Lib.hid (show ls.take (j + 1) = ms.take (j + 1) by
            rw [List.take_succ_eq_append_getElem hka, List.take_succ_eq_append_getElem hkb, HAB.out, HSS.out, HTT.out, (sameB_iff s t).1 he])
          clear he
          go_wp2_with fail
          go_region_with (go_at_call 17; refine (rsame_any s t A1 A2 c1 c2 true _ HE.out l1 l3 HL2.out HL4.out hr1 hr2).mono ?_; rintro e w2 ⟨rfl, hb2⟩)
          all_goals
            go_wp2_with fail
            go_roundw
            case rel => exact ⟨j + 1, by omega, by go_num, H, hbw.drew.trans (hb2.mono hbw.size)⟩
            case measure => simp [intOf]; omega
        | false =>
          have HE := Lib.hid he
          have E := Lib.hid (show false = q by
            cases q with
            | false => rfl
            | true =>
              have e := HQ.out.1 rfl
              subst e
              have := HSS.out.symm.trans HTT.out
              rw [(sameB_iff s t).2 this] at he
              cases he)
          clear he
          go_wp2_with fail
          go_region_with (go_at_call 17; refine (rsame_any s t A1 A2 c1 c2 false _ HE.out l1 l3 HL2.out HL4.out hr1 hr2).mono ?_; rintro e w2 ⟨rfl, hb2⟩)
          all_goals
            go_wp2_with fail
            go_ret
            exact ⟨ret_b E.out, hbw.drew.trans (hb2.mono hbw.size)⟩
      · have E := Lib.hid (show true = q by
          have h1 := HAB.out
          rw [List.take_of_length_le (by rw [HN.out]; omega), List.take_of_length_le (by rw [HM.out]; omega)] at h1
          exact (HQ.out.2 h1).symm)
        go_wp2_with fail
        go_ret
        exact ⟨ret_b E.out, hbw⟩
  · have E := Lib.hid (show false = q by
      cases q with
      | false => rfl
      | true => exact absurd (by rw [← HN.out, ← HM.out, HQ.out.1 rfl]) hlen)
    have t1 : ((n : Int) == (m : Int)) = false := beq_false_of_ne (by omega)
    have t2 : ((n : Int) != (m : Int)) = true := by simp [bne, t1]
    clear hlen
    go_enter Tryd.func10, Tryd.ntmps10
    go_wp2_with fail
    go_ret
    exact ⟨ret_b E.out, Below.refl _ _⟩
end Go.Proofs.YtdpdgdidfikphaaDoor
