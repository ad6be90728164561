/-
  Layer 10, the landed mods: whether a text may be that of a key's event.
-/
import Derived.Test.YtdhpbihooeckoaaDoorMdsO
import Derived.Test.YtdhpbihooeckoaaDoorUtfL
namespace Go.Proofs.YtdhpbihooeckoaaDoor
open Go.RowKit

/-- A control character. -/
def ctl (r : Int) : Bool := decide (r < 32) || decide (127 ≤ r) && decide (r ≤ 159)
theorem clean_any (ks : List Int) : cleanP ks = !(ks.any ctl) := by
  unfold cleanP
  rw [List.not_any_eq_all_not]
  rfl
/-- What has more than 32 bytes has more than 8 code points. -/
theorem clean_long {l : List UInt8} (h : 32 < l.length) : cleanL l = false := by
  unfold cleanL
  cases ho : allL l with
  | none => rfl
  | some ks =>
    obtain ⟨_, h2⟩ := text_all_n l.length l (Nat.le_refl _) ks ho
    have h3 := catL_length ks
    rw [h2] at h3
    show (decide (ks.length ≤ 8) && cleanP ks) = false
    rw [decide_eq_false (by omega), Bool.false_and]

set_option maxRecDepth 100000 in
set_option maxHeartbeats 4000000 in
theorem ctl_any (r : Int) (w : World) : Calls Tryd.prog 35 #[.int .i64 r] w fun e w' => e = .returned (.bool (ctl r)) ∧ Below w.heap.size w w' := by
  obtain ⟨R, hR⟩ : ∃ R, ctl r = R := ⟨_, rfl⟩
  rw [hR]
  have HC := Lib.hid hR
  clear hR
  by_cases h1 : r < 32
  · have HF := Lib.hid (show true = R by rw [← HC.out]; simp [ctl, h1])
    go_enter Tryd.func35, Tryd.ntmps35
    go_wp2_with fail
    go_ret
    exact ⟨ret_b HF.out, Below.refl _ _⟩
  · by_cases h2 : 127 ≤ r
    · by_cases h3 : r ≤ 159
      · have HF := Lib.hid (show true = R by rw [← HC.out]; simp [ctl, h1, h2, h3])
        go_enter Tryd.func35, Tryd.ntmps35
        go_wp2_with fail
        go_ret
        exact ⟨ret_b HF.out, Below.refl _ _⟩
      · have HF := Lib.hid (show false = R by rw [← HC.out]; simp [ctl, h1, h3])
        go_enter Tryd.func35, Tryd.ntmps35
        go_wp2_with fail
        go_ret
        exact ⟨ret_b HF.out, Below.refl _ _⟩
    · have HF := Lib.hid (show false = R by rw [← HC.out]; simp [ctl, h1, h2])
      go_enter Tryd.func35, Tryd.ntmps35
      go_wp2_with fail
      go_ret
      exact ⟨ret_b HF.out, Below.refl _ _⟩

set_option maxRecDepth 100000 in
set_option maxHeartbeats 4000000 in
theorem idxf_any (A : Option Addr) (c : Nat) (l : List Int) (w : World) (hl : l.length ≤ 4294967296) (hr : Rd w A (is_ l)) :
    Calls Tryd.prog 44 #[.slice A l.length c, .func (.func 35) #[] #[]] w fun e w' => (∃ i : Int, e = .returned (.int .i64 i) ∧ decide (0 ≤ i) = l.any ctl ∧ -1 ≤ i ∧ i ≤ 4294967296) ∧ Below w.heap.size w w' := by
  obtain ⟨n, hn⟩ : ∃ n, l.length = n := ⟨_, rfl⟩
  have HN := Lib.hid hn
  rw [hn] at hl ⊢
  clear hn
  go_enter Tryd.func44, Tryd.ntmps44
  go_wp2
  go_loopw [5, 8] (fun _ z wr => ∃ i : Nat, i ≤ n ∧ z = .int .i64 i ∧ (l.take i).any ctl = false ∧ Below w.heap.size w wr) (fun _ z _ => n - (intOf z).toNat)
  case atStart => exact ⟨0, Nat.zero_le _, rfl, rfl, Below.refl _ _⟩
  case round =>
    obtain ⟨i, hi, rfl, hcl, hbw⟩ := hrel
    have HCL := Lib.hid hcl
    clear hcl
    by_cases hlt : i < n
    · have hil : i < l.length := by rw [HN.out]; exact hlt
      obtain ⟨b, o, rfl, hbl, hcc⟩ := (hr.below hbw).int_at (by omega)
      have hci := hcc i hil
      have HS := Lib.hid (List.take_succ_eq_append_getElem hil)
      have HM := Lib.hid (List.getElem_mem hil)
      obtain ⟨x, hx⟩ : ∃ x, l[i]'hil = x := ⟨_, rfl⟩
      rw [hx] at hci HS HM
      have g0 : (0 : Int) ≤ (i : Int) := by omega
      have g1 : (i : Int) < (n : Int) := by omega
      clear hcc hx
      obtain ⟨q, hq⟩ : ∃ q, ctl x = q := ⟨_, rfl⟩
      have hcall : ∀ W : World, Calls Tryd.prog 35 #[.int .i64 x] W fun e w' => e = .returned (.bool q) ∧ Below W.heap.size W w' := fun W => by rw [← hq]; exact ctl_any x W
      have HQ := Lib.hid hq
      clear hq
      go_wp2_with fail
      refine (hcall _).mono ?_
      rintro e w2 ⟨rfl, hb2⟩
      have hB2 := hbw.trans (hb2.mono hbw.size)
      clear hcall hb2
      cases q with
      | true =>
        go_wp2_with fail
        go_ret
        refine ⟨⟨_, rfl, ?_, by omega, by omega⟩, hB2⟩
        rw [decide_eq_true g0]
        exact (List.any_eq_true.2 ⟨x, HM.out, HQ.out⟩).symm
      | false =>
        go_wp2_with fail
        go_roundw
        case rel => exact ⟨i + 1, by omega, by go_num, by rw [HS.out, List.any_append, HCL.out]; simp [HQ.out], hB2⟩
        case measure => simp [intOf]; omega
    · have HE := Lib.hid (show l.any ctl = false by
        have h1 := HCL.out
        have h2 := HN.out
        rwa [List.take_of_length_le (by omega)] at h1)
      go_wp2_with fail
      go_ret
      exact ⟨⟨_, rfl, by rw [HE.out]; rfl, by decide, by decide⟩, hbw⟩
theorem has_any (A : Option Addr) (n c : Nat) (l : List Int) (hn : l.length = n) (q : Bool) (hq : l.any ctl = q) (w : World) (hl : n ≤ 4294967296) (hr : Rd w A (is_ l)) :
    Calls Tryd.prog 36 #[.slice A n c, .func (.func 35) #[] #[]] w fun e w' => e = .returned (.bool q) ∧ Below w.heap.size w w' := by
  have hcall := idxf_any A c l w (by omega) hr
  rw [hn, hq] at hcall
  clear hq hn
  go_enter Tryd.func36, Tryd.ntmps36
  go_wp2_with fail
  refine hcall.mono ?_
  clear hcall
  rintro e w1 ⟨⟨i, rfl, hd, h1, h2⟩, hb1⟩
  have HD := Lib.hid hd
  clear hd
  go_wp2_with fail
  go_ret
  exact ⟨ret_b HD.out, hb1⟩

set_option maxRecDepth 100000 in
set_option maxHeartbeats 8000000 in
theorem ptext_any (s : ByteArray) (hs : s.size ≤ 4294967296) (w : World) (hz : Siz w) : Calls Tryd.prog 26 #[.string s] w fun e w' => e = .returned (.bool (cleanB s)) ∧ Below w.heap.size w w' := by
  have hms : s.size ≤ maxLen := by simp only [maxLen]; omega
  have hlen : s.data.toList.length = s.size := Array.length_toList
  obtain ⟨R, hR⟩ : ∃ R, cleanB s = R := ⟨_, rfl⟩
  by_cases h32 : 32 < s.size
  · have HF := Lib.hid (show false = R by rw [← hR]; exact (clean_long (by omega)).symm)
    rw [hR]
    have t1 : decide (32 < (s.size : Int)) = true := decide_eq_true (by omega)
    clear hR hlen
    go_enter Tryd.func26, Tryd.ntmps26
    go_wp2_with fail
    go_ret
    exact ⟨ret_b HF.out, Below.refl _ _⟩
  obtain ⟨o, ho⟩ : ∃ o, allL s.data.toList = o := ⟨_, rfl⟩
  have HC := Lib.hid (show cleanO o = R by rw [← hR, ← ho]; rfl)
  obtain ⟨l, hl⟩ : ∃ l, s.data.toList = l := ⟨_, rfl⟩
  rw [hl] at hlen ho
  have HL := Lib.hid hl
  have HO := Lib.hid ho
  have HLN := Lib.hid hlen
  rw [hR]
  have HSZ := Lib.hid hs
  have t1 : decide (32 < (s.size : Int)) = false := decide_eq_false (by omega)
  clear hR hl ho hlen hs h32
  go_enter Tryd.func26, Tryd.ntmps26
  go_wp2_with (first
    | ((with_reducible refine list_conv _ rfl (.tmp 10) 9 48 rfl w.heap.size 5 s ?_ Tryd.underlying9 Tryd.underlying48 Tryd.underlying5 hms (Nat.le_refl _) ?_); rfl; intro v1 w1 own1 hg1; obtain ⟨A1, c1, rfl, hr1⟩ := own1.form; have hc1 := own1.capT; have hB1 := below_none hg1; clear hg1))
  rw [HL.out] at hr1
  have hall := all_any A1 c1 l w1 (hz.below' hB1) (by rw [HLN.out]; exact HSZ.out) (by rw [HLN.out]; exact hc1) hr1
  rw [HLN.out, HO.out] at hall
  refine hall.mono ?_
  clear hall hr1 own1
  intro e w2 hA
  cases o with
  | none =>
    obtain ⟨rfl, hb2⟩ := hA
    have hB2 := hB1.trans (hb2.mono hB1.size)
    have HCF := Lib.hid (show false = R from HC.out)
    go_wp2_with fail
    go_ret
    exact ⟨ret_b HCF.out, hB2⟩
  | some ks =>
    have HCT := Lib.hid (show (decide (ks.length ≤ 8) && cleanP ks) = R from HC.out)
    clear HC
    obtain ⟨A2, c2, rfl, hr2, hb2⟩ := hA
    have hB2 := hB1.trans (hb2.mono hB1.size)
    clear hB1 hb2
    by_cases h8 : 8 < ks.length
    · have t2 : decide ((ks.length : Int) ≤ 8) = false := decide_eq_false (by omega)
      have HE := Lib.hid (show decide (ks.length ≤ 8) = false from decide_eq_false (by omega))
      go_wp2_with fail
      go_ret
      exact ⟨ret_b (by rw [← HCT.out, HE.out]; rfl), hB2⟩
    · have t2 : decide ((ks.length : Int) ≤ 8) = true := decide_eq_true (by omega)
      have HE := Lib.hid (show decide (ks.length ≤ 8) = true from decide_eq_true (by omega))
      obtain ⟨q, hq⟩ : ∃ q, ks.any ctl = q := ⟨_, rfl⟩
      have HQ := Lib.hid (show (!q) = R by rw [← HCT.out, HE.out, Bool.true_and, clean_any, hq])
      have hcall := has_any A2 ks.length c2 ks rfl q hq w2 (by omega) hr2
      obtain ⟨n, hn⟩ : ∃ n, ks.length = n := ⟨_, rfl⟩
      rw [hn] at t2 hcall ⊢
      clear hn h8 hq HE
      go_wp2_with fail
      refine hcall.mono ?_
      clear hcall
      rintro e w3 ⟨rfl, hb3⟩
      have hB3 := hB2.trans (hb3.mono hB2.size)
      cases q with
      | true =>
        have HF := Lib.hid (show false = R from HQ.out)
        go_wp2_with fail
        go_ret
        exact ⟨ret_b HF.out, hB3⟩
      | false =>
        have HF := Lib.hid (show true = R from HQ.out)
        go_wp2_with fail
        go_ret
        exact ⟨ret_b HF.out, hB3⟩
end Go.Proofs.YtdhpbihooeckoaaDoor
