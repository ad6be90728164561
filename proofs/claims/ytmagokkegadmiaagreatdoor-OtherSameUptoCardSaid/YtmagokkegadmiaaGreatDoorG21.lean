/-
  Layer 10, the document's functions, walked.
  Cut out of MdsR. Layer 2, walked: the code points that a function tells, one after the other, for every loop that ranges over it. Numbers in figures, walked: the program's Text and Take. (For layers that don't load layer 1's own texts.)
-/
import Derived.Test.YtmagokkegadmiaaGreatDoorG01
import Derived.Test.YtmagokkegadmiaaGreatDoorG06
import Derived.Test.YtmagokkegadmiaaGreatDoorG09
import Derived.Test.YtmagokkegadmiaaGreatDoorG11
import Derived.Test.YtmagokkegadmiaaGreatDoorG16
import Derived.Test.YtmagokkegadmiaaGreatDoorG20
import Derived.RangeFuncNested
import Derived.RangeFuncBound
import Derived.RangeFuncCalls
import Derived.RangeFuncLeaves
import Derived.RangeFuncBox
import Derived.Shelf.Abstract
import Derived.Shelf.RegionOpen
import Derived.WalkKit
import Derived.OwnWalkIn
import Derived.TacticsInMore
import Derived.LoopNIn
import Derived.LoopIn
import Derived.Maps.AppendAt
import Derived.Test.YtmagokkegadmiaaGreatDoorShelf
import Derived.Deep.QuietTactic
import Derived.BigQuiet
import Derived.Lib.AppendIntMem
namespace Go.Proofs.YtmagokkegadmiaaGreatDoor
open Go.RowKit

set_option maxRecDepth 100000 in
theorem rhas10_any (n b : Int) (hb : 0 < b) (hb2 : b ≤ 256) (hn2 : n ≤ 9223372036854775807) (w : World) : Calls Tryz.prog 34 #[.int .i64 n, .int .i64 b] w fun e w' => e = .returned (.bool (hasN n b)) ∧ Below w.heap.size w w' := by
  obtain ⟨N, hN⟩ : ∃ N, max n 0 = N := ⟨_, rfl⟩
  have hmax := max0 n N hN (P := Tryz.prog)
  have hN0 : 0 ≤ N := by omega
  have hN1 : N ≤ 9223372036854775807 := by omega
  have hbe : (b == 0) = false := by simp; omega
  have hb0 : b ≠ 0 := by omega
  obtain ⟨q, hq⟩ : ∃ q, N / b = q := ⟨_, rfl⟩
  have hd : Int.tdiv N b = q := by rw [← hq]; exact Int.tdiv_eq_ediv_of_nonneg hN0
  have hq0 : 0 ≤ q := by rw [← hq]; exact Int.ediv_nonneg hN0 (by omega)
  have hq1 : q ≤ 9223372036854775807 := by rw [← hq]; exact Int.le_trans (Int.ediv_le_self b hN0) hN1
  obtain ⟨r, hr⟩ : ∃ r, q % 2 = r := ⟨_, rfl⟩
  have hm : Int.tmod q 2 = r := by rw [← hr]; exact Int.tmod_eq_emod_of_nonneg hq0
  obtain ⟨v, hv⟩ : ∃ v, (r == 1) = v := ⟨_, rfl⟩
  have HB := Lib.hid (show hasN n b = v by unfold hasN; rw [hN, hq, hr, hv])
  rw [HB.out]
  have hw := IntWalk.i64_in q ⟨by omega, hq1⟩
  clear hq hr hN hn2
  go_enter Tryz.func34, Tryz.ntmps34
  go_wp2
  go_ret
  exact ⟨by simp, by first | exact Below.refl _ _ | exact below_drewN (Below.refl _ _) _⟩
set_option maxRecDepth 100000 in
theorem rtxt10_any (c : Int) (w : World) : Calls Tryz.prog 32 #[.int .i64 c] w fun e w' => e = .returned (.bool (textK c)) ∧ Below w.heap.size w w' := by
  have hl := rlook_any c w
  obtain ⟨ki, hki⟩ : ∃ q, (lookE c).kind = q := ⟨_, rfl⟩
  have HT := Lib.hid (show textK c = (ki == 1) by unfold textK; rw [hki])
  have hf : ∀ W : World, (Instr.field 54 (enV (lookE c)) 0).run Tryz.prog W = .ok (.int .i64 ki) W := fun W => by
    rw [← hki]
    exact (by kernel_rfl : (Instr.field 54 (enV (lookE c)) 0).run Tryz.prog W = .ok (.int .i64 (lookE c).kind) W)
  obtain ⟨E, hE⟩ : ∃ E, enV (lookE c) = E := ⟨_, rfl⟩
  rw [hE] at hl hf
  rw [HT.out]
  clear hE hki HT
  obtain ⟨v, hv⟩ : ∃ v, (ki == 1) = v := ⟨_, rfl⟩
  rw [hv]
  go_enter Tryz.func32, Tryz.ntmps32
  go_wp2_with fail
  refine hl.mono ?_
  clear hl
  rintro e w1 ⟨rfl, hb1⟩
  go_wp2_with fail
  go_ret
  exact ⟨rfl, hb1⟩
/-- As far as code points are what a key may have. -/
theorem clean_step {ks : List Int} {i : Nat} (h : i < ks.length) : cleanP (ks.take (i + 1)) = (cleanP (ks.take i) && !(decide (ks[i] < 32) || decide (127 ≤ ks[i]) && decide (ks[i] ≤ 159))) := by
  unfold cleanP
  rw [List.take_succ_eq_append_getElem h, List.all_append]
  simp
theorem clean_hit {ks : List Int} {i : Nat} (h : i < ks.length) (hb : (decide (ks[i] < 32) || decide (127 ≤ ks[i]) && decide (ks[i] ≤ 159)) = true) : cleanP ks = false := by
  unfold cleanP
  rw [List.all_eq_false]
  exact ⟨ks[i], List.getElem_mem h, by rw [hb]; decide⟩
set_option maxRecDepth 100000 in
set_option maxHeartbeats 8000000 in
theorem rclean_any (s : ByteArray) (hs : s.size ≤ 4294967296) (w : World) : Calls Tryz.prog 33 #[.string s] w fun e w' => e = .returned (.bool (cleanB s)) ∧ Below w.heap.size w w' := by
  have hms : s.size ≤ maxLen := by simp only [maxLen]; omega
  have hlen : s.data.toList.length = s.size := Array.length_toList
  obtain ⟨R, hR⟩ : ∃ R, cleanB s = R := ⟨_, rfl⟩
  obtain ⟨o, ho⟩ : ∃ o, allL s.data.toList = o := ⟨_, rfl⟩
  have HC := Lib.hid (show cleanO o = R by rw [← hR, ← ho]; rfl)
  obtain ⟨l, hl⟩ : ∃ l, s.data.toList = l := ⟨_, rfl⟩
  rw [hl] at hlen ho
  have HL := Lib.hid hl
  have HO := Lib.hid ho
  have HLN := Lib.hid hlen
  rw [hR]
  have HSZ := Lib.hid hs
  clear hR hl ho hlen hs
  go_enter Tryz.func33, Tryz.ntmps33
  go_wp2_with (first
    | ((with_reducible refine list_conv _ rfl (.tmp 7) 9 27 rfl w.heap.size 5 s ?_ Tryz.underlying9 Tryz.underlying27 Tryz.underlying5 hms (Nat.le_refl _) ?_); rfl; intro v1 w1 own1 hg1; obtain ⟨A1, c1, rfl, hr1⟩ := own1.form; have hc1 := own1.capT; have hB1 := below_none hg1; clear hg1))
  rw [HL.out] at hr1
  have hall := rall_any A1 c1 l w1 (by rw [HLN.out]; exact HSZ.out) (by rw [HLN.out]; exact hc1) hr1
  rw [HLN.out, HO.out] at hall
  refine hall.mono ?_
  clear hall hr1 own1
  intro e w2 hA
  cases o with
  | none =>
    obtain ⟨rfl, hb2⟩ := hA
    have hB2 := hB1.trans (hb2.mono hB1.size)
    have HCF := Lib.hid (show false = R from HC.out)
    go_wp2_with fail
    go_ret
    exact ⟨ret_b HCF.out, hB2⟩
  | some ks =>
    have HCT := Lib.hid (show (decide (ks.length ≤ 8) && cleanP ks) = R from HC.out)
    clear HC
    obtain ⟨A2, c2, rfl, hr2, hb2⟩ := hA
    have hB2 := hB1.trans (hb2.mono hB1.size)
    clear hB1 hb2
    by_cases h8 : 8 < ks.length
    · have t1 : decide (8 < (ks.length : Int)) = true := decide_eq_true (by omega)
      have HE := Lib.hid (show decide (ks.length ≤ 8) = false from decide_eq_false (by omega))
      go_wp2_with fail
      go_ret
      exact ⟨ret_b (by rw [← HCT.out, HE.out]; rfl), hB2⟩
    · have t1 : decide (8 < (ks.length : Int)) = false := decide_eq_false (by omega)
      have HE := Lib.hid (show decide (ks.length ≤ 8) = true from decide_eq_true (by omega))
      have hk8 : (ks.length : Int) ≤ 8 := by omega
      obtain ⟨n, hn⟩ : ∃ n, ks.length = n := ⟨_, rfl⟩
      have HN := Lib.hid hn
      rw [hn] at t1 hk8 ⊢
      rw [hn] at HE HCT
      clear hn h8
      go_wp2_with fail
      go_loopw [5] (fun z wr => ∃ i : Nat, i ≤ n ∧ z = .int .i64 i ∧ cleanP (ks.take i) = true ∧ Below w.heap.size w wr ∧ Rd wr A2 (is_ ks)) (fun z _ => n - (intOf z).toNat)
      case atStart => exact ⟨0, Nat.zero_le _, rfl, rfl, hB2, hr2⟩
      case round =>
        clear hB2 hr2
        obtain ⟨i, hi, rfl, hcl, hbw, hr⟩ := hrel
        have HCL := Lib.hid hcl
        clear hcl
        by_cases hlt : i < n
        · have hil : i < ks.length := by rw [HN.out]; exact hlt
          obtain ⟨b, o, rfl, hbl, hcc⟩ := hr.int_at (by omega)
          have hci := hcc i hil
          have HS := Lib.hid (clean_step hil)
          have HH := Lib.hid (@clean_hit ks i hil)
          obtain ⟨x, hx⟩ : ∃ x, ks[i]'hil = x := ⟨_, rfl⟩
          rw [hx] at hci HS HH
          have g0 : (0 : Int) ≤ (i : Int) := by omega
          have g1 : (i : Int) < (n : Int) := by omega
          clear hcc hx
          by_cases h1 : x < 32
          · have HF := Lib.hid (HH.out (by simp [h1]))
            go_wp2_with fail
            go_ret
            exact ⟨ret_b (by rw [← HCT.out, HF.out, HE.out]; rfl), hbw⟩
          · have h1' : 32 ≤ x := by omega
            by_cases h2 : 127 ≤ x
            · by_cases h3 : x ≤ 159
              · have HF := Lib.hid (HH.out (by simp [h2, h3]))
                go_wp2_with fail
                go_ret
                exact ⟨ret_b (by rw [← HCT.out, HF.out, HE.out]; rfl), hbw⟩
              · have h3' : 159 < x := by omega
                have HG := Lib.hid (show cleanP (ks.take (i + 1)) = true by rw [HS.out, HCL.out]; simp; omega)
                clear h1 h3
                go_wp2_with fail
                go_roundw
                case rel => exact ⟨i + 1, by omega, by go_num, HG.out, hbw, hr⟩
                case measure => simp [intOf]; omega
            · have h2' : x < 127 := by omega
              have HG := Lib.hid (show cleanP (ks.take (i + 1)) = true by rw [HS.out, HCL.out]; simp; omega)
              clear h1 h2
              go_wp2_with fail
              go_roundw
              case rel => exact ⟨i + 1, by omega, by go_num, HG.out, hbw, hr⟩
              case measure => simp [intOf]; omega
        · have HF := Lib.hid (show cleanP ks = true by
            have := HCL.out
            rwa [List.take_of_length_le (by rw [HN.out]; omega)] at this)
          go_wp2_with fail
          go_ret
          exact ⟨ret_b (by rw [← HCT.out, HF.out, HE.out]; rfl), hbw⟩
set_option maxRecDepth 100000 in
set_option maxHeartbeats 16000000 in
theorem rmay10_any (k : Ky) (hs : k.text.size ≤ 4294967296) (w : World) : Calls Tryz.prog 13 #[kyV k] w fun e w' => e = .returned (.bool (mayK k)) ∧ Below w.heap.size w w' := by
  obtain ⟨code, mods, typ, shift, base, text⟩ := k
  simp only at hs
  have HLK : Hid (∀ W, Calls Tryz.prog 22 #[.int .i64 code] W fun e w' => e = .returned (enV (lookE code)) ∧ Below W.heap.size W w') := Lib.hid fun W => rlook_any code W
  obtain ⟨ki, hki⟩ : ∃ q, (lookE code).kind = q := ⟨_, rfl⟩
  have hf : ∀ W : World, (Instr.field 54 (enV (lookE code)) 0).run Tryz.prog W = .ok (.int .i64 ki) W := fun W => by
    rw [← hki]
    exact (by kernel_rfl : (Instr.field 54 (enV (lookE code)) 0).run Tryz.prog W = .ok (.int .i64 (lookE code).kind) W)
  obtain ⟨a0, h0⟩ : ∃ a, (ki == 0) = a := ⟨_, rfl⟩
  obtain ⟨a1, h1⟩ : ∃ a, decide (mods < 0) = a := ⟨_, rfl⟩
  obtain ⟨a2, h2⟩ : ∃ a, decide (255 < mods) = a := ⟨_, rfl⟩
  obtain ⟨a3, h3⟩ : ∃ a, decide (typ < 1) = a := ⟨_, rfl⟩
  obtain ⟨a4, h4⟩ : ∃ a, decide (3 < typ) = a := ⟨_, rfl⟩
  obtain ⟨s0, hs0⟩ : ∃ a, (shift == 0) = a := ⟨_, rfl⟩
  obtain ⟨b0, hb0⟩ : ∃ a, (base == 0) = a := ⟨_, rfl⟩
  obtain ⟨p, hp⟩ : ∃ a, textK shift = a := ⟨_, rfl⟩
  obtain ⟨q, hq⟩ : ∃ a, textK base = a := ⟨_, rfl⟩
  obtain ⟨r, hr⟩ : ∃ a, cleanB text = a := ⟨_, rfl⟩
  have HM := Lib.hid (show mayK ⟨code, mods, typ, shift, base, text⟩ = (!(a0 || a1 || a2 || a3 || a4) && ((s0 || p) && (b0 || q) && r)) by
    rw [← h0, ← hki, ← h1, ← h2, ← h3, ← h4, ← hs0, ← hb0, ← hp, ← hq, ← hr]
    rfl)
  have HP : Hid (∀ W, Calls Tryz.prog 32 #[.int .i64 shift] W fun e w' => e = .returned (.bool p) ∧ Below W.heap.size W w') := Lib.hid fun W => by
    have := rtxt10_any shift W
    rwa [hp] at this
  have HQ : Hid (∀ W, Calls Tryz.prog 32 #[.int .i64 base] W fun e w' => e = .returned (.bool q) ∧ Below W.heap.size W w') := Lib.hid fun W => by
    have := rtxt10_any base W
    rwa [hq] at this
  have HR : Hid (∀ W, Calls Tryz.prog 33 #[.string text] W fun e w' => e = .returned (.bool r) ∧ Below W.heap.size W w') := Lib.hid fun W => by
    have := rclean_any text hs W
    rwa [hr] at this
  obtain ⟨E, hE⟩ : ∃ E, enV (lookE code) = E := ⟨_, rfl⟩
  rw [hE] at HLK hf
  rw [HM.out]
  clear hE hki hp hq hr hs HM
  have hB := ky_box w ⟨code, mods, typ, shift, base, text⟩
  have k0 := Blk.new w 25 (kyC ⟨code, mods, typ, shift, base, text⟩)
  rw [kyV]
  rw [kyC] at hB k0
  simp only at hB k0 ⊢
  have c0 := k0.cell 0
  go_enter Tryz.func13, Tryz.ntmps13
  go_wp2_with fail
  refine (HLK.out _).mono ?_
  rintro e w1 ⟨rfl, hb1⟩
  have k1 := k0.below hb1 k0.lt
  have hB1 := hB.trans (hb1.mono hB.size)
  clear HLK k0 hB hb1 c0
  have c1 := k1.cell 1
  have c2 := k1.cell 2
  have c3 := k1.cell 3
  have c4 := k1.cell 4
  have c5 := k1.cell 5
  cases a0 with
  | true =>
    go_wp2_with fail
    go_ret
    exact ⟨ret_b (by simp), hB1⟩
  | false =>
    cases a1 with
    | true =>
      go_wp2_with fail
      go_ret
      exact ⟨ret_b (by simp), hB1⟩
    | false =>
      cases a2 with
      | true =>
        go_wp2_with fail
        go_ret
        exact ⟨ret_b (by simp), hB1⟩
      | false =>
        cases a3 with
        | true =>
          go_wp2_with fail
          go_ret
          exact ⟨ret_b (by simp), hB1⟩
        | false =>
          cases a4 with
          | true =>
            go_wp2_with fail
            go_ret
            exact ⟨ret_b (by simp), hB1⟩
          | false =>
            cases s0 with
            | true =>
              cases b0 with
              | true =>
                go_wp2_with fail
                refine (HR.out _).mono ?_
                rintro e w2 ⟨rfl, hb2⟩
                have k2 := k1.below hb2 k1.lt
                have hB2 := hB1.trans (hb2.mono hB1.size)
                clear k1 hB1 hb2 c3 c4 c5
                have c3 := k2.cell 3
                have c4 := k2.cell 4
                have c5 := k2.cell 5
                go_wp2_with fail
                go_ret
                exact ⟨ret_b (by simp), hB2⟩
              | false =>
                go_wp2_with fail
                refine (HQ.out _).mono ?_
                rintro e w2 ⟨rfl, hb2⟩
                have k2 := k1.below hb2 k1.lt
                have hB2 := hB1.trans (hb2.mono hB1.size)
                clear k1 hB1 hb2 c3 c4 c5
                have c3 := k2.cell 3
                have c4 := k2.cell 4
                have c5 := k2.cell 5
                cases q with
                | false =>
                  go_wp2_with fail
                  go_ret
                  exact ⟨ret_b (by simp), hB2⟩
                | true =>
                  go_wp2_with fail
                  refine (HR.out _).mono ?_
                  rintro e w3 ⟨rfl, hb3⟩
                  have k3 := k2.below hb3 k2.lt
                  have hB3 := hB2.trans (hb3.mono hB2.size)
                  clear k2 hB2 hb3 c3 c4 c5
                  have c3 := k3.cell 3
                  have c4 := k3.cell 4
                  have c5 := k3.cell 5
                  go_wp2_with fail
                  go_ret
                  exact ⟨ret_b (by simp), hB3⟩
            | false =>
              go_wp2_with fail
              refine (HP.out _).mono ?_
              rintro e w2 ⟨rfl, hb2⟩
              have k2 := k1.below hb2 k1.lt
              have hB2 := hB1.trans (hb2.mono hB1.size)
              clear k1 hB1 hb2 c3 c4 c5
              have c3 := k2.cell 3
              have c4 := k2.cell 4
              have c5 := k2.cell 5
              cases p with
              | false =>
                go_wp2_with fail
                go_ret
                exact ⟨ret_b (by simp), hB2⟩
              | true =>
                cases b0 with
                | true =>
                  go_wp2_with fail
                  refine (HR.out _).mono ?_
                  rintro e w3 ⟨rfl, hb3⟩
                  have k3 := k2.below hb3 k2.lt
                  have hB3 := hB2.trans (hb3.mono hB2.size)
                  clear k2 hB2 hb3 c3 c4 c5
                  have c3 := k3.cell 3
                  have c4 := k3.cell 4
                  have c5 := k3.cell 5
                  go_wp2_with fail
                  go_ret
                  exact ⟨ret_b (by simp), hB3⟩
                | false =>
                  go_wp2_with fail
                  refine (HQ.out _).mono ?_
                  rintro e w3 ⟨rfl, hb3⟩
                  have k3 := k2.below hb3 k2.lt
                  have hB3 := hB2.trans (hb3.mono hB2.size)
                  clear k2 hB2 hb3 c3 c4 c5
                  have c3 := k3.cell 3
                  have c4 := k3.cell 4
                  have c5 := k3.cell 5
                  cases q with
                  | false =>
                    go_wp2_with fail
                    go_ret
                    exact ⟨ret_b (by simp), hB3⟩
                  | true =>
                    go_wp2_with fail
                    refine (HR.out _).mono ?_
                    rintro e w4 ⟨rfl, hb4⟩
                    have k4 := k3.below hb4 k3.lt
                    have hB4 := hB3.trans (hb4.mono hB3.size)
                    clear k3 hB3 hb4 c3 c4 c5
                    have c3 := k4.cell 3
                    have c4 := k4.cell 4
                    have c5 := k4.cell 5
                    go_wp2_with fail
                    go_ret
                    exact ⟨ret_b (by simp), hB4⟩
end Go.Proofs.YtmagokkegadmiaaGreatDoor
namespace Go.Proofs.YtmagokkegadmiaaGreatDoor
open Go.RowKit Go.Shelf
attribute [local go_sem] Oper.semAt_some

theorem Siz.low {n₁ : Nat} {w w' : World} (h : Siz w) (h0 : 1 < n₁) (hb : Below n₁ w w') : Siz w' := by
  obtain ⟨t, fz, hh⟩ := h
  exact ⟨t, fz, (hb.block _ h0).trans hh⟩
/-- What a round that goes on keeps: all below a block, and one block. -/
def Kp2 (n₁ B : Nat) (w w' : World) : Prop := Below n₁ w w' ∧ w'.heap[B]? = w.heap[B]?

theorem take_tup (A : Option Addr) (n c : Nat) (l : List UInt8) (r : Int) (m : Nat) (w : World) (hn : l.length = n) (h : takeL l = (r, m)) (hs : Siz w) (hl : l.length ≤ 4294967296) (hlc : n ≤ c) (hr : Rd w A (bs l)) :
    Calls Tryz.prog 114 #[.slice A n c] w fun e w' => e = .returned (.tuple #[.int .i64 r, .int .i64 m]) ∧ Below w.heap.size w w' := by
  subst hn
  refine (take_any A c l w hs hl hlc hr).mono ?_
  rintro e w' ⟨rfl, hb⟩
  exact ⟨by unfold Tk; rw [h], hb⟩
theorem below_grown0 {w w' : World} (h : Below w.heap.size w w') : w.grownBy w' none := ⟨h.os, h.tape, h.output, h.size, fun k hk _ => h.block k hk⟩

set_option maxRecDepth 100000 in
set_option maxHeartbeats 2000000 in
theorem points_any (A : Option Addr) (n c : Nat) (w : World) : Calls Tryz.prog 105 #[.slice A n c] w fun e w' => e = .returned (.func (.func 113) #[] #[.pointer (some ⟨w.heap.size, 0, none⟩)]) ∧ w' = w.alloc (.cells #[.slice A n c] 27) := by
  go_enter Tryz.func105, Tryz.ntmps105
  go_wp2
  go_ret
  exact ⟨rfl, rfl⟩

set_option maxRecDepth 100000 in
set_option maxHeartbeats 2000000 in
theorem pts1_in (n : Nat) (hn : 1 ≤ n) (l Bs n₁ B0 c : Nat) (A : Option Addr) (t : List UInt8) (ht : t.length ≤ 4294967296) (htc : t.length ≤ c) (hg0 : 1 < n₁) (J Jx : List (Int × Bool) → World → Prop) (hJ : AbidesFrom B0 J)
    (hY : ∀ pre x W, J pre W → pre.length < (ptsL t).length → YieldAt Fence.wide (n - 1) Tryz.prog l #[.int .i64 x.1, .bool x.2] W fun e W' =>
      (e = .returned (.bool true) ∧ J (pre ++ [x]) W' ∧ Kp2 n₁ Bs W W') ∨ (e = .returned (.bool false) ∧ Jx (pre ++ [x]) W'))
    (W : World) (hbox : Blk W Bs 27 #[.slice A t.length c]) (hs : Siz W) (hr : RdIn n₁ W A (bs t)) (hn₁ : n₁ ≤ W.heap.size) (h0 : J [] W) :
    CallsIn Fence.wide n Tryz.prog 113 #[.func (.yield l) #[] #[], .pointer (some ⟨Bs, 0, none⟩)] W fun e W' => (∃ v, e = .returned v) ∧
      ((∃ ys, ys = ptsL t ∧ J ys W') ∨ (∃ pre, pre <+: ptsL t ∧ Jx pre W')) := by
  refine callsIn_of_wp Tryz.func113 rfl trivial ?_ rfl
  simp only [Tryz.ntmps113, List.size_toArray, List.length_cons, List.length_nil, Nat.reduceAdd, Nat.reduceSub, Array.replicate_succ, Array.replicate_zero, List.push_toArray, List.append_toArray, List.nil_append, List.cons_append]
  gi_wp2
  gi_loopw [3] (fun i wr => ∃ (k : Nat) (pre : List (Int × Bool)), k ≤ t.length ∧ i = .int .i64 k ∧ pre ++ ptsL (t.drop k) = ptsL t ∧ J pre wr ∧ Blk wr Bs 27 #[.slice A t.length c] ∧ Siz wr ∧ RdIn n₁ wr A (bs t) ∧ n₁ ≤ wr.heap.size) (fun i _ => t.length - (intOf i).toNat)
  case atStart => exact ⟨0, [], Nat.zero_le _, rfl, rfl, h0, hbox, hs, hr, hn₁⟩
  case round =>
    obtain ⟨k, pre, hk, rfl, hpre, hJs, hbx, hsz, hrd, hnw⟩ := hrel
    have HP := Lib.hid hpre
    clear hpre
    have hcb := hbx.cell 0
    by_cases hlt : k < t.length
    · obtain ⟨b, o, rfl, hb, hcc⟩ := hrd (by rw [bs_length]; omega)
      have hdr := hrd.drop k hlt
      clear hcc
      have k0 : (0 : Int) ≤ (k : Int) := by omega
      have k1 : (k : Int) ≤ (t.length : Int) := by omega
      have hlen := Lib.hid (show (t.drop k).length = t.length - k from List.length_drop)
      have hld : (t.drop k).length ≤ 4294967296 := by rw [List.length_drop]; omega
      by_cases hz : (takeL (t.drop k)).2 = 0
      · have E := Lib.hid (take_zero hz)
        have PN := Lib.hid (show ptsL (t.drop k) = [(0, false)] from ptsL_no (by rw [List.length_drop]; omega) hz)
        have hlt2 : pre.length < (ptsL t).length := by rw [← HP.out, PN.out]; simp
        have PE := Lib.hid (show pre ++ [(0, false)] = ptsL t by rw [← HP.out, PN.out])
        clear hz
        gi_wp2_with fail
        refine ⟨trivial, ?_⟩
        gi_at_call 114
        refine (callsIn_wide.2 (take_tup _ _ _ (t.drop k) 0 0 _ hlen.out E.out hsz hld (by omega) hdr)).mono ?_
        rintro e w2 ⟨rfl, hb2⟩
        have hJ2 : J pre w2 := hJ _ _ _ none hJs (below_grown0 hb2) (fun r e => by cases e)
        clear hb2
        obtain ⟨fn, tmps, assign, body, hy, hR⟩ := hY pre (0, false) w2 hJ2 hlt2
        dsimp only at hy
        gi_wp2
        refine hR.mono ?_
        rintro e W3 (⟨rfl, hJ3, hk3⟩ | ⟨rfl, hJx3⟩)
        · gi_wp2
          refine bodyPost_ret (results_none rfl _ _ _) rfl ?_
          exact ⟨⟨_, rfl⟩, .inl ⟨_, PE.out, hJ3⟩⟩
        · gi_wp2
          refine bodyPost_ret (results_none rfl _ _ _) rfl ?_
          exact ⟨⟨_, rfl⟩, .inr ⟨_, ⟨[], by rw [List.append_nil]; exact PE.out⟩, hJx3⟩⟩
      · have PY := Lib.hid (ptsL_yes hz)
        have hle := (take_snd_le (t.drop k)).1
        obtain ⟨r, hr1⟩ : ∃ r, (takeL (t.drop k)).1 = r := ⟨_, rfl⟩
        obtain ⟨m, hm1⟩ : ∃ m, (takeL (t.drop k)).2 = m := ⟨_, rfl⟩
        have E := Lib.hid (show takeL (t.drop k) = (r, m) by rw [← hr1, ← hm1])
        rw [hm1, List.length_drop] at hle
        rw [hm1] at hz
        have m0 : (0 : Int) < (m : Int) := by omega
        have m2 : 0 < m := by omega
        have m3 : decide (0 < m) = true := decide_eq_true m2
        have m4 : decide ((0 : Int) < (m : Int)) = true := decide_eq_true m0
        have m1 : ((m : Int) == 0) = false := beq_false_of_ne (by omega)
        have PD := Lib.hid (show ptsL (t.drop k) = (r, true) :: ptsL (t.drop (k + m)) by rw [PY.out, hr1, hm1, List.drop_drop])
        have hlt2 : pre.length < (ptsL t).length := by rw [← HP.out, PD.out]; simp
        have PE := Lib.hid (show (pre ++ [(r, true)]) ++ ptsL (t.drop (k + m)) = ptsL t by rw [← HP.out, PD.out]; simp)
        clear hr1 hm1 PY
        gi_wp2_with fail
        refine ⟨trivial, ?_⟩
        gi_at_call 114
        refine (callsIn_wide.2 (take_tup _ _ _ (t.drop k) r m _ hlen.out E.out hsz hld (by omega) hdr)).mono ?_
        rintro e w2 ⟨rfl, hb2⟩
        have hJ2 : J pre w2 := hJ _ _ _ none hJs (below_grown0 hb2) (fun r e => by cases e)
        have hbx2 := hbx.below hb2 hbx.lt
        have hsz2 := hsz.below' hb2
        have hrd2 := hrd.below (hb2.mono hnw)
        have hnw2 := Nat.le_trans hnw hb2.size
        clear hb2
        obtain ⟨fn, tmps, assign, body, hy, hR⟩ := hY pre (r, true) w2 hJ2 hlt2
        dsimp only at hy
        gi_wp2
        refine hR.mono ?_
        rintro e W3 (⟨rfl, hJ3, hk3⟩ | ⟨rfl, hJx3⟩)
        · gi_wp2
          go_roundw
          case rel => exact ⟨k + m, _, by omega, by go_num, PE.out, hJ3, hk3.2.trans hbx2, hsz2.low hg0 hk3.1, hrd2.below hk3.1, Nat.le_trans hnw2 hk3.1.size⟩
          case measure => simp [intOf]; omega
        · gi_wp2
          refine bodyPost_ret (results_none rfl _ _ _) rfl ?_
          exact ⟨⟨_, rfl⟩, .inr ⟨_, ⟨_, PE.out⟩, hJx3⟩⟩
    · have hke : k = t.length := by omega
      have PE := Lib.hid (show pre = ptsL t by
        have h1 := HP.out
        rw [hke, List.drop_length] at h1
        rw [← h1]; show pre = pre ++ []; simp)
      clear hke
      gi_wp2
      go_end0
      exact ⟨⟨_, rfl⟩, .inl ⟨_, PE.out, hJs⟩⟩
end Go.Proofs.YtmagokkegadmiaaGreatDoor
namespace Go.Proofs.YtmagokkegadmiaaGreatDoor
open Go.RowKit

/-- What a character is worth as a figure of sixteen; 99: it is none. -/
def figV (c : Int) : Int := if 48 ≤ c ∧ c ≤ 57 then c - 48 else if 65 ≤ c ∧ c ≤ 70 then c - 55 else if 97 ≤ c ∧ c ≤ 102 then c - 87 else 99

set_option maxHeartbeats 400000 in
theorem figures_any (n : Int) (w : World) :
    Calls Tryz.prog 125 #[.int .i64 n] w fun e w' => e = .returned (.func (.func 131) #[] #[.pointer (some ⟨w.heap.size, 0, none⟩)]) ∧ w' = w.alloc (.cells #[.int .i64 n] 3) := by
  have hmf : ∀ (fn : Fn) (first cap : Array Value) (w : World), (Instr.makeFunc fn first cap).run Tryz.prog w = .ok (.func fn first cap) w := fun _ _ _ _ => rfl
  go_enter Tryz.func125, Tryz.ntmps125
  go_wp2
  go_ret
  exact ⟨rfl, rfl⟩

def figA (c n : Int) : Int := if figV c < n then figV c else 0
def figB (c n : Int) : Bool := decide (figV c < n)

set_option maxHeartbeats 1000000 in
/-- The closure: what the character is worth, if that is below the base. -/
theorem figure_any (c n : Int) (a : Addr) (w : World) (h0 : 0 ≤ c) (h1 : c ≤ 2147483647) (hn0 : 1 ≤ n) (hn1 : n ≤ 36) (hc : w.cell? a = some (.int .i64 n)) :
    Calls Tryz.prog 131 #[.int .i32 c, .pointer (some a)] w fun e w' =>
      e = .returned (.tuple #[.int .i64 (figA c n), .bool (figB c n)]) ∧ w' = w := by
  go_enter Tryz.func131, Tryz.ntmps131
  go_wp2
  all_goals go_ret2
  all_goals
    refine ⟨ret_ib ?_ ?_, rfl⟩
    · unfold figA figV
      (repeat' split) <;> omega
    · unfold figB figV
      (repeat' split) <;> first | (rw [eq_comm, decide_eq_true_eq]; omega) | (rw [eq_comm, decide_eq_false_iff_not]; omega)

/-- How many figures bytes begin with. -/
def digs (l : List UInt8) : Nat := (l.takeWhile isD).length
def satk (l : List UInt8) (k : Nat) : Nat := (l.take k).foldl dstep 0
theorem take_snoc (l : List UInt8) (k : Nat) (h : k < l.length) : l.take (k + 1) = l.take k ++ [l[k]] := by
  rw [List.take_succ_eq_append_getElem h]
theorem satk_zero (l : List UInt8) : satk l 0 = 0 := rfl
theorem satk_succ (l : List UInt8) (k : Nat) (h : k < l.length) : satk l (k + 1) = dstep (satk l k) l[k] := by
  unfold satk; rw [take_snoc l k h, List.foldl_append]; rfl
theorem satk_le (l : List UInt8) : ∀ k, satk l k ≤ 1114111 := by
  intro k
  unfold satk
  generalize l.take k = t
  cases ht : t.reverse with
  | nil => rw [List.reverse_eq_nil_iff] at ht; subst ht; simp
  | cons c r =>
    have : t = r.reverse ++ [c] := by rw [← List.reverse_reverse t, ht]; simp
    rw [this, List.foldl_append]
    exact dstep_le _ _

theorem takeWhile_of_all {p : UInt8 → Bool} : ∀ (l : List UInt8) (k : Nat), k ≤ l.length → (∀ j (h : j < l.length), j < k → p l[j] = true) → (∀ h : k < l.length, p l[k] = false) → l.takeWhile p = l.take k
  | [], k, hk, _, _ => by simp at hk; subst hk; rfl
  | c :: r, 0, _, _, hn => by
    have := hn (by simp)
    simp at this
    simp [this]
  | c :: r, k + 1, hk, ha, hn => by
    have h0 := ha 0 (by simp) (by omega)
    simp at h0
    rw [List.takeWhile_cons_of_pos h0, List.take_succ_cons]
    congr 1
    refine takeWhile_of_all r k (by simpa using hk) (fun j h hj => ?_) (fun h => ?_)
    · exact ha (j + 1) (by rw [List.length_cons]; omega) (by omega)
    · exact hn (by rw [List.length_cons]; omega)
theorem digs_at (l : List UInt8) (k : Nat) (hk : k ≤ l.length) (ha : ∀ j (h : j < l.length), j < k → isD l[j] = true) (hn : ∀ h : k < l.length, isD l[k] = false) : digs l = k ∧ satv l = satk l k := by
  unfold digs satv satk
  rw [takeWhile_of_all l k hk ha hn]
  exact ⟨by rw [List.length_take]; omega, rfl⟩
theorem fig_digit (c : UInt8) (h : isD c = true) : figB (c.toNat : Int) 10 = true ∧ figA (c.toNat : Int) 10 = (c.toNat : Int) - 48 := by
  have h' : 48 ≤ c.toNat ∧ c.toNat ≤ 57 := of_decide_eq_true h
  have hv : figV (c.toNat : Int) = (c.toNat : Int) - 48 := by unfold figV; rw [if_pos (by omega)]
  unfold figB figA
  rw [hv]
  exact ⟨decide_eq_true (by omega), if_pos (by omega)⟩
theorem fig_other (c : UInt8) (h : isD c = false) : figB (c.toNat : Int) 10 = false := by
  have h' : ¬ (48 ≤ c.toNat ∧ c.toNat ≤ 57) := of_decide_eq_false h
  unfold figB
  rw [decide_eq_false_iff_not]
  unfold figV
  rw [if_neg (by omega)]
  split
  · omega
  · split <;> omega

set_option maxHeartbeats 1000000 in
theorem figtake_any (A : Option Addr) (c : Nat) (l : List UInt8) (w : World) (hl : l.length ≤ 4294967296) (hr : Rd w A (bs l)) :
    Calls Tryz.prog 119 #[.slice A l.length c] w fun e w' => e = .returned (.tuple #[.int .i64 (satv l), .int .i64 (digs l)]) ∧ Below w.heap.size w w' := by
  have hr1 := hr.alloc (.cells #[.int .i64 10] 3)
  have hb1 : Below w.heap.size w (w.alloc (.cells #[.int .i64 10] 3)) := (Below.refl _ _).alloc (Nat.le_refl _) _
  have hbox : (w.alloc (.cells #[.int .i64 10] 3)).cell? ⟨w.heap.size, 0, none⟩ = some (.int .i64 10) := by
    rw [World.cell?_alloc_at _ _ _ _ rfl]; rfl
  go_enter Tryz.func119, Tryz.ntmps119
  go_wp2_with (go_at_call 125; refine (figures_any 10 _).mono ?_; rintro e w' ⟨rfl, rfl⟩)
  go_loop [5, 6, 14] (fun n u i => ∃ k : Nat, k ≤ l.length ∧ i = .int .i64 k ∧ u = .int .i64 k ∧ n = .int .i64 (satk l k) ∧ Hid (∀ j (h : j < l.length), j < k → isD l[j] = true)) (fun _ _ i => l.length - (intOf i).toNat)
  case atStart => exact ⟨0, Nat.zero_le _, rfl, rfl, rfl, fun j _ h => absurd h (by omega)⟩
  case round =>
    obtain ⟨k, hk, rfl, rfl, rfl, hall⟩ := hrel
    have hsk := satk_le l k
    by_cases hlt : k < l.length
    · obtain ⟨b, o, rfl, hb, hcell⟩ := hr1.at_ (by omega)
      have hck := hcell k hlt
      have hlo := (l[k]).toNat_lt
      clear hcell
      cases hd : isD l[k] with
      | true =>
        obtain ⟨f1, f2⟩ := fig_digit _ hd
        have H1 := Lib.hid f1
        have H2 := Lib.hid f2
        have HS := Lib.hid (satk_succ l k hlt)
        have HD := Lib.hid hd
        have h5 : 48 ≤ (l[k]).toNat ∧ (l[k]).toNat ≤ 57 := of_decide_eq_true hd
        clear f1 f2 hd
        go_wp2_with (go_at_call 131; refine (figure_any _ 10 _ _ (by omega) (by omega) (by omega) (by omega) hbox).mono ?_; rintro e w' ⟨rfl, rfl⟩; rw [H1.out, H2.out])
        go_round
        case rel =>
          refine ⟨k + 1, by omega, by go_num, by go_num, ?_, ?_⟩
          · rw [HS.out]
            unfold dstep
            congr 1
            first | omega | (split <;> omega)
          · intro j h hj
            by_cases e : j = k
            · subst e; exact HD.out
            · exact hall.out j h (by omega)
        case measure => simp [intOf]; omega
      | false =>
        have H1 := Lib.hid (fig_other _ hd)
        have HE := Lib.hid (digs_at l k hk hall.out fun _ => hd)
        clear hd
        go_wp2_with (go_at_call 131; refine (figure_any _ 10 _ _ (by omega) (by omega) (by omega) (by omega) hbox).mono ?_; rintro e w' ⟨rfl, rfl⟩; rw [H1.out])
        go_ret2
        exact ⟨ret_ii (by rw [HE.out.2]) (by rw [HE.out.1]), hb1⟩
    · have HE := Lib.hid (digs_at l k hk hall.out fun h => absurd h hlt)
      go_wp2
      go_ret2
      exact ⟨ret_ii (by rw [HE.out.2]) (by rw [HE.out.1]), hb1⟩

theorem take_at (A : Option Addr) (c : Nat) (l : List UInt8) (n : Nat) (w : World) (hn : l.length = n) (hl : l.length ≤ 4294967296) (hr : Rd w A (bs l)) :
    Calls Tryz.prog 119 #[.slice A n c] w fun e w' => e = .returned (.tuple #[.int .i64 (satv l), .int .i64 (digs l)]) ∧ Below w.heap.size w w' := by
  subst hn
  exact figtake_any A c l w hl hr
end Go.Proofs.YtmagokkegadmiaaGreatDoor
