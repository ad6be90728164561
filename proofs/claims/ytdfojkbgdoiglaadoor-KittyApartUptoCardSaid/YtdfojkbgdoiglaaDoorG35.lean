/-
  Layer 10, the document's functions, walked.
  Cut out of MdsR.
-/
import Derived.Test.YtdfojkbgdoiglaaDoorG10
import Derived.Test.YtdfojkbgdoiglaaDoorG24
import Derived.Test.YtdfojkbgdoiglaaDoorG34
namespace Go.Proofs.YtdfojkbgdoiglaaDoor
open Go.RowKit
set_option maxRecDepth 100000 in
theorem rhas10_any (n b : Int) (hb : 0 < b) (hb2 : b ≤ 256) (hn2 : n ≤ 9223372036854775807) (w : World) : Calls Tryd.prog 24 #[.int .i64 n, .int .i64 b] w fun e w' => e = .returned (.bool (hasN n b)) ∧ Below w.heap.size w w' := by
 obtain ⟨N, hN⟩ : ∃ N, max n 0 = N := ⟨_, rfl⟩
 have hmax := max0 n N hN (P := Tryd.prog)
 have hN0 : 0 ≤ N := by omega
 have hN1 : N ≤ 9223372036854775807 := by omega
 have hbe : (b == 0) = false := by simp; omega
 have hb0 : b ≠ 0 := by omega
 obtain ⟨q, hq⟩ : ∃ q, N / b = q := ⟨_, rfl⟩
 have hd : Int.tdiv N b = q := by rw [← hq]; exact Int.tdiv_eq_ediv_of_nonneg hN0
 have hq0 : 0 ≤ q := by rw [← hq]; exact Int.ediv_nonneg hN0 (by omega)
 have hq1 : q ≤ 9223372036854775807 := by rw [← hq]; exact Int.le_trans (Int.ediv_le_self b hN0) hN1
 obtain ⟨r, hr⟩ : ∃ r, q % 2 = r := ⟨_, rfl⟩
 have hm : Int.tmod q 2 = r := by rw [← hr]; exact Int.tmod_eq_emod_of_nonneg hq0
 obtain ⟨v, hv⟩ : ∃ v, (r == 1) = v := ⟨_, rfl⟩
 have HB := Lib.hid (show hasN n b = v by unfold hasN; rw [hN, hq, hr, hv])
 rw [HB.out]
 have hw := IntWalk.i64_in q ⟨by omega, hq1⟩
 clear hq hr hN hn2
 go_enter Tryd.func24, Tryd.ntmps24
 go_wp2
 go_ret
 exact ⟨by simp, by first | exact Below.refl _ _ | exact below_drewN (Below.refl _ _) _⟩
set_option maxRecDepth 100000 in
theorem rtxt10_any (c : Int) (w : World) : Calls Tryd.prog 14 #[.int .i64 c] w fun e w' => e = .returned (.bool (textK c)) ∧ Below w.heap.size w w' := by
 have hl := rlook_any c w
 obtain ⟨ki, hki⟩ : ∃ q, (lookE c).kind = q := ⟨_, rfl⟩
 have HT := Lib.hid (show textK c = (ki == 1) by unfold textK; rw [hki])
 have hf : ∀ W : World, (Instr.field 40 (enV (lookE c)) 0).run Tryd.prog W = .ok (.int .i64 ki) W := fun W => by
  rw [← hki]
  exact (by kernel_rfl : (Instr.field 40 (enV (lookE c)) 0).run Tryd.prog W = .ok (.int .i64 (lookE c).kind) W)
 obtain ⟨E, hE⟩ : ∃ E, enV (lookE c) = E := ⟨_, rfl⟩
 rw [hE] at hl hf
 rw [HT.out]
 clear hE hki HT
 obtain ⟨v, hv⟩ : ∃ v, (ki == 1) = v := ⟨_, rfl⟩
 rw [hv]
 go_enter Tryd.func14, Tryd.ntmps14
 go_wp2_with fail
 refine hl.mono ?_
 clear hl
 rintro e w1 ⟨rfl, hb1⟩
 go_wp2_with fail
 go_ret
 exact ⟨rfl, hb1⟩
theorem clean_step {ks : List Int} {i : Nat} (h : i < ks.length) : cleanP (ks.take (i + 1)) = (cleanP (ks.take i) && !(decide (ks[i] < 32) || decide (127 ≤ ks[i]) && decide (ks[i] ≤ 159))) := by
 unfold cleanP
 rw [List.take_succ_eq_append_getElem h, List.all_append]
 simp
theorem clean_hit {ks : List Int} {i : Nat} (h : i < ks.length) (hb : (decide (ks[i] < 32) || decide (127 ≤ ks[i]) && decide (ks[i] ≤ 159)) = true) : cleanP ks = false := by
 unfold cleanP
 rw [List.all_eq_false]
 exact ⟨ks[i], List.getElem_mem h, by rw [hb]; decide⟩
set_option maxRecDepth 100000 in
set_option maxHeartbeats 8000000 in
theorem rclean_any (s : ByteArray) (hs : s.size ≤ 4294967296) (w : World) : Calls Tryd.prog 15 #[.string s] w fun e w' => e = .returned (.bool (cleanB s)) ∧ Below w.heap.size w w' := by
 have hms : s.size ≤ maxLen := by simp only [maxLen]; omega
 have hlen : s.data.toList.length = s.size := Array.length_toList
 obtain ⟨R, hR⟩ : ∃ R, cleanB s = R := ⟨_, rfl⟩
 obtain ⟨o, ho⟩ : ∃ o, allL s.data.toList = o := ⟨_, rfl⟩
 have HC := Lib.hid (show cleanO o = R by rw [← hR, ← ho]; rfl)
 obtain ⟨l, hl⟩ : ∃ l, s.data.toList = l := ⟨_, rfl⟩
 rw [hl] at hlen ho
 have HL := Lib.hid hl
 have HO := Lib.hid ho
 have HLN := Lib.hid hlen
 rw [hR]
 have HSZ := Lib.hid hs
 clear hR hl ho hlen hs
 go_enter Tryd.func15, Tryd.ntmps15
 go_wp2_with (first
  | ((with_reducible refine list_conv _ rfl (.tmp 7) 9 26 rfl w.heap.size 5 s ?_ Tryd.underlying9 Tryd.underlying26 Tryd.underlying5 hms (Nat.le_refl _) ?_); rfl; intro v1 w1 own1 hg1; obtain ⟨A1, c1, rfl, hr1⟩ := own1.form; have hc1 := own1.capT; have hB1 := below_none hg1; clear hg1))
 rw [HL.out] at hr1
 have hall := rall_any A1 c1 l w1 (by rw [HLN.out]; exact HSZ.out) (by rw [HLN.out]; exact hc1) hr1
 rw [HLN.out, HO.out] at hall
 refine hall.mono ?_
 clear hall hr1 own1
 intro e w2 hA
 cases o with
 | none =>
   obtain ⟨rfl, hb2⟩ := hA
   have hB2 := hB1.trans (hb2.mono hB1.size)
   have HCF := Lib.hid (show false = R from HC.out)
   go_wp2_with fail
   go_ret
   exact ⟨ret_b HCF.out, hB2⟩
 | some ks =>
   have HCT := Lib.hid (show (decide (ks.length ≤ 8) && cleanP ks) = R from HC.out)
   clear HC
   obtain ⟨A2, c2, rfl, hr2, hb2⟩ := hA
   have hB2 := hB1.trans (hb2.mono hB1.size)
   clear hB1 hb2
   by_cases h8 : 8 < ks.length
   ·have t1 : decide (8 < (ks.length : Int)) = true := decide_eq_true (by omega)
    have HE := Lib.hid (show decide (ks.length ≤ 8) = false from decide_eq_false (by omega))
    go_wp2_with fail
    go_ret
    exact ⟨ret_b (by rw [← HCT.out, HE.out]; rfl), hB2⟩
   ·have t1 : decide (8 < (ks.length : Int)) = false := decide_eq_false (by omega)
    have HE := Lib.hid (show decide (ks.length ≤ 8) = true from decide_eq_true (by omega))
    have hk8 : (ks.length : Int) ≤ 8 := by omega
    obtain ⟨n, hn⟩ : ∃ n, ks.length = n := ⟨_, rfl⟩
    have HN := Lib.hid hn
    rw [hn] at t1 hk8 ⊢
    rw [hn] at HE HCT
    clear hn h8
    go_wp2_with fail
    go_loopw [5] (fun z wr => ∃ i : Nat, i ≤ n ∧ z = .int .i64 i ∧ cleanP (ks.take i) = true ∧ Below w.heap.size w wr ∧ Rd wr A2 (is_ ks)) (fun z _ => n - (intOf z).toNat)
    case atStart => exact ⟨0, Nat.zero_le _, rfl, rfl, hB2, hr2⟩
    case round =>
     clear hB2 hr2
     obtain ⟨i, hi, rfl, hcl, hbw, hr⟩ := hrel
     have HCL := Lib.hid hcl
     clear hcl
     by_cases hlt : i < n
     ·have hil : i < ks.length := by rw [HN.out]; exact hlt
      obtain ⟨b, o, rfl, hbl, hcc⟩ := hr.int_at (by omega)
      have hci := hcc i hil
      have HS := Lib.hid (clean_step hil)
      have HH := Lib.hid (@clean_hit ks i hil)
      obtain ⟨x, hx⟩ : ∃ x, ks[i]'hil = x := ⟨_, rfl⟩
      rw [hx] at hci HS HH
      have g0 : (0 : Int) ≤ (i : Int) := by omega
      have g1 : (i : Int) < (n : Int) := by omega
      clear hcc hx
      by_cases h1 : x < 32
      ·have HF := Lib.hid (HH.out (by simp [h1]))
       go_wp2_with fail
       go_ret
       exact ⟨ret_b (by rw [← HCT.out, HF.out, HE.out]; rfl), hbw⟩
      ·have h1' : 32 ≤ x := by omega
       by_cases h2 : 127 ≤ x
       ·by_cases h3 : x ≤ 159
        ·have HF := Lib.hid (HH.out (by simp [h2, h3]))
         go_wp2_with fail
         go_ret
         exact ⟨ret_b (by rw [← HCT.out, HF.out, HE.out]; rfl), hbw⟩
        ·have h3' : 159 < x := by omega
         have HG := Lib.hid (show cleanP (ks.take (i + 1)) = true by rw [HS.out, HCL.out]; simp; omega)
         clear h1 h3
         go_wp2_with fail
         go_roundw
         case rel => exact ⟨i + 1, by omega, by go_num, HG.out, hbw, hr⟩
         case measure => simp [intOf]; omega
       ·have h2' : x < 127 := by omega
        have HG := Lib.hid (show cleanP (ks.take (i + 1)) = true by rw [HS.out, HCL.out]; simp; omega)
        clear h1 h2
        go_wp2_with fail
        go_roundw
        case rel => exact ⟨i + 1, by omega, by go_num, HG.out, hbw, hr⟩
        case measure => simp [intOf]; omega
     ·have HF := Lib.hid (show cleanP ks = true by
       have := HCL.out
       rwa [List.take_of_length_le (by rw [HN.out]; omega)] at this)
      go_wp2_with fail
      go_ret
      exact ⟨ret_b (by rw [← HCT.out, HF.out, HE.out]; rfl), hbw⟩
set_option maxRecDepth 100000 in
set_option maxHeartbeats 16000000 in
theorem rmay10_any (k : Ky) (hs : k.text.size ≤ 4294967296) (w : World) : Calls Tryd.prog 7 #[kyV k] w fun e w' => e = .returned (.bool (mayK k)) ∧ Below w.heap.size w w' := by
 obtain ⟨code, mods, typ, shift, base, text⟩ := k
 simp only at hs
 have HLK : Hid (∀ W, Calls Tryd.prog 13 #[.int .i64 code] W fun e w' => e = .returned (enV (lookE code)) ∧ Below W.heap.size W w') := Lib.hid fun W => rlook_any code W
 obtain ⟨ki, hki⟩ : ∃ q, (lookE code).kind = q := ⟨_, rfl⟩
 have hf : ∀ W : World, (Instr.field 40 (enV (lookE code)) 0).run Tryd.prog W = .ok (.int .i64 ki) W := fun W => by
  rw [← hki]
  exact (by kernel_rfl : (Instr.field 40 (enV (lookE code)) 0).run Tryd.prog W = .ok (.int .i64 (lookE code).kind) W)
 obtain ⟨a0, h0⟩ : ∃ a, (ki == 0) = a := ⟨_, rfl⟩
 obtain ⟨a1, h1⟩ : ∃ a, decide (mods < 0) = a := ⟨_, rfl⟩
 obtain ⟨a2, h2⟩ : ∃ a, decide (255 < mods) = a := ⟨_, rfl⟩
 obtain ⟨a3, h3⟩ : ∃ a, decide (typ < 1) = a := ⟨_, rfl⟩
 obtain ⟨a4, h4⟩ : ∃ a, decide (3 < typ) = a := ⟨_, rfl⟩
 obtain ⟨s0, hs0⟩ : ∃ a, (shift == 0) = a := ⟨_, rfl⟩
 obtain ⟨b0, hb0⟩ : ∃ a, (base == 0) = a := ⟨_, rfl⟩
 obtain ⟨p, hp⟩ : ∃ a, textK shift = a := ⟨_, rfl⟩
 obtain ⟨q, hq⟩ : ∃ a, textK base = a := ⟨_, rfl⟩
 obtain ⟨r, hr⟩ : ∃ a, cleanB text = a := ⟨_, rfl⟩
 have HM := Lib.hid (show mayK ⟨code, mods, typ, shift, base, text⟩ = (!(a0 || a1 || a2 || a3 || a4) && ((s0 || p) && (b0 || q) && r)) by
  rw [← h0, ← hki, ← h1, ← h2, ← h3, ← h4, ← hs0, ← hb0, ← hp, ← hq, ← hr]
  rfl)
 have HP : Hid (∀ W, Calls Tryd.prog 14 #[.int .i64 shift] W fun e w' => e = .returned (.bool p) ∧ Below W.heap.size W w') := Lib.hid fun W => by
  have := rtxt10_any shift W
  rwa [hp] at this
 have HQ : Hid (∀ W, Calls Tryd.prog 14 #[.int .i64 base] W fun e w' => e = .returned (.bool q) ∧ Below W.heap.size W w') := Lib.hid fun W => by
  have := rtxt10_any base W
  rwa [hq] at this
 have HR : Hid (∀ W, Calls Tryd.prog 15 #[.string text] W fun e w' => e = .returned (.bool r) ∧ Below W.heap.size W w') := Lib.hid fun W => by
  have := rclean_any text hs W
  rwa [hr] at this
 obtain ⟨E, hE⟩ : ∃ E, enV (lookE code) = E := ⟨_, rfl⟩
 rw [hE] at HLK hf
 rw [HM.out]
 clear hE hki hp hq hr hs HM
 have hB := ky_box w ⟨code, mods, typ, shift, base, text⟩
 have k0 := Blk.new w 23 (kyC ⟨code, mods, typ, shift, base, text⟩)
 rw [kyV]
 rw [kyC] at hB k0
 simp only at hB k0 ⊢
 have c0 := k0.cell 0
 go_enter Tryd.func7, Tryd.ntmps7
 go_wp2_with fail
 refine (HLK.out _).mono ?_
 rintro e w1 ⟨rfl, hb1⟩
 have k1 := k0.below hb1 k0.lt
 have hB1 := hB.trans (hb1.mono hB.size)
 clear HLK k0 hB hb1 c0
 have c1 := k1.cell 1
 have c2 := k1.cell 2
 have c3 := k1.cell 3
 have c4 := k1.cell 4
 have c5 := k1.cell 5
 cases a0 with
 | true =>
   go_wp2_with fail
   go_ret
   exact ⟨ret_b (by simp), hB1⟩
 | false =>
   cases a1 with
   | true =>
     go_wp2_with fail
     go_ret
     exact ⟨ret_b (by simp), hB1⟩
   | false =>
     cases a2 with
     | true =>
       go_wp2_with fail
       go_ret
       exact ⟨ret_b (by simp), hB1⟩
     | false =>
       cases a3 with
       | true =>
         go_wp2_with fail
         go_ret
         exact ⟨ret_b (by simp), hB1⟩
       | false =>
         cases a4 with
         | true =>
           go_wp2_with fail
           go_ret
           exact ⟨ret_b (by simp), hB1⟩
         | false =>
           cases s0 with
           | true =>
             cases b0 with
             | true =>
               go_wp2_with fail
               refine (HR.out _).mono ?_
               rintro e w2 ⟨rfl, hb2⟩
               have k2 := k1.below hb2 k1.lt
               have hB2 := hB1.trans (hb2.mono hB1.size)
               clear k1 hB1 hb2 c3 c4 c5
               have c3 := k2.cell 3
               have c4 := k2.cell 4
               have c5 := k2.cell 5
               go_wp2_with fail
               go_ret
               exact ⟨ret_b (by simp), hB2⟩
             | false =>
               go_wp2_with fail
               refine (HQ.out _).mono ?_
               rintro e w2 ⟨rfl, hb2⟩
               have k2 := k1.below hb2 k1.lt
               have hB2 := hB1.trans (hb2.mono hB1.size)
               clear k1 hB1 hb2 c3 c4 c5
               have c3 := k2.cell 3
               have c4 := k2.cell 4
               have c5 := k2.cell 5
               cases q with
               | false =>
                 go_wp2_with fail
                 go_ret
                 exact ⟨ret_b (by simp), hB2⟩
               | true =>
                 go_wp2_with fail
                 refine (HR.out _).mono ?_
                 rintro e w3 ⟨rfl, hb3⟩
                 have k3 := k2.below hb3 k2.lt
                 have hB3 := hB2.trans (hb3.mono hB2.size)
                 clear k2 hB2 hb3 c3 c4 c5
                 have c3 := k3.cell 3
                 have c4 := k3.cell 4
                 have c5 := k3.cell 5
                 go_wp2_with fail
                 go_ret
                 exact ⟨ret_b (by simp), hB3⟩
           | false =>
             go_wp2_with fail
             refine (HP.out _).mono ?_
             rintro e w2 ⟨rfl, hb2⟩
             have k2 := k1.below hb2 k1.lt
             have hB2 := hB1.trans (hb2.mono hB1.size)
             clear k1 hB1 hb2 c3 c4 c5
             have c3 := k2.cell 3
             have c4 := k2.cell 4
             have c5 := k2.cell 5
             cases p with
             | false =>
               go_wp2_with fail
               go_ret
               exact ⟨ret_b (by simp), hB2⟩
             | true =>
               cases b0 with
               | true =>
                 go_wp2_with fail
                 refine (HR.out _).mono ?_
                 rintro e w3 ⟨rfl, hb3⟩
                 have k3 := k2.below hb3 k2.lt
                 have hB3 := hB2.trans (hb3.mono hB2.size)
                 clear k2 hB2 hb3 c3 c4 c5
                 have c3 := k3.cell 3
                 have c4 := k3.cell 4
                 have c5 := k3.cell 5
                 go_wp2_with fail
                 go_ret
                 exact ⟨ret_b (by simp), hB3⟩
               | false =>
                 go_wp2_with fail
                 refine (HQ.out _).mono ?_
                 rintro e w3 ⟨rfl, hb3⟩
                 have k3 := k2.below hb3 k2.lt
                 have hB3 := hB2.trans (hb3.mono hB2.size)
                 clear k2 hB2 hb3 c3 c4 c5
                 have c3 := k3.cell 3
                 have c4 := k3.cell 4
                 have c5 := k3.cell 5
                 cases q with
                 | false =>
                   go_wp2_with fail
                   go_ret
                   exact ⟨ret_b (by simp), hB3⟩
                 | true =>
                   go_wp2_with fail
                   refine (HR.out _).mono ?_
                   rintro e w4 ⟨rfl, hb4⟩
                   have k4 := k3.below hb4 k3.lt
                   have hB4 := hB3.trans (hb4.mono hB3.size)
                   clear k3 hB3 hb4 c3 c4 c5
                   have c3 := k4.cell 3
                   have c4 := k4.cell 4
                   have c5 := k4.cell 5
                   go_wp2_with fail
                   go_ret
                   exact ⟨ret_b (by simp), hB4⟩
end Go.Proofs.YtdfojkbgdoiglaaDoor
