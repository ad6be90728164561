/-
  Layer 10, the document's functions, walked.
  Cut out of MdsR. Stage 12, the landed other: Key.
-/
import Derived.Test.YtceipblcdcgljaaGreatDoorG07
import Derived.Test.YtceipblcdcgljaaGreatDoorG12
import Derived.Test.YtceipblcdcgljaaGreatDoorG15
import Derived.Test.YtceipblcdcgljaaGreatDoorG18
import Derived.Test.YtceipblcdcgljaaGreatDoorG20
namespace Go.Proofs.YtceipblcdcgljaaGreatDoor
open Go.RowKit
set_option maxRecDepth 100000 in
theorem rhas10_any (n b : Int) (hb : 0 < b) (hb2 : b ≤ 256) (hn2 : n ≤ 9223372036854775807) (w : World) : Calls Tryz.prog 82 #[.int .i64 n, .int .i64 b] w fun e w' => e = .returned (.bool (hasN n b)) ∧ Below w.heap.size w w' := by
 obtain ⟨N, hN⟩ : ∃ N, max n 0 = N := ⟨_, rfl⟩
 have hmax := max0 n N hN (P := Tryz.prog)
 have hN0 : 0 ≤ N := by omega
 have hN1 : N ≤ 9223372036854775807 := by omega
 have hbe : (b == 0) = false := by simp; omega
 have hb0 : b ≠ 0 := by omega
 obtain ⟨q, hq⟩ : ∃ q, N / b = q := ⟨_, rfl⟩
 have hd : Int.tdiv N b = q := by rw [← hq]; exact Int.tdiv_eq_ediv_of_nonneg hN0
 have hq0 : 0 ≤ q := by rw [← hq]; exact Int.ediv_nonneg hN0 (by omega)
 have hq1 : q ≤ 9223372036854775807 := by rw [← hq]; exact Int.le_trans (Int.ediv_le_self b hN0) hN1
 obtain ⟨r, hr⟩ : ∃ r, q % 2 = r := ⟨_, rfl⟩
 have hm : Int.tmod q 2 = r := by rw [← hr]; exact Int.tmod_eq_emod_of_nonneg hq0
 obtain ⟨v, hv⟩ : ∃ v, (r == 1) = v := ⟨_, rfl⟩
 have HB := Lib.hid (show hasN n b = v by unfold hasN; rw [hN, hq, hr, hv])
 rw [HB.out]
 have hw := IntWalk.i64_in q ⟨by omega, hq1⟩
 clear hq hr hN hn2
 go_enter Tryz.func82, Tryz.ntmps82
 go_wp2
 go_ret
 exact ⟨by simp, by first | exact Below.refl _ _ | exact below_drewN (Below.refl _ _) _⟩
set_option maxRecDepth 100000 in
theorem rtxt10_any (c : Int) (w : World) : Calls Tryz.prog 23 #[.int .i64 c] w fun e w' => e = .returned (.bool (textK c)) ∧ Below w.heap.size w w' := by
 have hl := rlook_any c w
 obtain ⟨ki, hki⟩ : ∃ q, (lookE c).kind = q := ⟨_, rfl⟩
 have HT := Lib.hid (show textK c = (ki == 1) by unfold textK; rw [hki])
 have hf : ∀ W : World, (Instr.field 53 (enV (lookE c)) 0).run Tryz.prog W = .ok (.int .i64 ki) W := fun W => by
  rw [← hki]
  exact (by kernel_rfl : (Instr.field 53 (enV (lookE c)) 0).run Tryz.prog W = .ok (.int .i64 (lookE c).kind) W)
 obtain ⟨E, hE⟩ : ∃ E, enV (lookE c) = E := ⟨_, rfl⟩
 rw [hE] at hl hf
 rw [HT.out]
 clear hE hki HT
 obtain ⟨v, hv⟩ : ∃ v, (ki == 1) = v := ⟨_, rfl⟩
 rw [hv]
 go_enter Tryz.func23, Tryz.ntmps23
 go_wp2_with fail
 refine hl.mono ?_
 clear hl
 rintro e w1 ⟨rfl, hb1⟩
 go_wp2_with fail
 go_ret
 exact ⟨rfl, hb1⟩
theorem clean_step {ks : List Int} {i : Nat} (h : i < ks.length) : cleanP (ks.take (i + 1)) = (cleanP (ks.take i) && !(decide (ks[i] < 32) || decide (127 ≤ ks[i]) && decide (ks[i] ≤ 159))) := by
 unfold cleanP
 rw [List.take_succ_eq_append_getElem h, List.all_append]
 simp
theorem clean_hit {ks : List Int} {i : Nat} (h : i < ks.length) (hb : (decide (ks[i] < 32) || decide (127 ≤ ks[i]) && decide (ks[i] ≤ 159)) = true) : cleanP ks = false := by
 unfold cleanP
 rw [List.all_eq_false]
 exact ⟨ks[i], List.getElem_mem h, by rw [hb]; decide⟩
set_option maxRecDepth 100000 in
set_option maxHeartbeats 8000000 in
theorem rclean_any (s : ByteArray) (hs : s.size ≤ 4294967296) (w : World) : Calls Tryz.prog 24 #[.string s] w fun e w' => e = .returned (.bool (cleanB s)) ∧ Below w.heap.size w w' := by
 have hms : s.size ≤ maxLen := by simp only [maxLen]; omega
 have hlen : s.data.toList.length = s.size := Array.length_toList
 obtain ⟨R, hR⟩ : ∃ R, cleanB s = R := ⟨_, rfl⟩
 obtain ⟨o, ho⟩ : ∃ o, allL s.data.toList = o := ⟨_, rfl⟩
 have HC := Lib.hid (show cleanO o = R by rw [← hR, ← ho]; rfl)
 obtain ⟨l, hl⟩ : ∃ l, s.data.toList = l := ⟨_, rfl⟩
 rw [hl] at hlen ho
 have HL := Lib.hid hl
 have HO := Lib.hid ho
 have HLN := Lib.hid hlen
 rw [hR]
 have HSZ := Lib.hid hs
 clear hR hl ho hlen hs
 go_enter Tryz.func24, Tryz.ntmps24
 go_wp2_with (first
  | ((with_reducible refine list_conv _ rfl (.tmp 7) 9 27 rfl w.heap.size 5 s ?_ Tryz.underlying9 Tryz.underlying27 Tryz.underlying5 hms (Nat.le_refl _) ?_); rfl; intro v1 w1 own1 hg1; obtain ⟨A1, c1, rfl, hr1⟩ := own1.form; have hc1 := own1.capT; have hB1 := below_none hg1; clear hg1))
 rw [HL.out] at hr1
 have hall := rall_any A1 c1 l w1 (by rw [HLN.out]; exact HSZ.out) (by rw [HLN.out]; exact hc1) hr1
 rw [HLN.out, HO.out] at hall
 refine hall.mono ?_
 clear hall hr1 own1
 intro e w2 hA
 cases o with
 | none =>
   obtain ⟨rfl, hb2⟩ := hA
   have hB2 := hB1.trans (hb2.mono hB1.size)
   have HCF := Lib.hid (show false = R from HC.out)
   go_wp2_with fail
   go_ret
   exact ⟨ret_b HCF.out, hB2⟩
 | some ks =>
   have HCT := Lib.hid (show (decide (ks.length ≤ 8) && cleanP ks) = R from HC.out)
   clear HC
   obtain ⟨A2, c2, rfl, hr2, hb2⟩ := hA
   have hB2 := hB1.trans (hb2.mono hB1.size)
   clear hB1 hb2
   by_cases h8 : 8 < ks.length
   ·have t1 : decide (8 < (ks.length : Int)) = true := decide_eq_true (by omega)
    have HE := Lib.hid (show decide (ks.length ≤ 8) = false from decide_eq_false (by omega))
    go_wp2_with fail
    go_ret
    exact ⟨ret_b (by rw [← HCT.out, HE.out]; rfl), hB2⟩
   ·have t1 : decide (8 < (ks.length : Int)) = false := decide_eq_false (by omega)
    have HE := Lib.hid (show decide (ks.length ≤ 8) = true from decide_eq_true (by omega))
    have hk8 : (ks.length : Int) ≤ 8 := by omega
    obtain ⟨n, hn⟩ : ∃ n, ks.length = n := ⟨_, rfl⟩
    have HN := Lib.hid hn
    rw [hn] at t1 hk8 ⊢
    rw [hn] at HE HCT
    clear hn h8
    go_wp2_with fail
    go_loopw [5] (fun z wr => ∃ i : Nat, i ≤ n ∧ z = .int .i64 i ∧ cleanP (ks.take i) = true ∧ Below w.heap.size w wr ∧ Rd wr A2 (is_ ks)) (fun z _ => n - (intOf z).toNat)
    case atStart => exact ⟨0, Nat.zero_le _, rfl, rfl, hB2, hr2⟩
    case round =>
     clear hB2 hr2
     obtain ⟨i, hi, rfl, hcl, hbw, hr⟩ := hrel
     have HCL := Lib.hid hcl
     clear hcl
     by_cases hlt : i < n
     ·have hil : i < ks.length := by rw [HN.out]; exact hlt
      obtain ⟨b, o, rfl, hbl, hcc⟩ := hr.int_at (by omega)
      have hci := hcc i hil
      have HS := Lib.hid (clean_step hil)
      have HH := Lib.hid (@clean_hit ks i hil)
      obtain ⟨x, hx⟩ : ∃ x, ks[i]'hil = x := ⟨_, rfl⟩
      rw [hx] at hci HS HH
      have g0 : (0 : Int) ≤ (i : Int) := by omega
      have g1 : (i : Int) < (n : Int) := by omega
      clear hcc hx
      by_cases h1 : x < 32
      ·have HF := Lib.hid (HH.out (by simp [h1]))
       go_wp2_with fail
       go_ret
       exact ⟨ret_b (by rw [← HCT.out, HF.out, HE.out]; rfl), hbw⟩
      ·have h1' : 32 ≤ x := by omega
       by_cases h2 : 127 ≤ x
       ·by_cases h3 : x ≤ 159
        ·have HF := Lib.hid (HH.out (by simp [h2, h3]))
         go_wp2_with fail
         go_ret
         exact ⟨ret_b (by rw [← HCT.out, HF.out, HE.out]; rfl), hbw⟩
        ·have h3' : 159 < x := by omega
         have HG := Lib.hid (show cleanP (ks.take (i + 1)) = true by rw [HS.out, HCL.out]; simp; omega)
         clear h1 h3
         go_wp2_with fail
         go_roundw
         case rel => exact ⟨i + 1, by omega, by go_num, HG.out, hbw, hr⟩
         case measure => simp [intOf]; omega
       ·have h2' : x < 127 := by omega
        have HG := Lib.hid (show cleanP (ks.take (i + 1)) = true by rw [HS.out, HCL.out]; simp; omega)
        clear h1 h2
        go_wp2_with fail
        go_roundw
        case rel => exact ⟨i + 1, by omega, by go_num, HG.out, hbw, hr⟩
        case measure => simp [intOf]; omega
     ·have HF := Lib.hid (show cleanP ks = true by
       have := HCL.out
       rwa [List.take_of_length_le (by rw [HN.out]; omega)] at this)
      go_wp2_with fail
      go_ret
      exact ⟨ret_b (by rw [← HCT.out, HF.out, HE.out]; rfl), hbw⟩
set_option maxRecDepth 100000 in
set_option maxHeartbeats 16000000 in
theorem rmay10_any (k : Ky) (hs : k.text.size ≤ 4294967296) (w : World) : Calls Tryz.prog 14 #[kyV k] w fun e w' => e = .returned (.bool (mayK k)) ∧ Below w.heap.size w w' := by
 obtain ⟨code, mods, typ, shift, base, text⟩ := k
 simp only at hs
 have HLK : Hid (∀ W, Calls Tryz.prog 22 #[.int .i64 code] W fun e w' => e = .returned (enV (lookE code)) ∧ Below W.heap.size W w') := Lib.hid fun W => rlook_any code W
 obtain ⟨ki, hki⟩ : ∃ q, (lookE code).kind = q := ⟨_, rfl⟩
 have hf : ∀ W : World, (Instr.field 53 (enV (lookE code)) 0).run Tryz.prog W = .ok (.int .i64 ki) W := fun W => by
  rw [← hki]
  exact (by kernel_rfl : (Instr.field 53 (enV (lookE code)) 0).run Tryz.prog W = .ok (.int .i64 (lookE code).kind) W)
 obtain ⟨a0, h0⟩ : ∃ a, (ki == 0) = a := ⟨_, rfl⟩
 obtain ⟨a1, h1⟩ : ∃ a, decide (mods < 0) = a := ⟨_, rfl⟩
 obtain ⟨a2, h2⟩ : ∃ a, decide (255 < mods) = a := ⟨_, rfl⟩
 obtain ⟨a3, h3⟩ : ∃ a, decide (typ < 1) = a := ⟨_, rfl⟩
 obtain ⟨a4, h4⟩ : ∃ a, decide (3 < typ) = a := ⟨_, rfl⟩
 obtain ⟨s0, hs0⟩ : ∃ a, (shift == 0) = a := ⟨_, rfl⟩
 obtain ⟨b0, hb0⟩ : ∃ a, (base == 0) = a := ⟨_, rfl⟩
 obtain ⟨p, hp⟩ : ∃ a, textK shift = a := ⟨_, rfl⟩
 obtain ⟨q, hq⟩ : ∃ a, textK base = a := ⟨_, rfl⟩
 obtain ⟨r, hr⟩ : ∃ a, cleanB text = a := ⟨_, rfl⟩
 have HM := Lib.hid (show mayK ⟨code, mods, typ, shift, base, text⟩ = (!(a0 || a1 || a2 || a3 || a4) && ((s0 || p) && (b0 || q) && r)) by
  rw [← h0, ← hki, ← h1, ← h2, ← h3, ← h4, ← hs0, ← hb0, ← hp, ← hq, ← hr]
  rfl)
 have HP : Hid (∀ W, Calls Tryz.prog 23 #[.int .i64 shift] W fun e w' => e = .returned (.bool p) ∧ Below W.heap.size W w') := Lib.hid fun W => by
  have := rtxt10_any shift W
  rwa [hp] at this
 have HQ : Hid (∀ W, Calls Tryz.prog 23 #[.int .i64 base] W fun e w' => e = .returned (.bool q) ∧ Below W.heap.size W w') := Lib.hid fun W => by
  have := rtxt10_any base W
  rwa [hq] at this
 have HR : Hid (∀ W, Calls Tryz.prog 24 #[.string text] W fun e w' => e = .returned (.bool r) ∧ Below W.heap.size W w') := Lib.hid fun W => by
  have := rclean_any text hs W
  rwa [hr] at this
 obtain ⟨E, hE⟩ : ∃ E, enV (lookE code) = E := ⟨_, rfl⟩
 rw [hE] at HLK hf
 rw [HM.out]
 clear hE hki hp hq hr hs HM
 have hB := ky_box w ⟨code, mods, typ, shift, base, text⟩
 have k0 := Blk.new w 25 (kyC ⟨code, mods, typ, shift, base, text⟩)
 rw [kyV]
 rw [kyC] at hB k0
 simp only at hB k0 ⊢
 have c0 := k0.cell 0
 go_enter Tryz.func14, Tryz.ntmps14
 go_wp2_with fail
 refine (HLK.out _).mono ?_
 rintro e w1 ⟨rfl, hb1⟩
 have k1 := k0.below hb1 k0.lt
 have hB1 := hB.trans (hb1.mono hB.size)
 clear HLK k0 hB hb1 c0
 have c1 := k1.cell 1
 have c2 := k1.cell 2
 have c3 := k1.cell 3
 have c4 := k1.cell 4
 have c5 := k1.cell 5
 cases a0 with
 | true =>
   go_wp2_with fail
   go_ret
   exact ⟨ret_b (by simp), hB1⟩
 | false =>
   cases a1 with
   | true =>
     go_wp2_with fail
     go_ret
     exact ⟨ret_b (by simp), hB1⟩
   | false =>
     cases a2 with
     | true =>
       go_wp2_with fail
       go_ret
       exact ⟨ret_b (by simp), hB1⟩
     | false =>
       cases a3 with
       | true =>
         go_wp2_with fail
         go_ret
         exact ⟨ret_b (by simp), hB1⟩
       | false =>
         cases a4 with
         | true =>
           go_wp2_with fail
           go_ret
           exact ⟨ret_b (by simp), hB1⟩
         | false =>
           cases s0 with
           | true =>
             cases b0 with
             | true =>
               go_wp2_with fail
               refine (HR.out _).mono ?_
               rintro e w2 ⟨rfl, hb2⟩
               have k2 := k1.below hb2 k1.lt
               have hB2 := hB1.trans (hb2.mono hB1.size)
               clear k1 hB1 hb2 c3 c4 c5
               have c3 := k2.cell 3
               have c4 := k2.cell 4
               have c5 := k2.cell 5
               go_wp2_with fail
               go_ret
               exact ⟨ret_b (by simp), hB2⟩
             | false =>
               go_wp2_with fail
               refine (HQ.out _).mono ?_
               rintro e w2 ⟨rfl, hb2⟩
               have k2 := k1.below hb2 k1.lt
               have hB2 := hB1.trans (hb2.mono hB1.size)
               clear k1 hB1 hb2 c3 c4 c5
               have c3 := k2.cell 3
               have c4 := k2.cell 4
               have c5 := k2.cell 5
               cases q with
               | false =>
                 go_wp2_with fail
                 go_ret
                 exact ⟨ret_b (by simp), hB2⟩
               | true =>
                 go_wp2_with fail
                 refine (HR.out _).mono ?_
                 rintro e w3 ⟨rfl, hb3⟩
                 have k3 := k2.below hb3 k2.lt
                 have hB3 := hB2.trans (hb3.mono hB2.size)
                 clear k2 hB2 hb3 c3 c4 c5
                 have c3 := k3.cell 3
                 have c4 := k3.cell 4
                 have c5 := k3.cell 5
                 go_wp2_with fail
                 go_ret
                 exact ⟨ret_b (by simp), hB3⟩
           | false =>
             go_wp2_with fail
             refine (HP.out _).mono ?_
             rintro e w2 ⟨rfl, hb2⟩
             have k2 := k1.below hb2 k1.lt
             have hB2 := hB1.trans (hb2.mono hB1.size)
             clear k1 hB1 hb2 c3 c4 c5
             have c3 := k2.cell 3
             have c4 := k2.cell 4
             have c5 := k2.cell 5
             cases p with
             | false =>
               go_wp2_with fail
               go_ret
               exact ⟨ret_b (by simp), hB2⟩
             | true =>
               cases b0 with
               | true =>
                 go_wp2_with fail
                 refine (HR.out _).mono ?_
                 rintro e w3 ⟨rfl, hb3⟩
                 have k3 := k2.below hb3 k2.lt
                 have hB3 := hB2.trans (hb3.mono hB2.size)
                 clear k2 hB2 hb3 c3 c4 c5
                 have c3 := k3.cell 3
                 have c4 := k3.cell 4
                 have c5 := k3.cell 5
                 go_wp2_with fail
                 go_ret
                 exact ⟨ret_b (by simp), hB3⟩
               | false =>
                 go_wp2_with fail
                 refine (HQ.out _).mono ?_
                 rintro e w3 ⟨rfl, hb3⟩
                 have k3 := k2.below hb3 k2.lt
                 have hB3 := hB2.trans (hb3.mono hB2.size)
                 clear k2 hB2 hb3 c3 c4 c5
                 have c3 := k3.cell 3
                 have c4 := k3.cell 4
                 have c5 := k3.cell 5
                 cases q with
                 | false =>
                   go_wp2_with fail
                   go_ret
                   exact ⟨ret_b (by simp), hB3⟩
                 | true =>
                   go_wp2_with fail
                   refine (HR.out _).mono ?_
                   rintro e w4 ⟨rfl, hb4⟩
                   have k4 := k3.below hb4 k3.lt
                   have hB4 := hB3.trans (hb4.mono hB3.size)
                   clear k3 hB3 hb4 c3 c4 c5
                   have c3 := k4.cell 3
                   have c4 := k4.cell 4
                   have c5 := k4.cell 5
                   go_wp2_with fail
                   go_ret
                   exact ⟨ret_b (by simp), hB4⟩
def Inv12 (w : World) : Prop := Siz w ∧ Rws w ∧ Tab w
theorem Inv12.below {w w' : World} (h : Inv12 w) (hb : Below w.heap.size w w') : Inv12 w' := ⟨h.1.below' hb, h.2.1.below hb, h.2.2.below hb⟩
def FTwo (p c : Int) (v : Value) (w : World) : Prop := ∃ b, v = .slice (some ⟨b, 0, none⟩) 2 2 ∧ Rd w (some ⟨b, 0, none⟩) (is_ [p, c])
def NQV (A : Option Addr) (d : Nat) : Value := .agg #[.int .i64 1, .int .u8 0, .slice A 3 d, .string ⟨#[]⟩, .int .u8 126, .string ⟨#[]⟩]
def FSeq (p c : Int) (v : Value) (w : World) : Prop := ∃ A d, v = NQV A d ∧ RdP w A ([27, p, c].map fun n => [n])
def FPut (L : List UInt8) (n : Nat) (v : Value) (w : World) : Prop := ∃ A d, v = .tuple #[.slice A n d, .int .i64 0] ∧ n ≤ d ∧ Rd w A (bs L)
def FByt (L : List UInt8) (n : Nat) (v : Value) (w : World) : Prop := ∃ A d, v = .slice A n d ∧ n ≤ d ∧ Rd w A (bs L)
theorem ftwo_ok (i : Nat) (d : Tmp) (p c : Int) : (⟨i, d, FTwo p c⟩ : Fact).ok := fun _ _ _ ⟨b, e, h⟩ hb => ⟨b, e, h.below hb⟩
theorem fseq_ok (i : Nat) (d : Tmp) (p c : Int) : (⟨i, d, FSeq p c⟩ : Fact).ok := fun _ _ _ ⟨A, d, e, h⟩ hb => ⟨A, d, e, h.below hb⟩
theorem fput_ok (i : Nat) (d : Tmp) (L : List UInt8) (n : Nat) : (⟨i, d, FPut L n⟩ : Fact).ok := fun _ _ _ ⟨A, d, e, h1, h⟩ hb => ⟨A, d, e, h1, h.below hb⟩
theorem fbyt_ok (i : Nat) (d : Tmp) (L : List UInt8) (n : Nat) : (⟨i, d, FByt L n⟩ : Fact).ok := fun _ _ _ ⟨A, d, e, h1, h⟩ hb => ⟨A, d, e, h1, h.below hb⟩
theorem two_made {ev : Operand → Value} {o : Oper} {x y : Operand} {a b : Int} (ho : o.op = .buildSlice 57 2 #[(0, x), (1, y)]) (hx : ev x = .int .i64 a) (hy : ev y = .int .i64 b) (w : World) :
 ∃ v w', (execOp ev o).run Tryz.prog w = .ok (.value v) w' ∧ FTwo a b v w' ∧ Below w.heap.size w w' := by
 refine ⟨.slice (some ⟨w.heap.size, 0, none⟩) 2 2, w.alloc (.cells #[.int .i64 a, .int .i64 b] 3), ?_, ⟨_, rfl, Rd.block (heap_alloc_new w _) rfl⟩, (Below.refl _ _).alloc (Nat.le_refl _) _⟩
 unfold execOp
 simp only [ho]
 rw [show Array.map (fun x => (x.fst, ev x.snd)) #[(0, x), (1, y)] = #[(0, .int .i64 a), (1, .int .i64 b)] by simp [hx, hy]]
 kernel_rfl
theorem ftwo_seq {p c : Int} {v : Value} {W : World} (h : FTwo p c v W) : Calls Tryz.prog 75 #[v] W fun e w' => ∃ u, e = .returned u ∧ FSeq p c u w' ∧ Below W.heap.size W w' := by
 obtain ⟨b, rfl, hr⟩ := h
 exact (oseq_any p c _ 2 W hr).mono fun e w' ⟨A, d, he, hr', hb⟩ => ⟨_, he, ⟨A, d, rfl, hr'⟩, hb⟩
theorem fseq_put {p c : Int} {L : List UInt8} {n : Nat} (hL : putS (sqN 1 126 [27, p, c]) = L) (hn : L.length = n) (hm : mayS (sqN 1 126 [27, p, c]) = 0) {v : Value} {W : World} (ht : Tab W) (h : FSeq p c v W) : Calls Tryz.prog 74 #[v] W fun e w' => ∃ u, e = .returned u ∧ FPut L n u w' ∧ Below W.heap.size W w' := by
 obtain ⟨A, d, rfl, hr⟩ := h
 have := pput_yes (sqN 1 126 [27, p, c]) A d W hm ht hr
 rw [sqn_v (n := 3) rfl (by decide) (by decide), hL] at this
 subst hn
 exact this.mono fun e w' ⟨⟨B, x, he, hx, hr'⟩, hb⟩ => ⟨_, he, ⟨B, x, rfl, hx, hr'⟩, hb⟩
theorem ext_0 {ev : Operand → Value} {o : Oper} {x : Operand} {a b : Value} (ho : o.op = .extract x 0) (hx : ev x = .tuple #[a, b]) (w : World) : (execOp ev o).run Tryz.prog w = .ok (.value a) w := by
 unfold execOp
 simp only [ho, hx]
 rfl
theorem ext_1 {ev : Operand → Value} {o : Oper} {x : Operand} {a b : Value} (ho : o.op = .extract x 1) (hx : ev x = .tuple #[a, b]) (w : World) : (execOp ev o).run Tryz.prog w = .ok (.value b) w := by
 unfold execOp
 simp only [ho, hx]
 rfl
theorem ev_rng {k : Ky} (h : evB k = true) : 0 ≤ charK k ∧ charK k ≤ 1114111 ∧ 1 ≤ oldN k.mods ∧ oldN k.mods < 8 := by
 unfold evB at h
 simp only [Bool.and_eq_true, bne_iff_ne] at h
 obtain ⟨⟨hm, _⟩, h⟩ := h
 have ho := old_rng k.mods
 by_cases h1 : (lookE k.code).kind = 1
 ·rw [if_pos h1] at h
  simp only [Bool.and_eq_true, bne_iff_ne] at h
  have := char_rng hm (.inl h1)
  omega
 ·rw [if_neg h1] at h
  by_cases h2 : (lookE k.code).kind = 2
  ·rw [if_pos h2] at h
   simp only [bne_iff_ne] at h
   have := char_rng hm (.inr h2)
   omega
  ·rw [if_neg h2] at h
   cases h
theorem outc_no {L : List UInt8} {n : Nat} {q : Bool} (hq : q = false) (hL : L = []) (hn : L.length = n) {w w' : World} (hb : Below w.heap.size w w') : OutCq L n q w (.returned (.tuple #[.slice none 0 0, .bool false])) w' := by
 subst hq hL hn
 exact ⟨none, 0, rfl, Nat.le_refl _, Rd.nil _ _, hb⟩
set_option maxRecDepth 100000 in
set_option maxHeartbeats 8000000 in
theorem okey_any (m : Mo) (k : Ky) (hk : okK k) (hs : k.text.size ≤ 4294967296) (w : World) (hv : Inv12 w) : Calls Tryz.prog 34 #[moV m, kyV k] w (OutCq (othL m.other k) (othL m.other k).length (isO m.other k) w) := by
 have HE : Hid (∀ W, Below w.heap.size w W → Calls Tryz.prog 72 #[kyV k] W (EvG (evB k) (charK k) ((lookE k.code).kind == 1) (oldN k.mods) W)) := Lib.hid fun W hW => eventOf_any k hk hs W (hv.below hW).1 (hv.below hW).2.1
 have HV := Lib.hid hv
 have HR := Lib.hid (fun h : evB k = true => ev_rng h)
 have HI := Lib.hid (isO_told m.other k)
 have HO := Lib.hid (fun h : isO m.other k = true => othL_yes h)
 have HX := Lib.hid (fun h : isO m.other k = false => othL_no h)
 obtain ⟨L, hL⟩ : ∃ L, othL m.other k = L := ⟨_, rfl⟩
 obtain ⟨n, hn⟩ : ∃ n, L.length = n := ⟨_, rfl⟩
 obtain ⟨r, hr⟩ : ∃ r, isO m.other k = r := ⟨_, rfl⟩
 obtain ⟨q, hq⟩ : ∃ q, evB k = q := ⟨_, rfl⟩
 obtain ⟨c, hc⟩ : ∃ c, charK k = c := ⟨_, rfl⟩
 obtain ⟨t, ht⟩ : ∃ t, ((lookE k.code).kind == 1) = t := ⟨_, rfl⟩
 obtain ⟨o, ho⟩ : ∃ o, oldN k.mods = o := ⟨_, rfl⟩
 rw [hq, hc, ht, ho] at HE HI
 rw [hq, hc, ho] at HR
 rw [hr] at HI HO HX
 rw [hL] at HO HX
 rw [hc, ho] at HO
 rw [hL, hn, hr]
 have HN := Lib.hid hn
 clear hL hn hr hq hc ht ho hk hs hv
 obtain ⟨code, mods, typ, shift, base, text⟩ := k
 obtain ⟨m0, m1, m2, m3, m4, m5, m6, m7, m8, m9⟩ := m
 simp only [moV, kyV] at HE HI ⊢
 have hB0 : Below w.heap.size w ((w.alloc (.cells #[.bool m0, .bool m1, .bool m2, .bool m3, .bool m4, .bool m5, .bool m6, .int .i64 m7, .int .i64 m8, .int .i64 m9] 23)).alloc (.cells #[.int .i64 code, .int .i64 mods, .int .i64 typ, .int .i64 shift, .int .i64 base, .string text] 25)) := ((Below.refl _ w).alloc (Nat.le_refl _) _).alloc (by simp) _
 have a0 := (Blk.new w 23 #[.bool m0, .bool m1, .bool m2, .bool m3, .bool m4, .bool m5, .bool m6, .int .i64 m7, .int .i64 m8, .int .i64 m9]).alloc (.cells #[.int .i64 code, .int .i64 mods, .int .i64 typ, .int .i64 shift, .int .i64 base, .string text] 25)
 have b0 := Blk.new (w.alloc (.cells #[.bool m0, .bool m1, .bool m2, .bool m3, .bool m4, .bool m5, .bool m6, .int .i64 m7, .int .i64 m8, .int .i64 m9] 23)) 25 #[.int .i64 code, .int .i64 mods, .int .i64 typ, .int .i64 shift, .int .i64 base, .string text]
 rw [World.size_alloc] at b0
 obtain ⟨c0, c1, c2, c3, c4, c5⟩ := Blk.cells6 b0
 go_enter Tryz.func34, Tryz.ntmps34
 go_wp2_with fail
 refine (HE.out _ hB0).mono ?_
 rintro e w1 ⟨c', t', o', rfl, hev, hb1⟩
 have a1 := (a0.below hb1 a0.lt).alloc (.cells #[.int .i64 c', .bool t', .int .i64 o'] 98)
 have z1 := Blk.new w1 98 #[.int .i64 c', .bool t', .int .i64 o']
 have hB1 := hB0.trans (hb1.mono hB0.size)
 have hB2 := hB1.alloc hB1.size (.cells #[.int .i64 c', .bool t', .int .i64 o'] 98)
 have HEV := Lib.hid hev
 clear a0 b0 hB0 hb1 hev HE c0 c1 c2 c3 c4 c5
 unfold evO
 cases q with
 | false =>
   have HQ := Lib.hid (show r = false from HI.out)
   have HX := Lib.hid (HX.out HQ.out)
   go_wp2_with fail
   refine bodyPost_ret (v := .tuple #[.slice none 0 0, .bool false]) (by simp [results, Tryz.results34, go_sem]) rfl (outc_no HQ.out HX.out HN.out hB2)
 | true =>
   obtain ⟨rfl, rfl, rfl⟩ := HEV.out rfl
   obtain ⟨g0, g1, g2, g3⟩ := HR.out rfl
   clear HR HEV
   have HTO : Hid (∀ W, Calls Tryz.prog 73 #[.int .i64 m9, .agg #[.int .i64 c', .bool t', .int .i64 o']] W fun e w' => e = .returned (.bool r) ∧ Below W.heap.size W w') := Lib.hid fun W => by
    rw [HI.out, Bool.true_and]
    exact told_any m9 c' t' o' ⟨by omega, by omega⟩ (by omega) (by omega) W
   have a9 := a1.cell 9
   go_wp2_with fail
   refine (HTO.out _).mono ?_
   rintro e w2 ⟨rfl, hb2⟩
   have z2 := z1.below hb2 z1.lt
   have hB3 := hB2.trans (hb2.mono hB2.size)
   clear a1 z1 hB1 hB2 hb2 a9 HTO HI
   cases r with
   | false =>
     have HX2 := Lib.hid (HX.out rfl)
     clear HO HX
     go_wp2_with fail
     refine bodyPost_ret (v := .tuple #[.slice none 0 0, .bool false]) (by simp [results, Tryz.results34, go_sem]) rfl (outc_no rfl HX2.out HN.out hB3)
   | true =>
     obtain ⟨p, hp⟩ : ∃ p, 1 + o' = p := ⟨_, rfl⟩
     have hmay := oth_may (p := p) (c := c') (by omega) (by omega) (by omega) (by omega)
     have HL := Lib.hid (show putS (sqN 1 126 [27, p, c']) = L by
      rw [HO.out rfl, hp, othB, seqB_is hmay])
     have HM := Lib.hid hmay
     have HPR : Hid (∀ W, Calls Tryz.prog 76 #[.int .i64 o'] W fun e w' => e = .returned (.int .i64 p) ∧ Below W.heap.size W w') := Lib.hid fun W => by
      have := pparam_any o' W
      rwa [show paramN o' = p by unfold paramN; rw [if_neg (by omega)]; omega] at this
     have HT : Hid (∀ W, Below w2.heap.size w2 W → Tab W) := Lib.hid fun W hW => (HV.out.below (hB3.trans (hW.mono hB3.size))).2.2
     clear hmay hp g0 g1 g2 g3 HO HX HV
     have le : ∀ W, Below w2.heap.size w2 W → Blk W w1.heap.size 98 #[.int .i64 c', .bool t', .int .i64 o'] := fun W hW => z2.below hW z2.lt
     have hst : ∀ f ∈ ([⟨5, 30, FTwo p c'⟩, ⟨6, 31, FSeq p c'⟩, ⟨7, 32, FPut L n⟩, ⟨8, 24, FPut L n⟩, ⟨9, 33, FByt L n⟩, ⟨11, 8, FByt L n⟩] : List Fact), f.ok := List.forall_mem_cons.2 ⟨ftwo_ok _ _ _ _, List.forall_mem_cons.2 ⟨fseq_ok _ _ _ _, List.forall_mem_cons.2 ⟨fput_ok _ _ _ _, List.forall_mem_cons.2 ⟨fput_ok _ _ _ _, List.forall_mem_cons.2 ⟨fbyt_ok _ _ _ _, List.forall_mem_cons.2 ⟨fbyt_ok _ _ _ _, fun _ h => by cases h⟩⟩⟩⟩⟩⟩
     go_wp2_with fail
     refine wp_region_told (w1 := w2) (K := [⟨5, 30, FTwo p c'⟩, ⟨6, 31, FSeq p c'⟩, ⟨7, 32, FPut L n⟩, ⟨8, 24, FPut L n⟩, ⟨9, 33, FByt L n⟩, ⟨11, 8, FByt L n⟩]) (ix := 1000) (R0 := fun _ _ _ => True) (R1 := fun _ _ _ => True) [30, 31, 32, 24, 33, 8] (⟨#[.agg #[.bool m0, .bool m1, .bool m2, .bool m3, .bool m4, .bool m5, .bool m6, .int .i64 m7, .int .i64 m8, .int .i64 m9], .agg #[.int .i64 code, .int .i64 mods, .int .i64 typ, .int .i64 shift, .int .i64 base, .string text], .pointer (some ⟨w.heap.size, 0, none⟩), .pointer (some ⟨w.heap.size + 1, 0, none⟩), .slice none 0 0, .bool false, .pointer (some ⟨w1.heap.size, 0, none⟩), .bool true, undef, .int .i64 0, .tuple #[.agg #[.int .i64 c', .bool t', .int .i64 o'], .bool true], .agg #[.int .i64 code, .int .i64 mods, .int .i64 typ, .int .i64 shift, .int .i64 base, .string text], .tuple #[.agg #[.int .i64 c', .bool t', .int .i64 o'], .bool true], .agg #[.int .i64 c', .bool t', .int .i64 o'], .bool true, .bool true, .bool false, .bool false, .pointer (some ⟨w.heap.size, 9, none⟩), .int .i64 m9, .agg #[.int .i64 c', .bool t', .int .i64 o'], .bool true, .bool false, .bool false, undef, .pointer (some ⟨w1.heap.size, 2, none⟩), .int .i64 o', .int .i64 p, .pointer (some ⟨w1.heap.size, 0, none⟩), .int .i64 c', undef, undef, undef, undef, .int .i64 0, undef, undef, undef], []⟩) (fun g => ⟨#[.agg #[.bool m0, .bool m1, .bool m2, .bool m3, .bool m4, .bool m5, .bool m6, .int .i64 m7, .int .i64 m8, .int .i64 m9], .agg #[.int .i64 code, .int .i64 mods, .int .i64 typ, .int .i64 shift, .int .i64 base, .string text], .pointer (some ⟨w.heap.size, 0, none⟩), .pointer (some ⟨w.heap.size + 1, 0, none⟩), .slice none 0 0, .bool false, .pointer (some ⟨w1.heap.size, 0, none⟩), .bool true, (g 8), .int .i64 0, .tuple #[.agg #[.int .i64 c', .bool t', .int .i64 o'], .bool true], .agg #[.int .i64 code, .int .i64 mods, .int .i64 typ, .int .i64 shift, .int .i64 base, .string text], .tuple #[.agg #[.int .i64 c', .bool t', .int .i64 o'], .bool true], .agg #[.int .i64 c', .bool t', .int .i64 o'], .bool true, .bool true, .bool false, .bool false, .pointer (some ⟨w.heap.size, 9, none⟩), .int .i64 m9, .agg #[.int .i64 c', .bool t', .int .i64 o'], .bool true, .bool false, .bool false, (g 24), .pointer (some ⟨w1.heap.size, 2, none⟩), .int .i64 o', .int .i64 p, .pointer (some ⟨w1.heap.size, 0, none⟩), .int .i64 c', (g 30), (g 31), (g 32), (g 33), .int .i64 0, undef, undef, undef], []⟩) [.pointer (some ⟨w1.heap.size, 2, none⟩), .int .i64 o', .int .i64 p, .pointer (some ⟨w1.heap.size, 0, none⟩), .int .i64 c', undef, undef, undef, undef, undef, .int .i64 0, undef, .int .i64 0] (by kernel_rfl) (by kernel_rfl) (by kernel_rfl) (fun g => by kernel_rfl) (by kernel_rfl) (Below.refl _ _).drew (by decide) (by kernel_rfl)
      (goes_cons (gkP (fun _ => .pointer (some ⟨w1.heap.size, 2, none⟩)))
      (goes_cons (gkC hst (fun W hW => (le W hW).cell 2))
      (goes_cons (gkK (fun g => #[.int .i64 o']) hst (fun g W hW hin => HPR.out W))
      (goes_cons (gkP (fun _ => .pointer (some ⟨w1.heap.size, 0, none⟩)))
      (goes_cons (gkC hst (fun W hW => (le W hW).cell 0))
      (goes_cons (goesK_any hst (ahead_none (by decide)) rfl (by decide) (by decide) 0 rfl (by kernel_rfl) (fun g => by kernel_rfl) rfl (fun g => by kernel_rfl) (fun g W hW hin => two_made rfl rfl rfl W))
      (goes_cons (gkG (fun g => #[g 30]) hst 1 (fun g W hW hin => ftwo_seq (hin 0 _ rfl (by kernel_rfl))))
      (goes_cons (gkG (fun g => #[g 31]) hst 2 (fun g W hW hin => fseq_put HL.out HN.out HM.out (HT.out W hW) (hin 1 _ rfl (by kernel_rfl))))
      (goes_cons (goesK_name (p' := 2) hst (ahead_none (by decide)) rfl (by decide) (by decide) 3 rfl rfl (by kernel_rfl) (by kernel_rfl) (fun g => by kernel_rfl) rfl (fun g => by kernel_rfl) (fun g w => by kernel_rfl))
      (goes_cons (goesK_any hst (ahead_none (by decide)) rfl (by decide) (by decide) 4 rfl (by kernel_rfl) (fun g => by kernel_rfl) rfl (fun g => by kernel_rfl) (fun g W hW hin => by obtain ⟨A, d, hv, hn, hr⟩ := hin 3 _ rfl (by kernel_rfl); exact ⟨_, W, ext_0 rfl hv W, ⟨A, d, rfl, hn, hr⟩, Below.refl _ _⟩))
      (goes_cons (goesK_know (.int .i64 0) hst (ahead_none (by decide)) rfl (by decide) (by decide) (by kernel_rfl) (fun g => by kernel_rfl) rfl (fun g => by kernel_rfl) (fun g w hW hin => by obtain ⟨A, d, hv, hn, hr⟩ := hin 3 _ rfl (by kernel_rfl); exact ext_1 rfl hv w))
      (goes_cons (goesK_name (p' := 4) hst (ahead_none (by decide)) rfl (by decide) (by decide) 5 rfl rfl (by kernel_rfl) (by kernel_rfl) (fun g => by kernel_rfl) rfl (fun g => by kernel_rfl) (fun g w => by kernel_rfl))
      (goes_cons (gkP (fun _ => .int .i64 0)) goes_nil))))))))))))) ?_
     intro g W hW hK
     obtain ⟨A, d, h8, hn, hr⟩ := hK 5 _ rfl
     have hB4 := hB3.trans (hW.mono hB3.size)
     have h8 : (g 8 : Value) = .slice A n d := h8
     simp only [h8]
     generalize g 24 = v24
     generalize g 30 = v30
     generalize g 31 = v31
     generalize g 32 = v32
     generalize g 33 = v33
     clear hK le hst h8
     go_wp2_with fail
     refine bodyPost_ret (v := .tuple #[.slice A n d, .bool true]) (by simp [results, Tryz.results34, go_sem]) rfl ⟨A, d, rfl, hn, hr, hB4⟩
end Go.Proofs.YtceipblcdcgljaaGreatDoor
