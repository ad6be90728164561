/-
  Layer 9: the document's own answers: Look. Layer 10, the document's functions, walked.
  Cut out of MdsR. Layer 3, walked: the document's last and bare. Layer 3, walked: the program's join, and its parameters as a text.
-/
import Derived.Test.YtdfojkbgdoiglaaGreatDoorG02
import Derived.Test.YtdfojkbgdoiglaaGreatDoorG03
import Derived.Test.YtdfojkbgdoiglaaGreatDoorG08
import Derived.Test.YtdfojkbgdoiglaaGreatDoorG09
import Derived.Test.YtdfojkbgdoiglaaGreatDoorG16
import Derived.Test.YtdfojkbgdoiglaaGreatDoorG17
import Derived.Test.YtdfojkbgdoiglaaGreatDoorG18
import Derived.Laws.OwnMore
namespace Go.Proofs.YtdfojkbgdoiglaaGreatDoor
open Go.RowKit
theorem below_step9 {n : Nat} {w a b : World} (h : Below n w a) (h2 : Below a.heap.size a b) (hn : n ≤ a.heap.size) : Below n w b := h.trans (h2.mono hn)
set_option maxRecDepth 100000 in
set_option maxHeartbeats 16000000 in
theorem rlook_any (c : Int) (w : World) : Calls Tryz.prog 14 #[.int .i64 c] w fun e w' => e = .returned (enV (lookE c)) ∧ Below w.heap.size w w' := by
 have hB : ∀ (x : Obj), Below w.heap.size w (w.alloc x) := fun x => (Below.refl _ w).alloc (Nat.le_refl _) _
 obtain ⟨L, hL⟩ : ∃ L, letterN c = L := ⟨_, rfl⟩
 obtain ⟨N, hN⟩ : ∃ N, numberN c = N := ⟨_, rfl⟩
 obtain ⟨k, hk⟩ : ∃ k, decide (57399 ≤ c) = k := ⟨_, rfl⟩
 have HL : Hid (∀ W, Calls Tryz.prog 37 #[.int .i64 c] W fun e w' => e = .returned (.int .u8 L) ∧ w' = W) := Lib.hid fun W => by rw [← hL]; exact rletter_any c W
 have HN : Hid (∀ W, Calls Tryz.prog 38 #[.int .i64 c] W fun e w' => e = .returned (.int .i64 N) ∧ w' = W) := Lib.hid fun W => by rw [← hN]; exact rnumber_any c W
 have HR := Lib.hid (rrest_any c)
 cases tL : (L == 0) with
 | false =>
   have hl : L ≠ 0 := ne_of_beq_false tL
   have E := Lib.hid (show lookE c = ⟨3, L, 0, 0, k⟩ by unfold lookE; rw [hL, if_pos hl, hk])
   clear hl hL hN
   go_enter Tryz.func14, Tryz.ntmps14
   go_wp2_with fail
   refine (HL.out _).mono ?_
   rintro e w1 ⟨rfl, rfl⟩
   go_wp2_with fail
   refine (HL.out _).mono ?_
   rintro e w1 ⟨rfl, rfl⟩
   go_wp2_with fail
   refine bodyPost_ret (v := enV ⟨3, L, 0, 0, k⟩) (by simp [results, Tryz.results14, go_sem, enV]) rfl ⟨by rw [E.out], hB _⟩
 | true =>
   have hl : L = 0 := eq_of_beq tL
   cases tN : (N == 0) with
   | false =>
     have hn : N ≠ 0 := ne_of_beq_false tN
     have E := Lib.hid (show lookE c = ⟨4, 0, N, 0, k⟩ by unfold lookE; rw [hL, if_neg (by rw [hl]; decide), hN, if_pos hn, hk])
     clear hl hn hL hN
     go_enter Tryz.func14, Tryz.ntmps14
     go_wp2_with fail
     refine (HL.out _).mono ?_
     rintro e w1 ⟨rfl, rfl⟩
     go_wp2_with fail
     refine (HN.out _).mono ?_
     rintro e w1 ⟨rfl, rfl⟩
     go_wp2_with fail
     refine (HN.out _).mono ?_
     rintro e w1 ⟨rfl, rfl⟩
     go_wp2_with fail
     refine bodyPost_ret (v := enV ⟨4, 0, N, 0, k⟩) (by simp [results, Tryz.results14, go_sem, enV]) rfl ⟨by rw [E.out], hB _⟩
   | true =>
     have hn : N = 0 := eq_of_beq tN
     by_cases hp : 57399 ≤ c ∧ c ≤ 57416
     ·obtain ⟨P, hP⟩ : ∃ P, padE c = P := ⟨_, rfl⟩
      have E := Lib.hid (show lookE c = P by unfold lookE; rw [hL, if_neg (by rw [hl]; decide), hN, if_neg (by rw [hn]; decide), if_pos hp, hP])
      have HP := Lib.hid (rpad_any c hp.1 hp.2)
      rw [hP, enV] at HP
      have p1 := hp.1
      have p2 := hp.2
      clear hl hn hL hN hp hP hk
      have q0 := Blk.new w 43 #[.int .i64 0, .int .u8 0, .int .i64 0, .int .i64 0, .bool false]
      have hq := hB (.cells #[.int .i64 0, .int .u8 0, .int .i64 0, .int .i64 0, .bool false] 43)
      go_enter Tryz.func14, Tryz.ntmps14
      go_wp2_with fail
      refine (HL.out _).mono ?_
      rintro e w1 ⟨rfl, rfl⟩
      go_wp2_with fail
      refine (HN.out _).mono ?_
      rintro e w1 ⟨rfl, rfl⟩
      go_wp2_with fail
      refine (HP.out _).mono ?_
      rintro e w1 ⟨rfl, hb⟩
      have q1 := q0.below hb q0.lt
      have hbe := below_step9 hq hb hq.size
      have z0 := q1.frozen 0
      have z1 := q1.frozen 1
      have z2 := q1.frozen 2
      have z3 := q1.frozen 3
      have z4 := q1.frozen 4
      have y0 := q1.cell 0
      have y1 := q1.cell 1
      have y2 := q1.cell 2
      have y3 := q1.cell 3
      have y4 := q1.cell 4
      go_wp2_with fail
      refine bodyPost_ret (v := enV P) ?_ rfl ⟨by rw [E.out], ?_⟩
      ·simp [results, Tryz.results14, go_sem, enV, *]
      ·exact ((((hbe.setCell (p := ⟨w.heap.size, 0, none⟩) (Nat.le_refl _) _).setCell (p := ⟨w.heap.size, 1, none⟩) (Nat.le_refl _) _).setCell (p := ⟨w.heap.size, 2, none⟩) (Nat.le_refl _) _).setCell (p := ⟨w.heap.size, 3, none⟩) (Nat.le_refl _) _).setCell (p := ⟨w.heap.size, 4, none⟩) (Nat.le_refl _) _
     ·obtain ⟨R, hR⟩ : ∃ R, restN c = R := ⟨_, rfl⟩
      have E := Lib.hid (show lookE c = ⟨R, 0, 0, 0, false⟩ by unfold lookE; rw [hL, if_neg (by rw [hl]; decide), hN, if_neg (by rw [hn]; decide), if_neg hp, hR])
      rw [hR] at HR
      have hp' : c < 57399 ∨ 57416 < c := by omega
      clear hl hn hL hN hp hR hk
      rcases hp' with p1 | p1
      all_goals
       try have p2 : 57399 ≤ c := by omega
       have q0 := Blk.new w 43 #[.int .i64 0, .int .u8 0, .int .i64 0, .int .i64 0, .bool false]
       have hq := hB (.cells #[.int .i64 0, .int .u8 0, .int .i64 0, .int .i64 0, .bool false] 43)
       go_enter Tryz.func14, Tryz.ntmps14
       go_wp2_with fail
       refine (HL.out _).mono ?_
       rintro e w1 ⟨rfl, rfl⟩
       go_wp2_with fail
       refine (HN.out _).mono ?_
       rintro e w1 ⟨rfl, rfl⟩
       go_wp2_with fail
       refine (HR.out _).mono ?_
       rintro e w1 ⟨rfl, hb⟩
       have q1 := q0.below hb q0.lt
       have hbe := below_step9 hq hb hq.size
       have z0 := q1.frozen 0
       have z1 := q1.frozen 1
       have z2 := q1.frozen 2
       have z3 := q1.frozen 3
       have z4 := q1.frozen 4
       have y0 := q1.cell 0
       have y1 := q1.cell 1
       have y2 := q1.cell 2
       have y3 := q1.cell 3
       have y4 := q1.cell 4
       go_wp2_with fail
       refine bodyPost_ret (v := enV ⟨R, 0, 0, 0, false⟩) ?_ rfl ⟨by rw [E.out], ?_⟩
       ·simp [results, Tryz.results14, go_sem, enV, *]
       ·exact ((((hbe.setCell (p := ⟨w.heap.size, 0, none⟩) (Nat.le_refl _) _).setCell (p := ⟨w.heap.size, 1, none⟩) (Nat.le_refl _) _).setCell (p := ⟨w.heap.size, 2, none⟩) (Nat.le_refl _) _).setCell (p := ⟨w.heap.size, 3, none⟩) (Nat.le_refl _) _).setCell (p := ⟨w.heap.size, 4, none⟩) (Nat.le_refl _) _
end Go.Proofs.YtdfojkbgdoiglaaGreatDoor
namespace Go.Proofs.YtdfojkbgdoiglaaGreatDoor
open Go.RowKit
set_option maxRecDepth 100000 in
theorem rhas10_any (n b : Int) (hb : 0 < b) (hb2 : b ≤ 256) (hn2 : n ≤ 9223372036854775807) (w : World) : Calls Tryz.prog 55 #[.int .i64 n, .int .i64 b] w fun e w' => e = .returned (.bool (hasN n b)) ∧ Below w.heap.size w w' := by
 obtain ⟨N, hN⟩ : ∃ N, max n 0 = N := ⟨_, rfl⟩
 have hmax := max0 n N hN (P := Tryz.prog)
 have hN0 : 0 ≤ N := by omega
 have hN1 : N ≤ 9223372036854775807 := by omega
 have hbe : (b == 0) = false := by simp; omega
 have hb0 : b ≠ 0 := by omega
 obtain ⟨q, hq⟩ : ∃ q, N / b = q := ⟨_, rfl⟩
 have hd : Int.tdiv N b = q := by rw [← hq]; exact Int.tdiv_eq_ediv_of_nonneg hN0
 have hq0 : 0 ≤ q := by rw [← hq]; exact Int.ediv_nonneg hN0 (by omega)
 have hq1 : q ≤ 9223372036854775807 := by rw [← hq]; exact Int.le_trans (Int.ediv_le_self b hN0) hN1
 obtain ⟨r, hr⟩ : ∃ r, q % 2 = r := ⟨_, rfl⟩
 have hm : Int.tmod q 2 = r := by rw [← hr]; exact Int.tmod_eq_emod_of_nonneg hq0
 obtain ⟨v, hv⟩ : ∃ v, (r == 1) = v := ⟨_, rfl⟩
 have HB := Lib.hid (show hasN n b = v by unfold hasN; rw [hN, hq, hr, hv])
 rw [HB.out]
 have hw := IntWalk.i64_in q ⟨by omega, hq1⟩
 clear hq hr hN hn2
 go_enter Tryz.func55, Tryz.ntmps55
 go_wp2
 go_ret
 exact ⟨by simp, by first | exact Below.refl _ _ | exact below_drewN (Below.refl _ _) _⟩
set_option maxRecDepth 100000 in
theorem rtxt10_any (c : Int) (w : World) : Calls Tryz.prog 29 #[.int .i64 c] w fun e w' => e = .returned (.bool (textK c)) ∧ Below w.heap.size w w' := by
 have hl := rlook_any c w
 obtain ⟨ki, hki⟩ : ∃ q, (lookE c).kind = q := ⟨_, rfl⟩
 have HT := Lib.hid (show textK c = (ki == 1) by unfold textK; rw [hki])
 have hf : ∀ W : World, (Instr.field 43 (enV (lookE c)) 0).run Tryz.prog W = .ok (.int .i64 ki) W := fun W => by
  rw [← hki]
  exact (by kernel_rfl : (Instr.field 43 (enV (lookE c)) 0).run Tryz.prog W = .ok (.int .i64 (lookE c).kind) W)
 obtain ⟨E, hE⟩ : ∃ E, enV (lookE c) = E := ⟨_, rfl⟩
 rw [hE] at hl hf
 rw [HT.out]
 clear hE hki HT
 obtain ⟨v, hv⟩ : ∃ v, (ki == 1) = v := ⟨_, rfl⟩
 rw [hv]
 go_enter Tryz.func29, Tryz.ntmps29
 go_wp2_with fail
 refine hl.mono ?_
 clear hl
 rintro e w1 ⟨rfl, hb1⟩
 go_wp2_with fail
 go_ret
 exact ⟨rfl, hb1⟩
theorem clean_step {ks : List Int} {i : Nat} (h : i < ks.length) : cleanP (ks.take (i + 1)) = (cleanP (ks.take i) && !(decide (ks[i] < 32) || decide (127 ≤ ks[i]) && decide (ks[i] ≤ 159))) := by
 unfold cleanP
 rw [List.take_succ_eq_append_getElem h, List.all_append]
 simp
theorem clean_hit {ks : List Int} {i : Nat} (h : i < ks.length) (hb : (decide (ks[i] < 32) || decide (127 ≤ ks[i]) && decide (ks[i] ≤ 159)) = true) : cleanP ks = false := by
 unfold cleanP
 rw [List.all_eq_false]
 exact ⟨ks[i], List.getElem_mem h, by rw [hb]; decide⟩
set_option maxRecDepth 100000 in
set_option maxHeartbeats 8000000 in
theorem rclean_any (s : ByteArray) (hs : s.size ≤ 4294967296) (w : World) : Calls Tryz.prog 30 #[.string s] w fun e w' => e = .returned (.bool (cleanB s)) ∧ Below w.heap.size w w' := by
 have hms : s.size ≤ maxLen := by simp only [maxLen]; omega
 have hlen : s.data.toList.length = s.size := Array.length_toList
 obtain ⟨R, hR⟩ : ∃ R, cleanB s = R := ⟨_, rfl⟩
 obtain ⟨o, ho⟩ : ∃ o, allL s.data.toList = o := ⟨_, rfl⟩
 have HC := Lib.hid (show cleanO o = R by rw [← hR, ← ho]; rfl)
 obtain ⟨l, hl⟩ : ∃ l, s.data.toList = l := ⟨_, rfl⟩
 rw [hl] at hlen ho
 have HL := Lib.hid hl
 have HO := Lib.hid ho
 have HLN := Lib.hid hlen
 rw [hR]
 have HSZ := Lib.hid hs
 clear hR hl ho hlen hs
 go_enter Tryz.func30, Tryz.ntmps30
 go_wp2_with (first
  | ((with_reducible refine list_conv _ rfl (.tmp 7) 9 27 rfl w.heap.size 5 s ?_ Tryz.underlying9 Tryz.underlying27 Tryz.underlying5 hms (Nat.le_refl _) ?_); rfl; intro v1 w1 own1 hg1; obtain ⟨A1, c1, rfl, hr1⟩ := own1.form; have hc1 := own1.capT; have hB1 := below_none hg1; clear hg1))
 rw [HL.out] at hr1
 have hall := rall_any A1 c1 l w1 (by rw [HLN.out]; exact HSZ.out) (by rw [HLN.out]; exact hc1) hr1
 rw [HLN.out, HO.out] at hall
 refine hall.mono ?_
 clear hall hr1 own1
 intro e w2 hA
 cases o with
 | none =>
   obtain ⟨rfl, hb2⟩ := hA
   have hB2 := hB1.trans (hb2.mono hB1.size)
   have HCF := Lib.hid (show false = R from HC.out)
   go_wp2_with fail
   go_ret
   exact ⟨ret_b HCF.out, hB2⟩
 | some ks =>
   have HCT := Lib.hid (show (decide (ks.length ≤ 8) && cleanP ks) = R from HC.out)
   clear HC
   obtain ⟨A2, c2, rfl, hr2, hb2⟩ := hA
   have hB2 := hB1.trans (hb2.mono hB1.size)
   clear hB1 hb2
   by_cases h8 : 8 < ks.length
   ·have t1 : decide (8 < (ks.length : Int)) = true := decide_eq_true (by omega)
    have HE := Lib.hid (show decide (ks.length ≤ 8) = false from decide_eq_false (by omega))
    go_wp2_with fail
    go_ret
    exact ⟨ret_b (by rw [← HCT.out, HE.out]; rfl), hB2⟩
   ·have t1 : decide (8 < (ks.length : Int)) = false := decide_eq_false (by omega)
    have HE := Lib.hid (show decide (ks.length ≤ 8) = true from decide_eq_true (by omega))
    have hk8 : (ks.length : Int) ≤ 8 := by omega
    obtain ⟨n, hn⟩ : ∃ n, ks.length = n := ⟨_, rfl⟩
    have HN := Lib.hid hn
    rw [hn] at t1 hk8 ⊢
    rw [hn] at HE HCT
    clear hn h8
    go_wp2_with fail
    go_loopw [5] (fun z wr => ∃ i : Nat, i ≤ n ∧ z = .int .i64 i ∧ cleanP (ks.take i) = true ∧ Below w.heap.size w wr ∧ Rd wr A2 (is_ ks)) (fun z _ => n - (intOf z).toNat)
    case atStart => exact ⟨0, Nat.zero_le _, rfl, rfl, hB2, hr2⟩
    case round =>
     clear hB2 hr2
     obtain ⟨i, hi, rfl, hcl, hbw, hr⟩ := hrel
     have HCL := Lib.hid hcl
     clear hcl
     by_cases hlt : i < n
     ·have hil : i < ks.length := by rw [HN.out]; exact hlt
      obtain ⟨b, o, rfl, hbl, hcc⟩ := hr.int_at (by omega)
      have hci := hcc i hil
      have HS := Lib.hid (clean_step hil)
      have HH := Lib.hid (@clean_hit ks i hil)
      obtain ⟨x, hx⟩ : ∃ x, ks[i]'hil = x := ⟨_, rfl⟩
      rw [hx] at hci HS HH
      have g0 : (0 : Int) ≤ (i : Int) := by omega
      have g1 : (i : Int) < (n : Int) := by omega
      clear hcc hx
      by_cases h1 : x < 32
      ·have HF := Lib.hid (HH.out (by simp [h1]))
       go_wp2_with fail
       go_ret
       exact ⟨ret_b (by rw [← HCT.out, HF.out, HE.out]; rfl), hbw⟩
      ·have h1' : 32 ≤ x := by omega
       by_cases h2 : 127 ≤ x
       ·by_cases h3 : x ≤ 159
        ·have HF := Lib.hid (HH.out (by simp [h2, h3]))
         go_wp2_with fail
         go_ret
         exact ⟨ret_b (by rw [← HCT.out, HF.out, HE.out]; rfl), hbw⟩
        ·have h3' : 159 < x := by omega
         have HG := Lib.hid (show cleanP (ks.take (i + 1)) = true by rw [HS.out, HCL.out]; simp; omega)
         clear h1 h3
         go_wp2_with fail
         go_roundw
         case rel => exact ⟨i + 1, by omega, by go_num, HG.out, hbw, hr⟩
         case measure => simp [intOf]; omega
       ·have h2' : x < 127 := by omega
        have HG := Lib.hid (show cleanP (ks.take (i + 1)) = true by rw [HS.out, HCL.out]; simp; omega)
        clear h1 h2
        go_wp2_with fail
        go_roundw
        case rel => exact ⟨i + 1, by omega, by go_num, HG.out, hbw, hr⟩
        case measure => simp [intOf]; omega
     ·have HF := Lib.hid (show cleanP ks = true by
       have := HCL.out
       rwa [List.take_of_length_le (by rw [HN.out]; omega)] at this)
      go_wp2_with fail
      go_ret
      exact ⟨ret_b (by rw [← HCT.out, HF.out, HE.out]; rfl), hbw⟩
set_option maxRecDepth 100000 in
set_option maxHeartbeats 16000000 in
theorem rmay10_any (k : Ky) (hs : k.text.size ≤ 4294967296) (w : World) : Calls Tryz.prog 11 #[kyV k] w fun e w' => e = .returned (.bool (mayK k)) ∧ Below w.heap.size w w' := by
 obtain ⟨code, mods, typ, shift, base, text⟩ := k
 simp only at hs
 have HLK : Hid (∀ W, Calls Tryz.prog 14 #[.int .i64 code] W fun e w' => e = .returned (enV (lookE code)) ∧ Below W.heap.size W w') := Lib.hid fun W => rlook_any code W
 obtain ⟨ki, hki⟩ : ∃ q, (lookE code).kind = q := ⟨_, rfl⟩
 have hf : ∀ W : World, (Instr.field 43 (enV (lookE code)) 0).run Tryz.prog W = .ok (.int .i64 ki) W := fun W => by
  rw [← hki]
  exact (by kernel_rfl : (Instr.field 43 (enV (lookE code)) 0).run Tryz.prog W = .ok (.int .i64 (lookE code).kind) W)
 obtain ⟨a0, h0⟩ : ∃ a, (ki == 0) = a := ⟨_, rfl⟩
 obtain ⟨a1, h1⟩ : ∃ a, decide (mods < 0) = a := ⟨_, rfl⟩
 obtain ⟨a2, h2⟩ : ∃ a, decide (255 < mods) = a := ⟨_, rfl⟩
 obtain ⟨a3, h3⟩ : ∃ a, decide (typ < 1) = a := ⟨_, rfl⟩
 obtain ⟨a4, h4⟩ : ∃ a, decide (3 < typ) = a := ⟨_, rfl⟩
 obtain ⟨s0, hs0⟩ : ∃ a, (shift == 0) = a := ⟨_, rfl⟩
 obtain ⟨b0, hb0⟩ : ∃ a, (base == 0) = a := ⟨_, rfl⟩
 obtain ⟨p, hp⟩ : ∃ a, textK shift = a := ⟨_, rfl⟩
 obtain ⟨q, hq⟩ : ∃ a, textK base = a := ⟨_, rfl⟩
 obtain ⟨r, hr⟩ : ∃ a, cleanB text = a := ⟨_, rfl⟩
 have HM := Lib.hid (show mayK ⟨code, mods, typ, shift, base, text⟩ = (!(a0 || a1 || a2 || a3 || a4) && ((s0 || p) && (b0 || q) && r)) by
  rw [← h0, ← hki, ← h1, ← h2, ← h3, ← h4, ← hs0, ← hb0, ← hp, ← hq, ← hr]
  rfl)
 have HP : Hid (∀ W, Calls Tryz.prog 29 #[.int .i64 shift] W fun e w' => e = .returned (.bool p) ∧ Below W.heap.size W w') := Lib.hid fun W => by
  have := rtxt10_any shift W
  rwa [hp] at this
 have HQ : Hid (∀ W, Calls Tryz.prog 29 #[.int .i64 base] W fun e w' => e = .returned (.bool q) ∧ Below W.heap.size W w') := Lib.hid fun W => by
  have := rtxt10_any base W
  rwa [hq] at this
 have HR : Hid (∀ W, Calls Tryz.prog 30 #[.string text] W fun e w' => e = .returned (.bool r) ∧ Below W.heap.size W w') := Lib.hid fun W => by
  have := rclean_any text hs W
  rwa [hr] at this
 obtain ⟨E, hE⟩ : ∃ E, enV (lookE code) = E := ⟨_, rfl⟩
 rw [hE] at HLK hf
 rw [HM.out]
 clear hE hki hp hq hr hs HM
 have hB := ky_box w ⟨code, mods, typ, shift, base, text⟩
 have k0 := Blk.new w 23 (kyC ⟨code, mods, typ, shift, base, text⟩)
 rw [kyV]
 rw [kyC] at hB k0
 simp only at hB k0 ⊢
 have c0 := k0.cell 0
 go_enter Tryz.func11, Tryz.ntmps11
 go_wp2_with fail
 refine (HLK.out _).mono ?_
 rintro e w1 ⟨rfl, hb1⟩
 have k1 := k0.below hb1 k0.lt
 have hB1 := hB.trans (hb1.mono hB.size)
 clear HLK k0 hB hb1 c0
 have c1 := k1.cell 1
 have c2 := k1.cell 2
 have c3 := k1.cell 3
 have c4 := k1.cell 4
 have c5 := k1.cell 5
 cases a0 with
 | true =>
   go_wp2_with fail
   go_ret
   exact ⟨ret_b (by simp), hB1⟩
 | false =>
   cases a1 with
   | true =>
     go_wp2_with fail
     go_ret
     exact ⟨ret_b (by simp), hB1⟩
   | false =>
     cases a2 with
     | true =>
       go_wp2_with fail
       go_ret
       exact ⟨ret_b (by simp), hB1⟩
     | false =>
       cases a3 with
       | true =>
         go_wp2_with fail
         go_ret
         exact ⟨ret_b (by simp), hB1⟩
       | false =>
         cases a4 with
         | true =>
           go_wp2_with fail
           go_ret
           exact ⟨ret_b (by simp), hB1⟩
         | false =>
           cases s0 with
           | true =>
             cases b0 with
             | true =>
               go_wp2_with fail
               refine (HR.out _).mono ?_
               rintro e w2 ⟨rfl, hb2⟩
               have k2 := k1.below hb2 k1.lt
               have hB2 := hB1.trans (hb2.mono hB1.size)
               clear k1 hB1 hb2 c3 c4 c5
               have c3 := k2.cell 3
               have c4 := k2.cell 4
               have c5 := k2.cell 5
               go_wp2_with fail
               go_ret
               exact ⟨ret_b (by simp), hB2⟩
             | false =>
               go_wp2_with fail
               refine (HQ.out _).mono ?_
               rintro e w2 ⟨rfl, hb2⟩
               have k2 := k1.below hb2 k1.lt
               have hB2 := hB1.trans (hb2.mono hB1.size)
               clear k1 hB1 hb2 c3 c4 c5
               have c3 := k2.cell 3
               have c4 := k2.cell 4
               have c5 := k2.cell 5
               cases q with
               | false =>
                 go_wp2_with fail
                 go_ret
                 exact ⟨ret_b (by simp), hB2⟩
               | true =>
                 go_wp2_with fail
                 refine (HR.out _).mono ?_
                 rintro e w3 ⟨rfl, hb3⟩
                 have k3 := k2.below hb3 k2.lt
                 have hB3 := hB2.trans (hb3.mono hB2.size)
                 clear k2 hB2 hb3 c3 c4 c5
                 have c3 := k3.cell 3
                 have c4 := k3.cell 4
                 have c5 := k3.cell 5
                 go_wp2_with fail
                 go_ret
                 exact ⟨ret_b (by simp), hB3⟩
           | false =>
             go_wp2_with fail
             refine (HP.out _).mono ?_
             rintro e w2 ⟨rfl, hb2⟩
             have k2 := k1.below hb2 k1.lt
             have hB2 := hB1.trans (hb2.mono hB1.size)
             clear k1 hB1 hb2 c3 c4 c5
             have c3 := k2.cell 3
             have c4 := k2.cell 4
             have c5 := k2.cell 5
             cases p with
             | false =>
               go_wp2_with fail
               go_ret
               exact ⟨ret_b (by simp), hB2⟩
             | true =>
               cases b0 with
               | true =>
                 go_wp2_with fail
                 refine (HR.out _).mono ?_
                 rintro e w3 ⟨rfl, hb3⟩
                 have k3 := k2.below hb3 k2.lt
                 have hB3 := hB2.trans (hb3.mono hB2.size)
                 clear k2 hB2 hb3 c3 c4 c5
                 have c3 := k3.cell 3
                 have c4 := k3.cell 4
                 have c5 := k3.cell 5
                 go_wp2_with fail
                 go_ret
                 exact ⟨ret_b (by simp), hB3⟩
               | false =>
                 go_wp2_with fail
                 refine (HQ.out _).mono ?_
                 rintro e w3 ⟨rfl, hb3⟩
                 have k3 := k2.below hb3 k2.lt
                 have hB3 := hB2.trans (hb3.mono hB2.size)
                 clear k2 hB2 hb3 c3 c4 c5
                 have c3 := k3.cell 3
                 have c4 := k3.cell 4
                 have c5 := k3.cell 5
                 cases q with
                 | false =>
                   go_wp2_with fail
                   go_ret
                   exact ⟨ret_b (by simp), hB3⟩
                 | true =>
                   go_wp2_with fail
                   refine (HR.out _).mono ?_
                   rintro e w4 ⟨rfl, hb4⟩
                   have k4 := k3.below hb4 k3.lt
                   have hB4 := hB3.trans (hb4.mono hB3.size)
                   clear k3 hB3 hb4 c3 c4 c5
                   have c3 := k4.cell 3
                   have c4 := k4.cell 4
                   have c5 := k4.cell 5
                   go_wp2_with fail
                   go_ret
                   exact ⟨ret_b (by simp), hB4⟩
end Go.Proofs.YtdfojkbgdoiglaaGreatDoor
namespace Go.Proofs.YtdfojkbgdoiglaaGreatDoor
open Go.RowKit
set_option maxRecDepth 100000 in
set_option maxHeartbeats 4000000 in
theorem last_any (s : Sq) (A : Option Addr) (c : Nat) (q : Bool) (w : World) (hq : lastOk s = q) :
 Calls Tryz.prog 80 #[sqV s A c] w fun e w' => e = .returned (.bool q) ∧ Below w.heap.size w w' := by
 obtain ⟨q1, q5, q4, q0⟩ := last_q hq
 clear hq
 obtain ⟨k, pv, ps, it, f, d⟩ := s
 dsimp only at q1 q5 q4 q0
 have hf := f.toNat_lt
 obtain ⟨n, hn⟩ : ∃ n, f.toNat = n := ⟨_, rfl⟩
 rw [hn] at q1 q5 q4 hf
 unfold sqV
 dsimp only
 rw [hn]
 clear hn
 by_cases k1 : k = 1 ∨ k = 2 ∨ k = 3
 ·have E := Lib.hid (q1 k1)
  clear q1 q5 q4 q0
  rcases k1 with rfl | rfl | rfl
  all_goals
   go_enter Tryz.func80, Tryz.ntmps80
   go_wp2
   all_goals
    go_ret
    refine ⟨ret_b ?_, (Below.refl _ _).alloc (Nat.le_refl _) _⟩
    rw [E.out, Bool.eq_iff_iff]
    simp only [Bool.and_eq_true, decide_eq_true_eq, Bool.false_eq_true, false_iff]
    omega
 ·by_cases k5 : k = 5
  ·obtain ⟨e1, e2⟩ := q5 k5
   subst k5
   clear q1 q4 q0 k1 q5
   by_cases hr : n < 48 ∨ 126 < n
   ·have E := Lib.hid (e1 hr)
    clear e1 e2
    rcases hr with hr | hr
    all_goals
     go_enter Tryz.func80, Tryz.ntmps80
     go_wp2
     go_ret
     exact ⟨ret_b E.out.symm, (Below.refl _ _).alloc (Nat.le_refl _) _⟩
   ·have n0 : 48 ≤ n := by omega
    have n1 : n ≤ 126 := by omega
    obtain ⟨e3, e4⟩ := e2 n0 n1
    clear e1 e2 hr
    cases it with
    | cons x it =>
      have E := Lib.hid (e3 (by simp))
      clear e3 e4
      go_enter Tryz.func80, Tryz.ntmps80
      go_wp2
      go_ret
      exact ⟨ret_b E.out.symm, (Below.refl _ _).alloc (Nat.le_refl _) _⟩
    | nil =>
      have E := Lib.hid (e4 rfl)
      clear e3 e4
      go_enter Tryz.func80, Tryz.ntmps80
      go_wp2
      all_goals
       go_ret
       refine ⟨ret_b ?_, (Below.refl _ _).alloc (Nat.le_refl _) _⟩
       rw [E.out, Bool.eq_iff_iff]
       simp
       omega
  ·by_cases k4 : k = 4
   ·have E := Lib.hid (q4 k4)
    subst k4
    clear q1 q4 q0 k1 q5 k5
    go_enter Tryz.func80, Tryz.ntmps80
    go_wp2
    all_goals
     go_ret
     refine ⟨ret_b ?_, (Below.refl _ _).alloc (Nat.le_refl _) _⟩
     rw [E.out, Bool.eq_iff_iff]
     simp
   ·have E := Lib.hid (q0 (by omega))
    have t1 : (k == 1) = false := beq_false_of_ne (by omega)
    have t2 : (k == 2) = false := beq_false_of_ne (by omega)
    have t3 : (k == 3) = false := beq_false_of_ne (by omega)
    have t4 : (k == 4) = false := beq_false_of_ne k4
    have t5 : (k == 5) = false := beq_false_of_ne k5
    clear q1 q4 q0 k1 q5 k5 k4
    go_enter Tryz.func80, Tryz.ntmps80
    go_wp2
    go_ret
    exact ⟨ret_b E.out.symm, (Below.refl _ _).alloc (Nat.le_refl _) _⟩
end Go.Proofs.YtdfojkbgdoiglaaGreatDoor
namespace Go.Proofs.YtdfojkbgdoiglaaGreatDoor
open Go.RowKit
def ss_ (l : List (List UInt8)) : List Value := l.map fun t => .string ⟨t.toArray⟩
theorem join_cons2 (sep p q : List UInt8) (l : List (List UInt8)) : Lib.join (p :: q :: l) sep = p ++ sep ++ Lib.join (q :: l) sep := by
 simp [Lib.join, List.intercalate_cons_cons]
theorem join_part (p : List Int) : Lib.join (p.map textL) [58] = partL p := by
 match p with
 | [] => rfl
 | [n] => simp [Lib.join, partL]
 | n :: m :: p =>
   rw [List.map_cons, List.map_cons, join_cons2, ← List.map_cons, join_part (m :: p)]
   simp [partL]
theorem join_par (l : List (List Int)) : Lib.join (l.map partL) [59] = parL l := by
 match l with
 | [] => rfl
 | [n] => simp [Lib.join, parL]
 | n :: m :: p =>
   rw [List.map_cons, List.map_cons, join_cons2, ← List.map_cons, join_par (m :: p)]
   simp [parL]
set_option maxRecDepth 100000 in
set_option maxHeartbeats 4000000 in
theorem join_any (A : Option Addr) (n c : Nat) (l : List (List UInt8)) (sep T : List UInt8) (w : World) (hn : l.length = n) (hT : Lib.join l sep = T) (hl : n ≤ 4294967296) (hc : n ≤ c) (hlen : T.length ≤ 140737488355328) (hr : Rd w A (ss_ l)) :
 Calls Tryz.prog 93 #[.string ⟨sep.toArray⟩, .slice A n c] w fun e w' => e = .returned (.string ⟨T.toArray⟩) ∧ Below w.heap.size w w' := by
 have hm : (l.map fun t : List UInt8 => (⟨t.toArray⟩ : ByteArray)).map (·.data.toList) = l := by
  rw [List.map_map]
  calc l.map _ = l.map id := List.map_congr_left (fun x _ => by simp)
   _ = l := List.map_id l
 by_cases h0 : n = 0
 ·subst h0
  have e0 : l = [] := List.eq_nil_of_length_eq_zero hn
  subst e0
  obtain rfl : [] = T := hT
  go_enter Tryz.func93, Tryz.ntmps93
  go_wp2_with fail
  refine (Tryz.strings_Join_none A c _ _).mono ?_
  rintro e w1 ⟨rfl, rfl⟩
  go_wp2_with fail
  go_ret
  exact ⟨rfl, Below.refl _ _⟩
 ·obtain ⟨b, o, rfl, hb, hcc⟩ := hr (by simp [ss_]; omega)
  have HJ := Lib.hid (show Lib.join ((l.map fun t : List UInt8 => (⟨t.toArray⟩ : ByteArray)).map (·.data.toList)) (⟨sep.toArray⟩ : ByteArray).data.toList = T by rw [hm]; exact hT)
  have hcells : Hid (∀ (j : Nat) (x : ByteArray), (l.map fun t : List UInt8 => (⟨t.toArray⟩ : ByteArray))[j]? = some x → w.cell? ⟨b, o + j, none⟩ = some (.string x)) := Lib.hid fun j x hx => hcc j _ (by
   unfold ss_
   rw [List.getElem?_map] at hx ⊢
   cases hj : l[j]? with
   | none => rw [hj] at hx; cases hx
   | some t => rw [hj] at hx; simp at hx; subst hx; rfl)
  have HLn := Lib.hid (show (l.map fun t : List UInt8 => (⟨t.toArray⟩ : ByteArray)).length = n by rw [List.length_map]; exact hn)
  clear hm hcc hT hn
  have hJ := Tryz.strings_Join b o c (l.map fun t : List UInt8 => (⟨t.toArray⟩ : ByteArray)) ⟨sep.toArray⟩ w hcells.out hb (by rw [HLn.out]; omega) (by rw [HLn.out]; exact hc) (by rw [HJ.out]; exact hlen)
  rw [HJ.out, HLn.out] at hJ
  go_enter Tryz.func93, Tryz.ntmps93
  go_wp2_with fail
  refine hJ.mono ?_
  rintro e w1 ⟨rfl, hb1⟩
  go_wp2_with fail
  go_ret
  exact ⟨rfl, hb1⟩
end Go.Proofs.YtdfojkbgdoiglaaGreatDoor
