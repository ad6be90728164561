/-
  Layer 9: the document's own answers: the pad, and Look. Layer 10, the landed mods: whether a text may be that of a key's event.
-/
import Derived.Test.YtdfojkbgdoiglaaDoorG03
import Derived.Test.YtdfojkbgdoiglaaDoorG10
import Derived.Test.YtdfojkbgdoiglaaDoorG19
import Derived.Test.YtdfojkbgdoiglaaDoorG22
namespace Go.Proofs.YtdfojkbgdoiglaaDoor
open Go.RowKit
set_option maxRecDepth 100000 in
set_option maxHeartbeats 16000000 in
theorem rpad_0 (w : World) : Calls Tryd.prog 29 #[.int .i64 57399] w fun e w' => e = .returned (enV (padE 57399)) ∧ Below w.heap.size w w' := by
 go_enter Tryd.func29, Tryd.ntmps29
 go_wp2_with fail
 refine bodyPost_ret (v := enV (padE 57399)) (by simp [results, Tryd.results29, go_sem, enV, padE] <;> (constructor <;> decide +kernel)) rfl ⟨rfl, below_two _ _⟩
set_option maxRecDepth 100000 in
set_option maxHeartbeats 16000000 in
theorem rpad_1 (w : World) : Calls Tryd.prog 29 #[.int .i64 57400] w fun e w' => e = .returned (enV (padE 57400)) ∧ Below w.heap.size w w' := by
 go_enter Tryd.func29, Tryd.ntmps29
 go_wp2_with fail
 refine bodyPost_ret (v := enV (padE 57400)) (by simp [results, Tryd.results29, go_sem, enV, padE] <;> (constructor <;> decide +kernel)) rfl ⟨rfl, below_two _ _⟩
set_option maxRecDepth 100000 in
set_option maxHeartbeats 16000000 in
theorem rpad_2 (w : World) : Calls Tryd.prog 29 #[.int .i64 57401] w fun e w' => e = .returned (enV (padE 57401)) ∧ Below w.heap.size w w' := by
 go_enter Tryd.func29, Tryd.ntmps29
 go_wp2_with fail
 refine bodyPost_ret (v := enV (padE 57401)) (by simp [results, Tryd.results29, go_sem, enV, padE] <;> (constructor <;> decide +kernel)) rfl ⟨rfl, below_two _ _⟩
set_option maxRecDepth 100000 in
set_option maxHeartbeats 16000000 in
theorem rpad_3 (w : World) : Calls Tryd.prog 29 #[.int .i64 57402] w fun e w' => e = .returned (enV (padE 57402)) ∧ Below w.heap.size w w' := by
 go_enter Tryd.func29, Tryd.ntmps29
 go_wp2_with fail
 refine bodyPost_ret (v := enV (padE 57402)) (by simp [results, Tryd.results29, go_sem, enV, padE] <;> (constructor <;> decide +kernel)) rfl ⟨rfl, below_two _ _⟩
set_option maxRecDepth 100000 in
set_option maxHeartbeats 16000000 in
theorem rpad_4 (w : World) : Calls Tryd.prog 29 #[.int .i64 57403] w fun e w' => e = .returned (enV (padE 57403)) ∧ Below w.heap.size w w' := by
 go_enter Tryd.func29, Tryd.ntmps29
 go_wp2_with fail
 refine bodyPost_ret (v := enV (padE 57403)) (by simp [results, Tryd.results29, go_sem, enV, padE] <;> (constructor <;> decide +kernel)) rfl ⟨rfl, below_two _ _⟩
set_option maxRecDepth 100000 in
set_option maxHeartbeats 16000000 in
theorem rpad_5 (w : World) : Calls Tryd.prog 29 #[.int .i64 57404] w fun e w' => e = .returned (enV (padE 57404)) ∧ Below w.heap.size w w' := by
 go_enter Tryd.func29, Tryd.ntmps29
 go_wp2_with fail
 refine bodyPost_ret (v := enV (padE 57404)) (by simp [results, Tryd.results29, go_sem, enV, padE] <;> (constructor <;> decide +kernel)) rfl ⟨rfl, below_two _ _⟩
set_option maxRecDepth 100000 in
set_option maxHeartbeats 16000000 in
theorem rpad_6 (w : World) : Calls Tryd.prog 29 #[.int .i64 57405] w fun e w' => e = .returned (enV (padE 57405)) ∧ Below w.heap.size w w' := by
 go_enter Tryd.func29, Tryd.ntmps29
 go_wp2_with fail
 refine bodyPost_ret (v := enV (padE 57405)) (by simp [results, Tryd.results29, go_sem, enV, padE] <;> (constructor <;> decide +kernel)) rfl ⟨rfl, below_two _ _⟩
set_option maxRecDepth 100000 in
set_option maxHeartbeats 16000000 in
theorem rpad_7 (w : World) : Calls Tryd.prog 29 #[.int .i64 57406] w fun e w' => e = .returned (enV (padE 57406)) ∧ Below w.heap.size w w' := by
 go_enter Tryd.func29, Tryd.ntmps29
 go_wp2_with fail
 refine bodyPost_ret (v := enV (padE 57406)) (by simp [results, Tryd.results29, go_sem, enV, padE] <;> (constructor <;> decide +kernel)) rfl ⟨rfl, below_two _ _⟩
set_option maxRecDepth 100000 in
set_option maxHeartbeats 16000000 in
theorem rpad_8 (w : World) : Calls Tryd.prog 29 #[.int .i64 57407] w fun e w' => e = .returned (enV (padE 57407)) ∧ Below w.heap.size w w' := by
 go_enter Tryd.func29, Tryd.ntmps29
 go_wp2_with fail
 refine bodyPost_ret (v := enV (padE 57407)) (by simp [results, Tryd.results29, go_sem, enV, padE] <;> (constructor <;> decide +kernel)) rfl ⟨rfl, below_two _ _⟩
set_option maxRecDepth 100000 in
set_option maxHeartbeats 16000000 in
theorem rpad_9 (w : World) : Calls Tryd.prog 29 #[.int .i64 57408] w fun e w' => e = .returned (enV (padE 57408)) ∧ Below w.heap.size w w' := by
 go_enter Tryd.func29, Tryd.ntmps29
 go_wp2_with fail
 refine bodyPost_ret (v := enV (padE 57408)) (by simp [results, Tryd.results29, go_sem, enV, padE] <;> (constructor <;> decide +kernel)) rfl ⟨rfl, below_two _ _⟩
set_option maxRecDepth 100000 in
set_option maxHeartbeats 16000000 in
theorem rpad_10 (w : World) : Calls Tryd.prog 29 #[.int .i64 57409] w fun e w' => e = .returned (enV (padE 57409)) ∧ Below w.heap.size w w' := by
 go_enter Tryd.func29, Tryd.ntmps29
 go_wp2_with fail
 refine bodyPost_ret (v := enV (padE 57409)) (by simp [results, Tryd.results29, go_sem, enV, padE] <;> (constructor <;> decide +kernel)) rfl ⟨rfl, below_two _ _⟩
set_option maxRecDepth 100000 in
set_option maxHeartbeats 16000000 in
theorem rpad_11 (w : World) : Calls Tryd.prog 29 #[.int .i64 57410] w fun e w' => e = .returned (enV (padE 57410)) ∧ Below w.heap.size w w' := by
 go_enter Tryd.func29, Tryd.ntmps29
 go_wp2_with fail
 refine bodyPost_ret (v := enV (padE 57410)) (by simp [results, Tryd.results29, go_sem, enV, padE] <;> (constructor <;> decide +kernel)) rfl ⟨rfl, below_two _ _⟩
set_option maxRecDepth 100000 in
set_option maxHeartbeats 16000000 in
theorem rpad_12 (w : World) : Calls Tryd.prog 29 #[.int .i64 57411] w fun e w' => e = .returned (enV (padE 57411)) ∧ Below w.heap.size w w' := by
 go_enter Tryd.func29, Tryd.ntmps29
 go_wp2_with fail
 refine bodyPost_ret (v := enV (padE 57411)) (by simp [results, Tryd.results29, go_sem, enV, padE] <;> (constructor <;> decide +kernel)) rfl ⟨rfl, below_two _ _⟩
set_option maxRecDepth 100000 in
set_option maxHeartbeats 16000000 in
theorem rpad_13 (w : World) : Calls Tryd.prog 29 #[.int .i64 57412] w fun e w' => e = .returned (enV (padE 57412)) ∧ Below w.heap.size w w' := by
 go_enter Tryd.func29, Tryd.ntmps29
 go_wp2_with fail
 refine bodyPost_ret (v := enV (padE 57412)) (by simp [results, Tryd.results29, go_sem, enV, padE] <;> (constructor <;> decide +kernel)) rfl ⟨rfl, below_two _ _⟩
set_option maxRecDepth 100000 in
set_option maxHeartbeats 16000000 in
theorem rpad_14 (w : World) : Calls Tryd.prog 29 #[.int .i64 57413] w fun e w' => e = .returned (enV (padE 57413)) ∧ Below w.heap.size w w' := by
 go_enter Tryd.func29, Tryd.ntmps29
 go_wp2_with fail
 refine bodyPost_ret (v := enV (padE 57413)) (by simp [results, Tryd.results29, go_sem, enV, padE] <;> (constructor <;> decide +kernel)) rfl ⟨rfl, below_two _ _⟩
set_option maxRecDepth 100000 in
set_option maxHeartbeats 16000000 in
theorem rpad_15 (w : World) : Calls Tryd.prog 29 #[.int .i64 57414] w fun e w' => e = .returned (enV (padE 57414)) ∧ Below w.heap.size w w' := by
 go_enter Tryd.func29, Tryd.ntmps29
 go_wp2_with fail
 refine bodyPost_ret (v := enV (padE 57414)) (by simp [results, Tryd.results29, go_sem, enV, padE] <;> (constructor <;> decide +kernel)) rfl ⟨rfl, below_two _ _⟩
set_option maxRecDepth 100000 in
set_option maxHeartbeats 16000000 in
theorem rpad_16 (w : World) : Calls Tryd.prog 29 #[.int .i64 57415] w fun e w' => e = .returned (enV (padE 57415)) ∧ Below w.heap.size w w' := by
 go_enter Tryd.func29, Tryd.ntmps29
 go_wp2_with fail
 refine bodyPost_ret (v := enV (padE 57415)) (by simp [results, Tryd.results29, go_sem, enV, padE] <;> (constructor <;> decide +kernel)) rfl ⟨rfl, below_two _ _⟩
set_option maxRecDepth 100000 in
set_option maxHeartbeats 16000000 in
theorem rpad_17 (w : World) : Calls Tryd.prog 29 #[.int .i64 57416] w fun e w' => e = .returned (enV (padE 57416)) ∧ Below w.heap.size w w' := by
 go_enter Tryd.func29, Tryd.ntmps29
 go_wp2_with fail
 refine bodyPost_ret (v := enV (padE 57416)) (by simp [results, Tryd.results29, go_sem, enV, padE] <;> (constructor <;> decide +kernel)) rfl ⟨rfl, below_two _ _⟩
theorem rpad_any (c : Int) (h1 : 57399 ≤ c) (h2 : c ≤ 57416) (w : World) : Calls Tryd.prog 29 #[.int .i64 c] w fun e w' => e = .returned (enV (padE c)) ∧ Below w.heap.size w w' := by
 have hc : c = 57399 ∨ c = 57400 ∨ c = 57401 ∨ c = 57402 ∨ c = 57403 ∨ c = 57404 ∨ c = 57405 ∨ c = 57406 ∨ c = 57407 ∨ c = 57408 ∨ c = 57409 ∨ c = 57410 ∨ c = 57411 ∨ c = 57412 ∨ c = 57413 ∨ c = 57414 ∨ c = 57415 ∨ c = 57416 := by omega
 rcases hc with rfl | rfl | rfl | rfl | rfl | rfl | rfl | rfl | rfl | rfl | rfl | rfl | rfl | rfl | rfl | rfl | rfl | rfl
 ·exact rpad_0 w
 ·exact rpad_1 w
 ·exact rpad_2 w
 ·exact rpad_3 w
 ·exact rpad_4 w
 ·exact rpad_5 w
 ·exact rpad_6 w
 ·exact rpad_7 w
 ·exact rpad_8 w
 ·exact rpad_9 w
 ·exact rpad_10 w
 ·exact rpad_11 w
 ·exact rpad_12 w
 ·exact rpad_13 w
 ·exact rpad_14 w
 ·exact rpad_15 w
 ·exact rpad_16 w
 ·exact rpad_17 w
end Go.Proofs.YtdfojkbgdoiglaaDoor
namespace Go.Proofs.YtdfojkbgdoiglaaDoor
open Go.RowKit
def ctl (r : Int) : Bool := decide (r < 32) || decide (127 ≤ r) && decide (r ≤ 159)
theorem clean_any (ks : List Int) : cleanP ks = !(ks.any ctl) := by
 unfold cleanP
 rw [List.not_any_eq_all_not]
 rfl
theorem clean_long {l : List UInt8} (h : 32 < l.length) : cleanL l = false := by
 unfold cleanL
 cases ho : allL l with
 | none => rfl
 | some ks =>
   obtain ⟨_, h2⟩ := text_all_n l.length l (Nat.le_refl _) ks ho
   have h3 := catL_length ks
   rw [h2] at h3
   show (decide (ks.length ≤ 8) && cleanP ks) = false
   rw [decide_eq_false (by omega), Bool.false_and]
set_option maxRecDepth 100000 in
set_option maxHeartbeats 4000000 in
theorem ctl_any (r : Int) (w : World) : Calls Tryd.prog 47 #[.int .i64 r] w fun e w' => e = .returned (.bool (ctl r)) ∧ Below w.heap.size w w' := by
 obtain ⟨R, hR⟩ : ∃ R, ctl r = R := ⟨_, rfl⟩
 rw [hR]
 have HC := Lib.hid hR
 clear hR
 by_cases h1 : r < 32
 ·have HF := Lib.hid (show true = R by rw [← HC.out]; simp [ctl, h1])
  go_enter Tryd.func47, Tryd.ntmps47
  go_wp2_with fail
  go_ret
  exact ⟨ret_b HF.out, Below.refl _ _⟩
 ·by_cases h2 : 127 ≤ r
  ·by_cases h3 : r ≤ 159
   ·have HF := Lib.hid (show true = R by rw [← HC.out]; simp [ctl, h1, h2, h3])
    go_enter Tryd.func47, Tryd.ntmps47
    go_wp2_with fail
    go_ret
    exact ⟨ret_b HF.out, Below.refl _ _⟩
   ·have HF := Lib.hid (show false = R by rw [← HC.out]; simp [ctl, h1, h3])
    go_enter Tryd.func47, Tryd.ntmps47
    go_wp2_with fail
    go_ret
    exact ⟨ret_b HF.out, Below.refl _ _⟩
  ·have HF := Lib.hid (show false = R by rw [← HC.out]; simp [ctl, h1, h2])
   go_enter Tryd.func47, Tryd.ntmps47
   go_wp2_with fail
   go_ret
   exact ⟨ret_b HF.out, Below.refl _ _⟩
set_option maxRecDepth 100000 in
set_option maxHeartbeats 4000000 in
theorem idxf_any (A : Option Addr) (c : Nat) (l : List Int) (w : World) (hl : l.length ≤ 4294967296) (hr : Rd w A (is_ l)) :
 Calls Tryd.prog 58 #[.slice A l.length c, .func (.func 47) #[] #[]] w fun e w' => (∃ i : Int, e = .returned (.int .i64 i) ∧ decide (0 ≤ i) = l.any ctl ∧ -1 ≤ i ∧ i ≤ 4294967296) ∧ Below w.heap.size w w' := by
 obtain ⟨n, hn⟩ : ∃ n, l.length = n := ⟨_, rfl⟩
 have HN := Lib.hid hn
 rw [hn] at hl ⊢
 clear hn
 go_enter Tryd.func58, Tryd.ntmps58
 go_wp2
 go_loopw [5, 8] (fun _ z wr => ∃ i : Nat, i ≤ n ∧ z = .int .i64 i ∧ (l.take i).any ctl = false ∧ Below w.heap.size w wr) (fun _ z _ => n - (intOf z).toNat)
 case atStart => exact ⟨0, Nat.zero_le _, rfl, rfl, Below.refl _ _⟩
 case round =>
  obtain ⟨i, hi, rfl, hcl, hbw⟩ := hrel
  have HCL := Lib.hid hcl
  clear hcl
  by_cases hlt : i < n
  ·have hil : i < l.length := by rw [HN.out]; exact hlt
   obtain ⟨b, o, rfl, hbl, hcc⟩ := (hr.below hbw).int_at (by omega)
   have hci := hcc i hil
   have HS := Lib.hid (List.take_succ_eq_append_getElem hil)
   have HM := Lib.hid (List.getElem_mem hil)
   obtain ⟨x, hx⟩ : ∃ x, l[i]'hil = x := ⟨_, rfl⟩
   rw [hx] at hci HS HM
   have g0 : (0 : Int) ≤ (i : Int) := by omega
   have g1 : (i : Int) < (n : Int) := by omega
   clear hcc hx
   obtain ⟨q, hq⟩ : ∃ q, ctl x = q := ⟨_, rfl⟩
   have hcall : ∀ W : World, Calls Tryd.prog 47 #[.int .i64 x] W fun e w' => e = .returned (.bool q) ∧ Below W.heap.size W w' := fun W => by rw [← hq]; exact ctl_any x W
   have HQ := Lib.hid hq
   clear hq
   go_wp2_with fail
   refine (hcall _).mono ?_
   rintro e w2 ⟨rfl, hb2⟩
   have hB2 := hbw.trans (hb2.mono hbw.size)
   clear hcall hb2
   cases q with
   | true =>
     go_wp2_with fail
     go_ret
     refine ⟨⟨_, rfl, ?_, by omega, by omega⟩, hB2⟩
     rw [decide_eq_true g0]
     exact (List.any_eq_true.2 ⟨x, HM.out, HQ.out⟩).symm
   | false =>
     go_wp2_with fail
     go_roundw
     case rel => exact ⟨i + 1, by omega, by go_num, by rw [HS.out, List.any_append, HCL.out]; simp [HQ.out], hB2⟩
     case measure => simp [intOf]; omega
  ·have HE := Lib.hid (show l.any ctl = false by
    have h1 := HCL.out
    have h2 := HN.out
    rwa [List.take_of_length_le (by omega)] at h1)
   go_wp2_with fail
   go_ret
   exact ⟨⟨_, rfl, by rw [HE.out]; rfl, by decide, by decide⟩, hbw⟩
theorem has_any (A : Option Addr) (n c : Nat) (l : List Int) (hn : l.length = n) (q : Bool) (hq : l.any ctl = q) (w : World) (hl : n ≤ 4294967296) (hr : Rd w A (is_ l)) :
 Calls Tryd.prog 48 #[.slice A n c, .func (.func 47) #[] #[]] w fun e w' => e = .returned (.bool q) ∧ Below w.heap.size w w' := by
 have hcall := idxf_any A c l w (by omega) hr
 rw [hn, hq] at hcall
 clear hq hn
 go_enter Tryd.func48, Tryd.ntmps48
 go_wp2_with fail
 refine hcall.mono ?_
 clear hcall
 rintro e w1 ⟨⟨i, rfl, hd, h1, h2⟩, hb1⟩
 have HD := Lib.hid hd
 clear hd
 go_wp2_with fail
 go_ret
 exact ⟨ret_b HD.out, hb1⟩
set_option maxRecDepth 100000 in
set_option maxHeartbeats 8000000 in
theorem pkeytext_any (s : ByteArray) (hs : s.size ≤ 4294967296) (w : World) (hz : Siz w) : Calls Tryd.prog 35 #[.string s] w fun e w' => e = .returned (.bool (cleanB s)) ∧ Below w.heap.size w w' := by
 have hms : s.size ≤ maxLen := by simp only [maxLen]; omega
 have hlen : s.data.toList.length = s.size := Array.length_toList
 obtain ⟨R, hR⟩ : ∃ R, cleanB s = R := ⟨_, rfl⟩
 by_cases h32 : 32 < s.size
 ·have HF := Lib.hid (show false = R by rw [← hR]; exact (clean_long (by omega)).symm)
  rw [hR]
  have t1 : decide (32 < (s.size : Int)) = true := decide_eq_true (by omega)
  clear hR hlen
  go_enter Tryd.func35, Tryd.ntmps35
  go_wp2_with fail
  go_ret
  exact ⟨ret_b HF.out, Below.refl _ _⟩
 obtain ⟨o, ho⟩ : ∃ o, allL s.data.toList = o := ⟨_, rfl⟩
 have HC := Lib.hid (show cleanO o = R by rw [← hR, ← ho]; rfl)
 obtain ⟨l, hl⟩ : ∃ l, s.data.toList = l := ⟨_, rfl⟩
 rw [hl] at hlen ho
 have HL := Lib.hid hl
 have HO := Lib.hid ho
 have HLN := Lib.hid hlen
 rw [hR]
 have HSZ := Lib.hid hs
 have t1 : decide (32 < (s.size : Int)) = false := decide_eq_false (by omega)
 clear hR hl ho hlen hs h32
 go_enter Tryd.func35, Tryd.ntmps35
 go_wp2_with (first
  | ((with_reducible refine list_conv _ rfl (.tmp 10) 9 26 rfl w.heap.size 5 s ?_ Tryd.underlying9 Tryd.underlying26 Tryd.underlying5 hms (Nat.le_refl _) ?_); rfl; intro v1 w1 own1 hg1; obtain ⟨A1, c1, rfl, hr1⟩ := own1.form; have hc1 := own1.capT; have hB1 := below_none hg1; clear hg1))
 rw [HL.out] at hr1
 have hall := all_any A1 c1 l w1 (hz.below' hB1) (by rw [HLN.out]; exact HSZ.out) (by rw [HLN.out]; exact hc1) hr1
 rw [HLN.out, HO.out] at hall
 refine hall.mono ?_
 clear hall hr1 own1
 intro e w2 hA
 cases o with
 | none =>
   obtain ⟨rfl, hb2⟩ := hA
   have hB2 := hB1.trans (hb2.mono hB1.size)
   have HCF := Lib.hid (show false = R from HC.out)
   go_wp2_with fail
   go_ret
   exact ⟨ret_b HCF.out, hB2⟩
 | some ks =>
   have HCT := Lib.hid (show (decide (ks.length ≤ 8) && cleanP ks) = R from HC.out)
   clear HC
   obtain ⟨A2, c2, rfl, hr2, hb2⟩ := hA
   have hB2 := hB1.trans (hb2.mono hB1.size)
   clear hB1 hb2
   by_cases h8 : 8 < ks.length
   ·have t2 : decide ((ks.length : Int) ≤ 8) = false := decide_eq_false (by omega)
    have HE := Lib.hid (show decide (ks.length ≤ 8) = false from decide_eq_false (by omega))
    go_wp2_with fail
    go_ret
    exact ⟨ret_b (by rw [← HCT.out, HE.out]; rfl), hB2⟩
   ·have t2 : decide ((ks.length : Int) ≤ 8) = true := decide_eq_true (by omega)
    have HE := Lib.hid (show decide (ks.length ≤ 8) = true from decide_eq_true (by omega))
    obtain ⟨q, hq⟩ : ∃ q, ks.any ctl = q := ⟨_, rfl⟩
    have HQ := Lib.hid (show (!q) = R by rw [← HCT.out, HE.out, Bool.true_and, clean_any, hq])
    have hcall := has_any A2 ks.length c2 ks rfl q hq w2 (by omega) hr2
    obtain ⟨n, hn⟩ : ∃ n, ks.length = n := ⟨_, rfl⟩
    rw [hn] at t2 hcall ⊢
    clear hn h8 hq HE
    go_wp2_with fail
    refine hcall.mono ?_
    clear hcall
    rintro e w3 ⟨rfl, hb3⟩
    have hB3 := hB2.trans (hb3.mono hB2.size)
    cases q with
    | true =>
      have HF := Lib.hid (show false = R from HQ.out)
      go_wp2_with fail
      go_ret
      exact ⟨ret_b HF.out, hB3⟩
    | false =>
      have HF := Lib.hid (show true = R from HQ.out)
      go_wp2_with fail
      go_ret
      exact ⟨ret_b HF.out, hB3⟩
end Go.Proofs.YtdfojkbgdoiglaaDoor
