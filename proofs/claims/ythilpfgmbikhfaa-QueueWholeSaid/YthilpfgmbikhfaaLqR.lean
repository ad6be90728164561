/-
  Layer 4: the walk of QueueRoom.
-/
import Derived.Test.YthilpfgmbikhfaaQuW
import Derived.Test.YthilpfgmbikhfaaQuS
namespace Go.Proofs.Ythilpfgmbikhfaa
open Go.RowKit

theorem push_len {room : Nat} {l x l' : List UInt8} {b : Bool} (hb : hasRoom room l x = b) (hl : pushL room l x = l') : l'.length = l.length + (if b = true then x.length else 0) := by
  subst hl hb
  unfold pushL
  by_cases h : hasRoom room l x = true
  · rw [if_pos h, if_pos h, List.length_append]
  · rw [if_neg h, if_neg h, Nat.add_zero]
theorem push_drops {room : Nat} {l x : List UInt8} {d d' : Nat} {b : Bool} (hb : hasRoom room l x = b) (hd : pushD room l x d = d') : d' = d + (if b = true then 0 else 1) := by
  subst hd hb
  unfold pushD
  by_cases h : hasRoom room l x = true
  · rw [if_pos h, if_pos h, Nat.add_zero]
  · rw [if_neg h, if_neg h]

set_option maxRecDepth 100000 in
set_option maxHeartbeats 16000000 in
theorem queueRoom_walk (A : Option Addr) (ls : List St) (c : Nat) (hl : ls.length ≤ maxLen) (B : Option Addr) (l2 : List UInt8) (c2 : Nat) (_hk2 : l2.length ≤ c2) (w : World) (hq : RdSt w A ls) (hr2 : Rd w B (bs l2)) :
    Calls Try.prog 8 #[.slice A ls.length c, .slice B l2.length c2] w fun e w' => e = .returned (.bool true) ∧ Below w.heap.size w w' := by
  obtain ⟨n, hn⟩ : ∃ n, ls.length = n := ⟨_, rfl⟩
  obtain ⟨m2, hm2⟩ : ∃ m, l2.length = m := ⟨_, rfl⟩
  rw [hn] at hl
  rw [hn, hm2]
  have HN := Lib.hid hn
  have HM2 := Lib.hid hm2
  clear hn hm2 _hk2
  obtain ⟨fb, hfb⟩ : ∃ fb, fewB ls = fb := ⟨_, rfl⟩
  have HFB := Lib.hid hfb
  clear hfb
  have hqi := hq.in_
  cases fb with
  | false =>
    go_enter Try.func8, Try.ntmps8
    go_wp2_with fail
    refine (awake_any w).mono ?_
    rintro e w1 ⟨rfl, hb1⟩
    go_wp2_with fail
    refine (few_any ls A n c false w1 HN.out hl HFB.out (hqi.below hb1)).mono ?_
    rintro e w2 ⟨rfl, rfl⟩
    go_wp2_with fail
    go_ret
    exact ⟨rfl, hb1⟩
  | true =>
    obtain ⟨h30, h200⟩ := few_parts HFB.out
    rw [HN.out] at h30
    have H200 := Lib.hid h200
    clear h200
    by_cases h3 : m2 ≤ 300
    · go_enter Try.func8, Try.ntmps8
      go_wp2_with fail
      refine (awake_any w).mono ?_
      rintro e w1 ⟨rfl, hb1⟩
      go_wp2_with fail
      refine (few_any ls A n c true w1 HN.out hl HFB.out (hqi.below hb1)).mono ?_
      rintro e w1' ⟨rfl, rfl⟩
      go_wp2_with fail
      refine (new_yes 200 w1 (by omega) (by omega)).mono ?_
      rintro e w2 ⟨rfl, hw2⟩
      have q2 := QB.new w1 200 w.heap.size hb1.size (by omega)
      have hF2 := Lib.hid (hb1.alloc hb1.size (.cells #[.int .i64 ((200 : Nat) : Int), .slice none 0 0, .int .i64 0] 54))
      rw [hw2] at q2 hF2
      clear hw2
      obtain ⟨S2, hS2⟩ : ∃ S2, S2 = fun k => k = w1.heap.size := ⟨_, rfl⟩
      rw [← hS2] at q2
      clear hS2
      obtain ⟨g, hg⟩ : ∃ g, w1.heap.size = g := ⟨_, rfl⟩
      rw [hg] at q2
      rw [hg]
      clear hg hb1
      have HQI := Lib.hid hqi
      clear hqi hq
      go_wp2_with fail
      go_loopw [7, 8] (fun sm i wr => ∃ (k p d : Nat) (l : List UInt8) (S : Nat → Prop) (v : Value), k ≤ n ∧ d ≤ k ∧ i = .int .i64 k ∧ sm = .int .i64 p ∧ Hid (l.length = p) ∧ QB wr S g 200 w.heap.size v l d ∧ Below w.heap.size w wr) (fun _ i _ => n - (intOf i).toNat)
      case atStart => exact ⟨0, 0, 0, [], S2, _, Nat.zero_le _, Nat.le_refl _, rfl, rfl, Lib.hid rfl, q2, hF2.out⟩
      case round =>
        obtain ⟨k, p, d, l, S, v, hk, hdk, rfl, rfl, hp, q, hbw⟩ := hrel
        clear q2 hF2
        have hp2 : p ≤ 200 := by rw [← hp.out]; exact q.fit
        by_cases hlt : k < n
        · have hkp : k < ls.length := by rw [HN.out]; exact hlt
          obtain ⟨⟨x, nn⟩, hxn⟩ : ∃ s, ls[k]'hkp = s := ⟨_, rfl⟩
          obtain ⟨b, o, A', c', hA, hb, hrx, hx, hnn, hck, hcn⟩ := (HQI.out.below hbw).at_ k hkp x nn hxn
          cases hA
          obtain ⟨m, hm⟩ : ∃ m, x.length = m := ⟨_, rfl⟩
          have hm200 : m ≤ 200 := by rw [← hm]; exact H200.out (x, nn) (by rw [← hxn]; exact List.getElem_mem hkp)
          rw [hm] at hck
          have HM := Lib.hid hm
          clear hm hx hxn
          obtain ⟨bb, hbb⟩ : ∃ bb, hasRoom 200 l x = bb := ⟨_, rfl⟩
          obtain ⟨l1, hl1⟩ : ∃ l1, pushL 200 l x = l1 := ⟨_, rfl⟩
          obtain ⟨d1, hd1⟩ : ∃ d1, pushD 200 l x d = d1 := ⟨_, rfl⟩
          have e1 := push_len hbb hl1
          have e2 := push_drops hbb hd1
          rw [hp.out, HM.out] at e1
          obtain ⟨p1, hp1⟩ : ∃ p1, l1.length = p1 := ⟨_, rfl⟩
          rw [hp1] at e1
          obtain ⟨K, hK⟩ : ∃ K, drainK nn l1 = K := ⟨_, rfl⟩
          have hKp : K ≤ p1 := by rw [← hK, ← hp1]; exact drainK_le _ _
          obtain ⟨p2, hpp⟩ : ∃ p2, p1 - K = p2 := ⟨_, rfl⟩
          have HPP := Lib.hid hpp
          have HP1 := Lib.hid hp1
          have HK := Lib.hid hK
          have HBB := Lib.hid hbb
          have HL1 := Lib.hid hl1
          have HD1 := Lib.hid hd1
          have hps : (p1 : Int) - (K : Int) = (p2 : Int) := by omega
          clear hpp hp1 hK hbb hl1 hd1
          cases bb with
          | true =>
            rw [if_pos rfl] at e1 e2
            have E1 := Lib.hid e1
            have E2 := Lib.hid e2
            clear e1 e2
            go_wp2_with fail
            refine (push_any q A' m c' x true l1 d1 HM.out (by omega) (by omega) (hrx.rd hbw.size) HBB.out HL1.out HD1.out).mono ?_
            rintro e w3 ⟨rfl, ⟨S3, v3, q3, _⟩, hf3⟩
            have hbx := hf3.below hbw.size q.lo
            have hbw3 := hbw.trans hbx
            have hck3 := (hbx.cell (p := ⟨b, o + k * 2, none⟩) hb).trans hck
            have hcn3 := (hbx.cell (p := ⟨b, o + k * 2 + 1, none⟩) hb).trans hcn
            have hp3 : p + m ≤ 200 := by have h1 := E1.out; have h2 := q3.fit; rw [HP1.out] at h2; omega
            have HQ3 := Lib.hid (show (p : Int) + (m : Int) - (K : Int) = (p2 : Int) by have := E1.out; omega)
            have hK3 : K ≤ p + m := by have := E1.out; omega
            clear hf3 q hck hcn hbx hps
            go_wp2_with fail
            refine (drain_any q3 nn K hnn.2 HK.out).mono ?_
            rintro e w4 ⟨⟨A4, c4, rfl, _⟩, ⟨v4, q4⟩, hf4⟩
            have hbw4 := Lib.hid (hbw3.trans (hf4.below hbw3.size q3.lo))
            clear hf4 q3 hck3 hcn3 hbw3
            go_wp2_with fail
            go_roundw
            case rel => exact ⟨k + 1, p2, d1, _, S3, v4, by omega, by have := E2.out; omega, by go_num, by rw [HQ3.out], Lib.hid (by rw [List.length_drop, HP1.out]; exact HPP.out), q4, hbw4.out⟩
            case measure => simp [intOf]; omega
          | false =>
            rw [if_neg (by decide)] at e1 e2
            have E1 := Lib.hid e1
            have E2 := Lib.hid e2
            clear e1 e2
            go_wp2_with fail
            refine (push_any q A' m c' x false l1 d1 HM.out (by omega) (by omega) (hrx.rd hbw.size) HBB.out HL1.out HD1.out).mono ?_
            rintro e w3 ⟨rfl, ⟨S3, v3, q3, _⟩, hf3⟩
            have hbx := hf3.below hbw.size q.lo
            have hbw3 := hbw.trans hbx
            have hcn3 := (hbx.cell (p := ⟨b, o + k * 2 + 1, none⟩) hb).trans hcn
            have HQ3 := Lib.hid (show (p : Int) - (K : Int) = (p2 : Int) by have := E1.out; omega)
            have hK3 : K ≤ p := by have := E1.out; omega
            clear hf3 q hck hcn hbx hps
            go_wp2_with fail
            refine (drain_any q3 nn K hnn.2 HK.out).mono ?_
            rintro e w4 ⟨⟨A4, c4, rfl, _⟩, ⟨v4, q4⟩, hf4⟩
            have hbw4 := Lib.hid (hbw3.trans (hf4.below hbw3.size q3.lo))
            clear hf4 q3 hcn3 hbw3
            go_wp2_with fail
            go_roundw
            case rel => exact ⟨k + 1, p2, d1, _, S3, v4, by omega, by have := E2.out; omega, by go_num, by rw [HQ3.out], Lib.hid (by rw [List.length_drop, HP1.out]; exact HPP.out), q4, hbw4.out⟩
            case measure => simp [intOf]; omega
        · have hkn : k = n := by omega
          subst hkn
          obtain ⟨w3, rfl⟩ : ∃ w3 : World, w3 = wr := ⟨_, rfl⟩
          obtain ⟨bb, hbb⟩ : ∃ bb, hasRoom 200 l l2 = bb := ⟨_, rfl⟩
          obtain ⟨l1, hl1⟩ : ∃ l1, pushL 200 l l2 = l1 := ⟨_, rfl⟩
          obtain ⟨d1, hd1⟩ : ∃ d1, pushD 200 l l2 d = d1 := ⟨_, rfl⟩
          have e2 := push_drops hbb hd1
          have hbd : decide ((m2 : Int) ≤ 200 - (p : Int)) = bb := by
            rw [← hbb]
            unfold hasRoom
            rw [hp.out, HM2.out, Bool.eq_iff_iff]
            simp only [decide_eq_true_eq]
            omega
          have HBB := Lib.hid hbb
          have HL1 := Lib.hid hl1
          have HD1 := Lib.hid hd1
          have hr3 := hr2.below hbw
          clear hbb hl1 hd1
          cases bb with
          | true =>
            rw [if_pos rfl, Nat.add_zero] at e2
            subst e2
            have hdd : ((d1 : Int) == (d1 : Int) + 1) = false := beq_false_of_ne (by omega)
            go_wp2_with (first
              | (refine (len_at q p hp.out).mono ?_; rintro e w' ⟨rfl, rfl⟩)
              | (refine (dropped_any q).mono ?_; rintro e w' ⟨rfl, rfl⟩)
              | (refine (push_any q B m2 c2 l2 true l1 d1 HM2.out (by omega) (by omega) hr3 HBB.out HL1.out HD1.out).mono ?_
                 rintro e w4 ⟨rfl, ⟨S4, v4, q4, _⟩, hf4⟩
                 have hbw4 := hbw.trans (hf4.below hbw.size q.lo))
              | (refine (dropped_any q4).mono ?_; rintro e w' ⟨rfl, rfl⟩))
            go_ret
            exact ⟨rfl, hbw4⟩
          | false =>
            rw [if_neg (by decide)] at e2
            subst e2
            go_wp2_with (first
              | (refine (len_at q p hp.out).mono ?_; rintro e w' ⟨rfl, rfl⟩)
              | (refine (dropped_any q).mono ?_; rintro e w' ⟨rfl, rfl⟩)
              | (refine (push_any q B m2 c2 l2 false l1 (d + 1) HM2.out (by omega) (by omega) hr3 HBB.out HL1.out HD1.out).mono ?_
                 rintro e w4 ⟨rfl, ⟨S4, v4, q4, _⟩, hf4⟩
                 have hbw4 := hbw.trans (hf4.below hbw.size q.lo))
              | (refine (dropped_any q4).mono ?_; rintro e w' ⟨rfl, rfl⟩))
            go_ret
            exact ⟨rfl, hbw4⟩
    · have t3 : decide (300 < (m2 : Int)) = true := by simp; omega
      go_enter Try.func8, Try.ntmps8
      go_wp2_with fail
      refine (awake_any w).mono ?_
      rintro e w1 ⟨rfl, hb1⟩
      go_wp2_with fail
      refine (few_any ls A n c true w1 HN.out hl HFB.out (hqi.below hb1)).mono ?_
      rintro e w1' ⟨rfl, rfl⟩
      go_wp2_with fail
      go_ret
      exact ⟨rfl, hb1⟩
end Go.Proofs.Ythilpfgmbikhfaa
