/-
  Layer 4: the walk of QueueSplits.
-/
import Derived.Test.YthilpfgmbikhfaaQuW
import Derived.Test.YthilpfgmbikhfaaQuS
import Derived.Deep.RegionHeld3
namespace Go.Proofs.Ythilpfgmbikhfaa
open Go.RowKit

theorem split_len {l : List UInt8} {X Y K1 K2 K3 : Nat} (h1 : drainK (X : Int) l = K1) (h2 : drainK (Y : Int) (l.drop K1) = K2) (h3 : drainK ((X : Int) + (Y : Int)) l = K3) : K1 + K2 = K3 ∧ K3 ≤ l.length := by
  unfold drainK at h1 h2 h3
  rw [List.length_drop] at h2
  omega
theorem split_take {l : List UInt8} {K1 K2 K3 : Nat} (h : K1 + K2 = K3) : l.take K1 ++ (l.drop K1).take K2 = l.take K3 := by
  rw [← h, List.take_add]
/-- Two queues that lie apart, with the same bytes. -/
structure Two (w : World) (g g2 base : Nat) (l : List UInt8) (d : Nat) : Prop where
  both : ∃ S T v u, QB w S g 300 base v l d ∧ QB w T g2 300 base u l d ∧ ∀ k, S k → ¬ T k

set_option maxRecDepth 100000 in
set_option maxHeartbeats 16000000 in
theorem queueSplits_walk (A : Option Addr) (ls : List St) (c : Nat) (hl : ls.length ≤ maxLen) (x y : Int) (_hx : -9223372036854775808 ≤ x ∧ x ≤ 9223372036854775807) (_hy : -9223372036854775808 ≤ y ∧ y ≤ 9223372036854775807) (w : World) (hq : RdSt w A ls) :
    Calls Try.prog 5 #[.slice A ls.length c, .agg #[.int .i64 x, .int .i64 y]] w fun e w' => e = .returned (.bool true) ∧ Below w.heap.size w w' := by
  obtain ⟨i0, hi, hz0, hz1, hz2⟩ := u8_parts
  obtain ⟨n, hn⟩ : ∃ n, ls.length = n := ⟨_, rfl⟩
  rw [hn] at hl
  rw [hn]
  have HN := Lib.hid hn
  clear hn _hx _hy
  obtain ⟨fb, hfb⟩ : ∃ fb, fewB ls = fb := ⟨_, rfl⟩
  have HFB := Lib.hid hfb
  clear hfb
  have hB0 : Below w.heap.size w (w.alloc (.cells #[.int .i64 x, .int .i64 y] 43)) := (Below.refl _ w).alloc (Nat.le_refl _) _
  have hqi := hq.in_.below hB0
  have hX0 := Blk.new w 43 #[.int .i64 x, .int .i64 y]
  by_cases hgood : fb = true ∧ 0 ≤ x ∧ 0 ≤ y ∧ x ≤ 1000 ∧ y ≤ 1000
  · obtain ⟨rfl, hx0, hy0, hx1, hy1⟩ := hgood
    obtain ⟨X, rfl⟩ := Int.eq_ofNat_of_zero_le hx0
    obtain ⟨Y, rfl⟩ := Int.eq_ofNat_of_zero_le hy0
    obtain ⟨h30, h200⟩ := few_parts HFB.out
    rw [HN.out] at h30
    have H200 := Lib.hid h200
    clear h200
    generalize hW0 : w.alloc (.cells #[.int .i64 (X : Int), .int .i64 (Y : Int)] 43) = w0 at *
    have e0 := hX0.cell 0
    have e1 := hX0.cell 1
    have hlt := hX0.lt
    go_enter Try.func5, Try.ntmps5
    go_wp2_with fail
    refine (awake_any w0).mono ?_
    rintro e w1 ⟨rfl, hb1⟩
    have HC := Lib.hid (show ∀ W, Below w0.heap.size w0 W → W.cell? ⟨w.heap.size, 0, none⟩ = some (.int .i64 (X : Int)) ∧ W.cell? ⟨w.heap.size, 1, none⟩ = some (.int .i64 (Y : Int)) from fun W hb => ⟨(hb.cell (p := ⟨w.heap.size, 0, none⟩) hlt).trans e0, (hb.cell (p := ⟨w.heap.size, 1, none⟩) hlt).trans e1⟩)
    have HB0 := Lib.hid hB0
    have HQI := Lib.hid (hq.in_.below hB0)
    have HSZ := Lib.hid (show w.heap.size < w0.heap.size from hlt)
    obtain ⟨f0, f1⟩ := HC.out w1 hb1
    have hqi1 := HQI.out.below (hb1.mono hB0.size)
    clear e0 e1 hX0 hB0 hqi hW0 hlt hq
    go_wp2_with fail
    refine (few_any ls A n c true w1 HN.out hl HFB.out hqi1).mono ?_
    rintro e w1' ⟨rfl, rfl⟩
    clear hqi1
    have hx2 : decide ((X : Int) < 0) = false := by simp
    have hy2 : decide ((Y : Int) < 0) = false := by simp
    have hx3 : decide (1000 < (X : Int)) = false := by simp; omega
    have hy3 : decide (1000 < (Y : Int)) = false := by simp; omega
    go_wp2_with fail
    refine (new_yes 300 w1 (by omega) (by omega)).mono ?_
    rintro e w2 ⟨rfl, hw2⟩
    have q2 := QB.new w1 300 w0.heap.size hb1.size (by omega)
    have hF2 := Lib.hid (hb1.alloc hb1.size (.cells #[.int .i64 ((300 : Nat) : Int), .slice none 0 0, .int .i64 0] 54))
    rw [hw2] at q2 hF2
    clear hw2
    obtain ⟨S2, hS2⟩ : ∃ S2, S2 = fun k => k = w1.heap.size := ⟨_, rfl⟩
    rw [← hS2] at q2
    obtain ⟨g, hg⟩ : ∃ g, w1.heap.size = g := ⟨_, rfl⟩
    rw [hg] at q2
    rw [hg]
    clear hg f0 f1 hb1 hS2
    go_wp2_with fail
    refine (new_yes 300 w2 (by omega) (by omega)).mono ?_
    rintro e w3 ⟨rfl, hw3⟩
    have p3 := QB.new w2 300 w0.heap.size hF2.out.size (by omega)
    have q3 := q2.alloc (.cells #[.int .i64 ((300 : Nat) : Int), .slice none 0 0, .int .i64 0] 54)
    have hF3 := Lib.hid (hF2.out.alloc hF2.out.size (.cells #[.int .i64 ((300 : Nat) : Int), .slice none 0 0, .int .i64 0] 54))
    rw [hw3] at p3 q3 hF3
    clear hw3
    obtain ⟨T3, hT3⟩ : ∃ T3, T3 = fun k => k = w2.heap.size := ⟨_, rfl⟩
    rw [← hT3] at p3
    have hdis : ∀ k, S2 k → ¬ T3 k := fun k hs ht => by
      have := q2.hi k hs
      rw [hT3] at ht
      have : k = w2.heap.size := ht
      omega
    obtain ⟨g2, hg2⟩ : ∃ g, w2.heap.size = g := ⟨_, rfl⟩
    rw [hg2] at p3
    rw [hg2]
    have two := Two.mk ⟨_, _, _, _, q3, p3, hdis⟩
    clear hg2 hT3 q2 q3 p3 hF2 hdis
    go_wp2_with fail
    go_loopw [8] (fun i wr => ∃ (k d : Nat) (l : List UInt8), k ≤ n ∧ d ≤ k ∧ i = .int .i64 k ∧ Two wr g g2 w0.heap.size l d ∧ Below w0.heap.size w0 wr) (fun i _ => n - (intOf i).toNat)
    case atStart => exact ⟨0, 0, [], Nat.zero_le _, Nat.le_refl _, rfl, two, hF3.out⟩
    case round =>
      obtain ⟨k, d, l, hk, hdk, rfl, ⟨S, T, v, u, q, p, hdis⟩, hbw⟩ := hrel
      clear two hF3
      have HD := Lib.hid hdis
      clear hdis
      by_cases hlt : k < n
      · have hkp : k < ls.length := by rw [HN.out]; exact hlt
        obtain ⟨⟨x, nn⟩, hxn⟩ : ∃ s, ls[k]'hkp = s := ⟨_, rfl⟩
        have hbw' := HB0.out.trans (hbw.mono HB0.out.size)
        obtain ⟨b, o, A', c', hA, hb, hrx, hx, hnn, hck, _⟩ := (HQI.out.below (hbw.mono HB0.out.size)).at_ k hkp x nn hxn
        cases hA
        obtain ⟨m, hm⟩ : ∃ m, x.length = m := ⟨_, rfl⟩
        have hm200 : m ≤ 200 := by rw [← hm]; exact H200.out (x, nn) (by rw [← hxn]; exact List.getElem_mem hkp)
        rw [hm] at hck
        have HM := Lib.hid hm
        clear hm hx hxn
        obtain ⟨bb, hbb⟩ : ∃ bb, hasRoom 300 l x = bb := ⟨_, rfl⟩
        obtain ⟨l1, hl1⟩ : ∃ l1, pushL 300 l x = l1 := ⟨_, rfl⟩
        obtain ⟨d1, hd1⟩ : ∃ d1, pushD 300 l x d = d1 := ⟨_, rfl⟩
        have hd2 : d1 ≤ d + 1 := by rw [← hd1]; unfold pushD; split <;> omega
        have HBB := Lib.hid hbb
        have HL1 := Lib.hid hl1
        have HD1 := Lib.hid hd1
        clear hbb hl1 hd1
        have hsw : w.heap.size ≤ wr.heap.size := hbw'.size
        go_wp2_with fail
        refine (push_any q A' m c' x bb l1 d1 HM.out (by omega) (by omega) (hrx.rd hsw) HBB.out HL1.out HD1.out).mono ?_
        rintro e w4 ⟨rfl, ⟨S4, v4, q4, hw4⟩, hf4⟩
        have hbx := hf4.below (B := w0.heap.size) hbw.size q.lo
        have hck4 := (hbx.cell (p := ⟨b, o + k * 2, none⟩) (Nat.lt_trans hb HSZ.out)).trans hck
        have p4 := p.fr hf4 (fun j hj hs => HD.out j hs hj)
        have HD4 := Lib.hid (show ∀ j, S4 j → ¬ T j from fun j hs ht => by
          rcases hw4 j hs with h1 | h1
          · exact HD.out j h1 ht
          · have := p.hi j ht; omega)
        have hbw4 := hbw.trans hbx
        have hrx4 := hrx.below (hbx.mono HB0.out.size)
        have hsw4 : w.heap.size ≤ w4.heap.size := Nat.le_trans hsw hf4.size
        clear hf4 hw4 q p hck hbx hbw hrx hbw' hsw
        go_wp2_with fail
        refine (push_any p4 A' m c' x bb l1 d1 HM.out (by omega) (by omega) (hrx4.rd hsw4) HBB.out HL1.out HD1.out).mono ?_
        rintro e w5 ⟨rfl, ⟨T5, u5, p5, hw5⟩, hf5⟩
        have hbx := hf5.below (B := w0.heap.size) hbw4.size p4.lo
        have q5 := q4.fr hf5 (fun j hj ht => HD4.out j hj ht)
        have HD5 := Lib.hid (show ∀ j, S4 j → ¬ T5 j from fun j hs ht => by
          rcases hw5 j ht with h1 | h1
          · exact HD4.out j hs h1
          · have := q4.hi j hs; omega)
        have hbw5 := Lib.hid (hbw4.trans hbx)
        clear hf5 hw5 q4 p4 hck4 hbx hbw4 hrx4 hsw4
        go_wp2_with fail
        go_roundw
        case rel => exact ⟨k + 1, d1, l1, by omega, by omega, by go_num, ⟨_, _, _, _, q5, p5, HD5.out⟩, hbw5.out⟩
        case measure => simp [intOf]; omega
      · have hkn : k = n := by omega
        subst hkn
        obtain ⟨w5, rfl⟩ : ∃ w5 : World, w5 = wr := ⟨_, rfl⟩
        obtain ⟨K1, hK1⟩ : ∃ K, drainK (X : Int) l = K := ⟨_, rfl⟩
        obtain ⟨l1, hl1⟩ : ∃ l1, l.drop K1 = l1 := ⟨_, rfl⟩
        obtain ⟨K2, hK2⟩ : ∃ K, drainK (Y : Int) l1 = K := ⟨_, rfl⟩
        obtain ⟨K3, hK3⟩ : ∃ K, drainK ((X : Int) + (Y : Int)) l = K := ⟨_, rfl⟩
        obtain ⟨h12, h3l⟩ := split_len (K2 := K2) hK1 (by rw [hl1, hK2]) hK3
        obtain ⟨m, hm⟩ : ∃ m, l.length = m := ⟨_, rfl⟩
        have hm3 : m ≤ 300 := by rw [← hm]; exact q.fit
        rw [hm] at h3l
        obtain ⟨P1, hP1⟩ : ∃ P1, l.take K1 = P1 := ⟨_, rfl⟩
        obtain ⟨P2, hP2⟩ : ∃ P2, l1.take K2 = P2 := ⟨_, rfl⟩
        have hPP := split_take (l := l) h12
        rw [hl1, hP1, hP2] at hPP
        have hn1 : (bs P1).length = K1 := by rw [bs_length, ← hP1, List.length_take]; omega
        have hl1n : l1.length = m - K1 := by rw [← hl1, List.length_drop, hm]
        have hn2 : (bs P2).length = K2 := by rw [bs_length, ← hP2, List.length_take]; omega
        obtain ⟨r, hr⟩ : ∃ r, m - K3 = r := ⟨_, rfl⟩
        have HRQ := Lib.hid (show (l1.drop K2).length = r by rw [List.length_drop, hl1n]; omega)
        have HRP := Lib.hid (show (l.drop K3).length = r by rw [List.length_drop, hm]; exact hr)
        have HK1 := Lib.hid hK1
        have HK2 := Lib.hid hK2
        have HK3 := Lib.hid hK3
        have HL1 := Lib.hid hl1
        have HP1 := Lib.hid hP1
        have HP2 := Lib.hid hP2
        have HPP := Lib.hid hPP
        have HN1 := Lib.hid hn1
        have HN2 := Lib.hid hn2
        have HK12 := Lib.hid (show K1 + K2 ≤ 300 by omega)
        have H12 := Lib.hid h12
        clear hK1 hl1 hK2 hK3 h12 hm hP1 hP2 hPP hn1 hl1n hn2 hr h3l hm3
        obtain ⟨B5, hB5⟩ : ∃ B5, w5.heap.size = B5 := ⟨_, rfl⟩
        have HB5 := Lib.hid hB5
        have HS5 := Lib.hid (show ∀ j, S j → j < B5 from fun j hj => by rw [← hB5]; exact q.hi j hj)
        have HT5 := Lib.hid (show ∀ j, T j → j < B5 from fun j hj => by rw [← hB5]; exact p.hi j hj)
        have HW5 := Lib.hid (show w0.heap.size ≤ B5 by rw [← hB5]; exact hbw.size)
        have hownE : Own (w5.drew.alloc (.cells #[] 5)) B5 5 1 (.slice (some ⟨w5.drew.heap.size, 0, none⟩) 0 0) 0 [] := Own.of (World.ownsRow_made w5.drew #[] 0 (by rw [← hB5]; exact Nat.le_refl _) (by decide) rfl)
        have HE := Lib.hid hownE
        have h1 : 0 + K1 ≤ maxLen := by have := HK12.out; simp only [maxLen]; omega
        have h2 : (0 + K1) * 1 ≤ 140737488355328 := by have := HK12.out; omega
        have h3 : 0 + K1 + K2 ≤ maxLen := by have := HK12.out; simp only [maxLen]; omega
        have h4 : (0 + K1 + K2) * 1 ≤ 140737488355328 := by have := HK12.out; omega
        clear hB5 hownE
        go_wp2_with fail
        go_region_held3 (fun W => Below w0.heap.size w0 W ∧ W.cell? ⟨w.heap.size, 0, none⟩ = some (.int .i64 (X : Int)) ∧ W.cell? ⟨w.heap.size, 1, none⟩ = some (.int .i64 (Y : Int)))
          (first
            | exact ⟨hbw.drew, HC.out _ hbw.drew⟩
            | exact ⟨hbw.drew.alloc hbw.size _, HC.out _ (hbw.drew.alloc hbw.size _)⟩
            | exact ⟨hb9, HC.out _ hb9⟩
            | exact ⟨hb8, HC.out _ hb8⟩
            | exact ⟨hb7, HC.out _ hb7⟩
            | exact ⟨hb6, HC.out _ hb6⟩
            | exact ⟨hb6.alloc hb6.size _, HC.out _ (hb6.alloc hb6.size _)⟩)
          (first
            | ((fail_if_success have := own6); go_at_call 15; refine (drain_any (q.drew.alloc (.cells #[] 5)) X K1 (by omega) HK1.out).mono ?_; rintro e w6 ⟨⟨A6, c6, rfl, own6⟩, ⟨v6, q6⟩, hf6⟩
               have hb6 := (hbw.drew.alloc hbw.size (.cells #[] 5)).trans (hf6.below (B := w0.heap.size) (hbw.drew.alloc hbw.size _).size q.lo)
               have p6 := (p.drew.alloc (.cells #[] 5)).fr hf6 (fun j hj hs => HD.out j hs hj)
               have ownE6 := HE.out.fr hf6 (fun j hj hs => by have := (HE.out.lt j hj).1; have := HS5.out j hs; omega)
               rw [HL1.out] at q6
               rw [HP1.out] at own6
               have hr6 := own6.rd
               have hs6 := Nat.le_trans (show B5 ≤ (w5.drew.alloc (.cells #[] 5)).heap.size by rw [World.size_alloc]; exact Nat.le_trans (Nat.le_of_eq HB5.out.symm) (Nat.le_succ _)) hf6.size
               clear hf6)
            | ((fail_if_success have := own6); go_at_call 15; refine (drain_any q.drew X K1 (by omega) HK1.out).mono ?_; rintro e w6 ⟨⟨A6, c6, rfl, own6⟩, ⟨v6, q6⟩, hf6⟩
               have hb6 := hbw.drew.trans (hf6.below (B := w0.heap.size) hbw.drew.size q.lo)
               have p6 := p.drew.fr hf6 (fun j hj hs => HD.out j hs hj)
               rw [HL1.out] at q6
               rw [HP1.out] at own6
               have hr6 := own6.rd
               have hs6 := Nat.le_trans (Nat.le_of_eq HB5.out.symm) hf6.size
               clear hf6)
            | (go_at_call 15; refine (drain_any q7 Y K2 (by omega) HK2.out).mono ?_; rintro e w8 ⟨⟨A8, c8, rfl, own8⟩, ⟨v8, q8⟩, hf8⟩
               have hb8 := hb7.trans (hf8.below (B := w0.heap.size) hb7.size q7.lo)
               have p8 := p7.fr hf8 (fun j hj hs => HD.out j hs hj)
               have own78 := own7.fr hf8 (fun j hj hs => by have := (own7.lt j hj).1; have := HS5.out j hs; omega)
               rw [HP2.out] at own8
               have hr8 := own8.rd
               have hs8 := Nat.le_trans hs7 hf8.size
               clear hf8)
            | (refine step_app _ rfl (.tmp 57) (.tmp 61) 28 rfl B5 5 i0 _ 1 1 Try.underlying28 hi hz0 hz1 hz2 rfl Nat.one_pos (.slice (some ⟨w5.drew.heap.size, 0, none⟩) 0 0) 0 [] (by simp [Act.eval]) ownE6 A6 K1 c6 (bs P1) (by simp [Act.eval]) (by rw [HN1.out, Nat.mul_one]) hr6 (bs_one P1) h1 h2 hs6 ?_; intro v7 w7 own7 hg7
               have q7 := q6.grown hg7 (fun j hj hs => by have := (ownE6.lt j hj).1; have := HS5.out j hs; omega)
               have p7 := p6.grown hg7 (fun j hj hs => by have := (ownE6.lt j hj).1; have := HT5.out j hs; omega)
               have hb7 := hb6.grown hg7 hb6.size (fun j hj => by have := (ownE6.lt j hj).1; have := HW5.out; omega)
               have hs7 := Nat.le_trans hs6 hg7.size
               clear hg7)
            | (refine step_app _ rfl (.tmp 57) (.tmp 61) 28 rfl B5 5 i0 _ 1 1 Try.underlying28 hi hz0 hz1 hz2 rfl Nat.one_pos (.slice (some ⟨w6.heap.size, 0, none⟩) 0 0) 0 [] (by simp [Act.eval]) (Own.of (World.ownsRow_made w6 #[] 0 hs6 (by decide) rfl)) A6 K1 c6 (bs P1) (by simp [Act.eval]) (by rw [HN1.out, Nat.mul_one]) (hr6.alloc _) (bs_one P1) h1 h2 (by rw [World.size_alloc]; exact Nat.le_succ_of_le hs6) ?_; intro v7 w7 own7 hg7
               have q7 := (q6.alloc (.cells #[] 5)).grown hg7 (fun j hj hs => by have h0 : some w6.heap.size = some j := hj; injection h0 with h0; have := q6.hi j hs; omega)
               have p7 := (p6.alloc (.cells #[] 5)).grown hg7 (fun j hj hs => by have h0 : some w6.heap.size = some j := hj; injection h0 with h0; have := p6.hi j hs; omega)
               have hb7 := (hb6.alloc hb6.size (.cells #[] 5)).grown hg7 (hb6.alloc hb6.size _).size (fun j hj => by have h0 : some w6.heap.size = some j := hj; injection h0 with h0; have := hb6.size; omega)
               have hs7 := Nat.le_trans (show B5 ≤ (w6.alloc (.cells #[] 5)).heap.size by rw [World.size_alloc]; exact Nat.le_succ_of_le hs6) hg7.size
               clear hg7)
            | (refine step_app _ rfl (.tmp 62) (.tmp 66) 28 rfl B5 5 i0 _ 1 1 Try.underlying28 hi hz0 hz1 hz2 rfl Nat.one_pos v7 _ _ (by simp [Act.eval]) own78 A8 K2 c8 (bs P2) (by simp [Act.eval]) (by rw [HN2.out, Nat.mul_one]) hr8 (bs_one P2) h3 h4 hs8 ?_; intro v9 w9 own9 hg9
               have q9 := q8.grown hg9 (fun j hj hs => by have := (own78.lt j hj).1; have := HS5.out j hs; omega)
               have p9 := p8.grown hg9 (fun j hj hs => by have := (own78.lt j hj).1; have := HT5.out j hs; omega)
               have hb9 := hb8.grown hg9 hb8.size (fun j hj => by have := (own78.lt j hj).1; have := HW5.out; omega)
               obtain ⟨A9, c9, rfl, _⟩ := own9.form
               clear hg9))
        all_goals
          have own9 : Own w9 B5 5 1 (.slice A9 K3 c9) K3 (bs (l.take K3)) := by
            have := own9
            rw [Nat.zero_add, H12.out, List.nil_append, ← bs_append, HPP.out] at this
            exact this
          simp only [H12.out]
          have hln : (l.take K3).length = K3 := by have := own9.1; rw [bs_length] at this; omega
          obtain ⟨P3, hP3⟩ : ∃ P3, l.take K3 = P3 := ⟨_, rfl⟩
          rw [hP3] at own9 hln
          have HP3 := Lib.hid hP3
          have hr9 : Rd w9.drew A9 (bs P3) := own9.drew.rd
          have hcvA : ∀ W, Rd W A9 (bs P3) → (convert 28 9 (.slice A9 K3 c9)).run Try.prog W = .ok (.string ⟨P3.toArray⟩) W := fun W hr => conv_str Try.underlying28 Try.underlying5 hln hr _ Try.underlying9
          have HLN := Lib.hid hln
          clear hP3 hln q6 p6 hb6 own6 hr6 hs6 own7 q7 p7 hb7 hs7 own8 q8 hb8 p8 own78 hr8 hs8 h1 h2 h3 h4 q p hbw
          have HXY := Lib.hid (show (X : Int) + (Y : Int) ≤ 9223372036854775807 by omega)
          have HO9 := Lib.hid (show ∀ j, (Value.slice A9 K3 c9).ownBlock = some j → ¬ T j from fun j hj ht => by have := (own9.lt j hj).1; have := HT5.out j ht; omega)
          have hsum : IntKind.i64.wrap ((X : Int) + (Y : Int)) = (X : Int) + (Y : Int) := IntWalk.i64_in _ (by omega)
          go_wp2_with fail
          go_region_held (fun W => Rd W A9 (bs P3) ∧ Below w0.heap.size w0 W ∧ W.cell? ⟨w.heap.size, 0, none⟩ = some (.int .i64 (X : Int)) ∧ W.cell? ⟨w.heap.size, 1, none⟩ = some (.int .i64 (Y : Int)))
            (first
              | exact ⟨hr9, hb9.drew, HC.out _ hb9.drew⟩
              | exact ⟨hr10, hb10, HC.out _ hb10⟩)
            (first
              | (go_at_call 15; refine (drain_any p9.drew ((X : Int) + (Y : Int)) K3 HXY.out HK3.out).mono ?_; rintro e w10 ⟨⟨A10, c10, rfl, own10⟩, ⟨v10, p10⟩, hf10⟩
                 have q10 := q9.drew.fr hf10 (fun j hj ht => HD.out j hj ht)
                 have hb10 := hb9.drew.trans (hf10.below (B := w0.heap.size) hb9.drew.size p9.lo)
                 have hr10 := (own9.drew.fr hf10 HO9.out).rd
                 have hcv10 : (convert 28 9 (.slice A10 K3 c10)).run Try.prog w10 = .ok (.string ⟨P3.toArray⟩) w10 := conv_str Try.underlying28 Try.underlying5 HLN.out (by have := own10.rd; rwa [HP3.out] at this) _ Try.underlying9
                 clear hf10)
              | ((fail_if_success have := mkLen); go_at_call 17; refine (len_at q10 r HRQ.out).mono ?_; rintro e w' ⟨rfl, rfl⟩; have mkLen : True := trivial)
              | (go_at_call 17; refine (len_at p10 r HRP.out).mono ?_; rintro e w' ⟨rfl, rfl⟩))
          go_wp2_with fail
          go_ret
          exact ⟨rfl, HB0.out.trans (hb10.mono HB0.out.size)⟩
  · obtain ⟨t1, ht1⟩ : ∃ t1, decide (x < 0) = t1 := ⟨_, rfl⟩
    obtain ⟨t2, ht2⟩ : ∃ t2, decide (y < 0) = t2 := ⟨_, rfl⟩
    obtain ⟨t3, ht3⟩ : ∃ t3, decide (1000 < x) = t3 := ⟨_, rfl⟩
    obtain ⟨t4, ht4⟩ : ∃ t4, decide (1000 < y) = t4 := ⟨_, rfl⟩
    have hbad : fb = false ∨ t1 = true ∨ t2 = true ∨ t3 = true ∨ t4 = true := by
      subst ht1 ht2 ht3 ht4
      simp only [decide_eq_true_eq]
      cases fb <;> simp at hgood ⊢
      omega
    have HBAD := Lib.hid hbad
    clear hbad hgood
    generalize hW0 : w.alloc (.cells #[.int .i64 x, .int .i64 y] 43) = w0 at *
    have e0 := hX0.cell 0
    have e1 := hX0.cell 1
    have hlt := hX0.lt
    go_enter Try.func5, Try.ntmps5
    go_wp2_with fail
    refine (awake_any w0).mono ?_
    rintro e w1 ⟨rfl, hb1⟩
    have f0 := (hb1.cell (p := ⟨w.heap.size, 0, none⟩) hlt).trans e0
    have f1 := (hb1.cell (p := ⟨w.heap.size, 1, none⟩) hlt).trans e1
    have HB1 := Lib.hid (hB0.trans (hb1.mono hB0.size))
    have hqi1 := hqi.below (hb1.mono hB0.size)
    clear hb1 e0 e1 hX0 hB0 hqi hW0
    go_wp2_with fail
    refine (few_any ls A n c fb w1 HN.out hl HFB.out hqi1).mono ?_
    rintro e w1' ⟨rfl, rfl⟩
    cases fb <;> cases t1 <;> cases t2 <;> cases t3 <;> cases t4 <;> first | (exfalso; have := HBAD.out; simp at this; done) | (go_wp2_with fail; go_ret; exact ⟨rfl, HB1.out⟩)
end Go.Proofs.Ythilpfgmbikhfaa
