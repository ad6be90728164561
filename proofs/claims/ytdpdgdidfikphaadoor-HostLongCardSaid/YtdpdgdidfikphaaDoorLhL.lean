/-
  Layer 5: the walk of HostLong, out of what a law needs of the parser.
-/
import Derived.Test.YtdpdgdidfikphaaDoorHosC
import Derived.Lib.SmallJoins
namespace Go.Proofs.YtdpdgdidfikphaaDoor
open Go.RowKit

/-- A constant text's bytes as a row. -/
theorem own_const (w : World) (base : Nat) (x : List UInt8) (L : Array Value) (n : Nat) (hL : L = (bs x).toArray) (hn : x.length = n) (hb : base ≤ w.heap.size) (hm : n ≤ maxLen) :
    Own (w.alloc (.cells L 5 (n, n + 1))) base 5 1 (.slice (some ⟨w.heap.size, 0, none⟩) n n) n (bs x) := by
  subst hL hn
  refine ⟨by rw [bs_length, Nat.mul_one], .inr ⟨w.heap.size, _, rfl, hb, ⟨_, _, heap_alloc_new w _⟩, Nat.le_refl _, hm, fun j u hu => ?_, fun j hj => ?_⟩⟩
  · refine (World.cell?_alloc_mark w _ _ _ j).trans ?_
    simpa using hu
  · refine ⟨?_, (World.frozen?_alloc_mark w _ _ _ _ j).trans ?_⟩
    · have : j < (bs x).length := by rw [bs_length]; omega
      rw [show (w.alloc (.cells (bs x).toArray 5 (x.length, x.length + 1))).cell? ⟨w.heap.size, j, none⟩ = (bs x).toArray[j]? from World.cell?_alloc_mark w _ _ _ j]
      simp [this]
    · rw [Bool.and_eq_false_iff]
      left
      rw [decide_eq_false_iff_not]
      omega
section
variable {HB : HBox} {Inv : World → Prop}
set_option maxRecDepth 100000 in
set_option maxHeartbeats 16000000 in
theorem hostLong_walk (H : HostC HB Inv) (more : Int) (lo : 0 ≤ more) (hi3 : more ≤ 255) (dcs : Bool) (w : World) (hi : Inv w) :
    Calls Tryd.prog 6 #[.int .u8 more, .bool dcs] w fun e w' => e = .returned (.bool true) ∧ Below w.heap.size w w' := by
  obtain ⟨i0, hi0, hz0, hz1, hz2⟩ : ∃ i, Tryd.prog.info? 5 = some i ∧ i.zero = some (.int .u8 0) ∧ i.size = 1 ∧ i.bytes = 1 := ⟨_, rfl, rfl, rfl, rfl⟩
  have kc := fun (w : World) (C : Array Value) (n c : Nat) => Lib.run_convert_bytes_const (P := Tryd.prog) w 22 5 C n c Tryd.underlying22 Tryd.underlying5
  obtain ⟨N, hN⟩ := Int.eq_ofNat_of_zero_le (show 0 ≤ 4090 + more % 12 by omega)
  have hN1 : 4090 ≤ N := by omega
  have hN2 : N ≤ 4101 := by omega
  obtain ⟨hd, h, sN, hhd, hh5, hsk, hsd, hfd⟩ : ∃ (hd : List UInt8) (h : Nat) (sN : Sq), (hd = if dcs = true then [27, 80, 49, 36, 114] else [27, 93]) ∧ (h = if dcs = true then 5 else 2) ∧ sN.kind ≠ 1 ∧ sN.data = List.replicate N 97 ∧ feedH hp0 (hd ++ (List.replicate N 97 ++ [27, 92, 27, 91, 99])) = (hp0, (if 4096 < N then [] else [sN]) ++ [⟨1, 0, [], [], 99, []⟩]) := by
    cases dcs
    · exact ⟨_, _, ⟨4, 0, [], [], 0, List.replicate N 97⟩, rfl, rfl, by simp, rfl, long_osc N⟩
    · exact ⟨_, _, ⟨3, 0, [[1]], [36], 114, List.replicate N 97⟩, rfl, rfl, by simp, rfl, long_dcs N⟩
  have HHD := Lib.hid hhd
  have HSK := Lib.hid hsk
  have HSD := Lib.hid hsd
  have HFD := Lib.hid hfd
  have hh6 : h ≤ 5 := by rw [hh5]; split <;> omega
  have HH := Lib.hid hh5
  have HHL := Lib.hid (show hd.length = h by rw [hhd, hh5]; cases dcs <;> rfl)
  clear hhd hsk hsd hfd hh5
  go_enter Tryd.func6, Tryd.ntmps6
  go_wp2_with fail
  refine (hostAwake H w hi).mono ?_
  rintro e w1 ⟨rfl, hb1⟩
  have own2 := own_const w1 w.heap.size [27, 93] #[.int .u8 27, .int .u8 93] 2 rfl rfl hb1.size (by decide)
  have hb2 := hb1.alloc hb1.size (.cells #[.int .u8 27, .int .u8 93] 5 (2, 3))
  have own3 := own_const (w1.alloc (.cells #[.int .u8 27, .int .u8 93] 5 (2, 3))) w.heap.size [27, 80, 49, 36, 114] #[.int .u8 27, .int .u8 80, .int .u8 49, .int .u8 36, .int .u8 114] 5 rfl rfl hb2.size (by decide)
  have hb3 := hb2.alloc hb2.size (.cells #[.int .u8 27, .int .u8 80, .int .u8 49, .int .u8 36, .int .u8 114] 5 (5, 6))
  have kc2 := Joins.run_convert_bytes_const_at (P := Tryd.prog) (w1.alloc (.cells #[.int .u8 27, .int .u8 93] 5 (2, 3))) 22 5 #[.int .u8 27, .int .u8 80, .int .u8 49, .int .u8 36, .int .u8 114] 5 5 (w1.heap.size + 1) (by simp) Tryd.underlying22 Tryd.underlying5
  cases dcs
  case' false =>
    have hd' := HHD.out
    have hh' := HH.out
    simp only [Bool.false_eq_true, if_false] at hd' hh'
    have HD' := Lib.hid hd'
    have HH' := Lib.hid hh'
    clear own3 hb3 hd' hh'
    go_wp2_with fail
    obtain ⟨w4, hw4⟩ : ∃ w4, w1.alloc (.cells #[.int .u8 27, .int .u8 93] 5 (2, 3)) = w4 := ⟨_, rfl⟩
    rw [hw4] at own2 hb2 ⊢
    have own4 : Own w4 w.heap.size 5 1 (.slice (some ⟨w1.heap.size, 0, none⟩) 2 2) h (bs hd) := by rw [HD'.out, HH'.out]; exact own2
    have hb4 := hb2
    clear own2 hb2 hw4
  case' true =>
    have hd' := HHD.out
    have hh' := HH.out
    simp only [if_true] at hd' hh'
    have HD' := Lib.hid hd'
    have HH' := Lib.hid hh'
    clear own2 hb2 hd' hh'
    go_wp2_with fail
    rw [World.size_alloc] at own3
    obtain ⟨w4, hw4⟩ : ∃ w4, (w1.alloc (.cells #[.int .u8 27, .int .u8 93] 5 (2, 3))).alloc (.cells #[.int .u8 27, .int .u8 80, .int .u8 49, .int .u8 36, .int .u8 114] 5 (5, 6)) = w4 := ⟨_, rfl⟩
    rw [hw4] at own3 hb3 ⊢
    have own4 : Own w4 w.heap.size 5 1 (.slice (some ⟨w1.heap.size + 1, 0, none⟩) 5 5) h (bs hd) := by rw [HD'.out, HH'.out]; exact own3
    have hb4 := hb3
    clear own3 hb3 hw4
  all_goals
    clear HD' HH' HH HHD kc2 kc
    go_loopw [7, 8] (fun y1 i wr => ∃ (k : Nat) (v : Value), k ≤ N ∧ i = .int .i64 k ∧ v = y1 ∧ Own wr w.heap.size 5 1 v (h + k) (bs (hd ++ List.replicate k 97)) ∧ Below w.heap.size w wr) (fun _ i _ => N - (intOf i).toNat)
    case atStart => exact ⟨0, _, Nat.zero_le _, rfl, rfl, (by rw [Nat.add_zero, List.replicate_zero, List.append_nil]; exact own4), hb4⟩
    case round =>
      obtain ⟨k, v, hk, rfl, rfl, own, hbw⟩ := hrel
      clear own4 hb4
      by_cases hlt : k < N
      · have own1 := own.alloc (.cells (bs [97]).toArray 5)
        have hr1 := rd_lit wr [97] (bs [97]).toArray (0, 0) rfl
        have hbw1 := hbw.alloc hbw.size (.cells (bs [97]).toArray 5)
        have hs1 := hbw1.size
        have h63 : h + k + 1 ≤ maxLen := by simp only [maxLen]; omega
        have hlim : (h + k + 1) * 1 ≤ 140737488355328 := by omega
        have HSN := Lib.hid (show bs (hd ++ List.replicate k 97) ++ bs [97] = bs (hd ++ List.replicate (k + 1) 97) by rw [← bs_append, List.append_assoc, ← List.replicate_succ'])
        clear own hbw
        go_wp2_with (at_builtin; refine list_app _ rfl (.tmp 26) (.tmp 27) 22 rfl w.heap.size 5 i0 _ 1 1 Tryd.underlying22 hi0 hz0 hz1 hz2 rfl Nat.one_pos v (h + k) _ rfl own1 (some ⟨wr.heap.size, 0, none⟩) 1 1 (bs [97]) rfl rfl hr1 (bs_one _) h63 hlim hs1 ?_; intro v2 w2 own2 hg2)
        rw [HSN.out] at own2
        have hbw2 := Lib.hid (hbw1.grown hg2 hs1 (fun j hj => (own1.lt j hj).1))
        clear hg2 own1 hbw1 hr1
        go_roundw
        case rel => exact ⟨k + 1, _, by omega, by go_num, rfl, own2, hbw2.out⟩
        case measure => simp [intOf]; omega
      · have hkn : k = N := by omega
        subst hkn
        obtain ⟨w5, rfl⟩ : ∃ w5 : World, w5 = wr := ⟨_, rfl⟩
        have own1 := own.alloc (.cells (bs [27, 92]).toArray 5)
        have hr1 := rd_lit w5 [27, 92] (bs [27, 92]).toArray (0, 0) rfl
        have hbw1 := hbw.alloc hbw.size (.cells (bs [27, 92]).toArray 5)
        have hs1 := hbw1.size
        have h63 : h + k + 2 ≤ maxLen := by simp only [maxLen]; omega
        have hlim : (h + k + 2) * 1 ≤ 140737488355328 := by omega
        have g63 : h + k + 2 + (⟨#[27, 91, 99]⟩ : ByteArray).size ≤ maxLen := by show h + k + 2 + 3 ≤ maxLen; simp only [maxLen]; omega
        have glim : h + k + 2 + (⟨#[27, 91, 99]⟩ : ByteArray).size ≤ 140737488355328 := by show h + k + 2 + 3 ≤ _; omega
        have HSN := Lib.hid (show (bs (hd ++ List.replicate k 97) ++ bs [27, 92]) ++ bs (⟨#[27, 91, 99]⟩ : ByteArray).data.toList = bs (hd ++ (List.replicate k 97 ++ [27, 92, 27, 91, 99])) by
          show _ ++ bs [27, 91, 99] = _
          rw [← bs_append, ← bs_append, List.append_assoc, List.append_assoc]
          rfl)
        clear own hbw
        go_wp2_with (first
          | (at_builtin; refine list_app _ rfl (.tmp 29) (.tmp 30) 22 rfl w.heap.size 5 i0 _ 1 1 Tryd.underlying22 hi0 hz0 hz1 hz2 rfl Nat.one_pos v (h + k) _ rfl own1 (some ⟨w5.heap.size, 0, none⟩) 2 2 (bs [27, 92]) rfl rfl hr1 (bs_one _) h63 hlim hs1 ?_; intro v2 w2 own2 hg2
             have hbw2 := hbw1.grown hg2 hs1 (fun j hj => (own1.lt j hj).1)
             have hs2 := hbw2.size)
          | (at_builtin; refine list_app_str _ rfl (.tmp 32) (.const (.string ⟨#[27, 91, 99]⟩)) 22 9 rfl w.heap.size 5 i0 Tryd.underlying22 Tryd.underlying9 hi0 hz0 hz1 hz2 v2 _ _ rfl own2 ⟨#[27, 91, 99]⟩ rfl g63 glim hs2 ?_; intro v3 w3 own3 hg3
             have hbw3 := hbw2.grown hg3 hs2 (fun j hj => (own2.lt j hj).1)
             obtain ⟨A3, c3, rfl, _⟩ := own3.form))
        rw [HSN.out] at own3
        have hr3 := own3.rd
        clear hg2 hg3 own1 own2 hbw1 hbw2 hr1
        refine (H.new w w3 hi hbw3).mono ?_
        rintro e w4 ⟨S, g, rfl, hp, hS4, hb4⟩
        have hr4 := RdOff.ahead hr3 hb4 hS4
        have hb5 := hbw3.trans (hb4.mono hbw3.size)
        clear hr3 hb4 hbw3 own3
        go_wp2_with fail
        have HLN := Lib.hid (show (hd ++ (List.replicate k 97 ++ [27, 92, 27, 91, 99])).length = h + k + 2 + 3 by
          rw [List.length_append, HHL.out, List.length_append, List.length_replicate]
          show h + (k + 5) = _
          omega)
        by_cases hlong : 4096 < k
        · have t1 : decide (4096 < (k : Int)) = true := by simp; omega
          have HF := Lib.hid (show feedH hp0 (hd ++ (List.replicate k 97 ++ [27, 92, 27, 91, 99])) = (hp0, [⟨1, 0, [], [], 99, []⟩]) by rw [HFD.out, if_pos hlong]; rfl)
          refine (H.feed_at A3 (h + k + 2 + 3) c3 _ hp HLN.out (by omega) hr4 HF.out (m := 1) rfl).mono ?_
          rintro e w6 ⟨S6, A6, c6, f6, rfl, hc6, _, _, hf6, hd6⟩
          have hb6 := hb5.trans (hf6.below (B := w.heap.size) hb5.size (H.lo hp))
          obtain ⟨b, o, A1, c1, hA, _, a0, a1, a2, a3, a4, a5⟩ := hd6.out.q.at_ (k := 0) (by decide) rfl
          subst hA
          have a4 : w6.cell? ⟨b, o + 4, none⟩ = some (.int .u8 99) := a4
          clear a0 a1 a2 a3 a5 hd6 hf6 hp hr4 hb5
          go_wp2_with fail
          go_ret
          exact ⟨rfl, hb6⟩
        · have t1 : decide (4096 < (k : Int)) = false := by simp; omega
          have HF := Lib.hid (show feedH hp0 (hd ++ (List.replicate k 97 ++ [27, 92, 27, 91, 99])) = (hp0, [sN, ⟨1, 0, [], [], 99, []⟩]) by rw [HFD.out, if_neg hlong]; rfl)
          refine (H.feed_at A3 (h + k + 2 + 3) c3 _ hp HLN.out (by omega) hr4 HF.out (m := 2) rfl).mono ?_
          rintro e w6 ⟨S6, A6, c6, f6, rfl, hc6, _, _, hf6, hd6⟩
          have hb6 := hb5.trans (hf6.below (B := w.heap.size) hb5.size (H.lo hp))
          obtain ⟨b, o, A1, c1, hA, _, a0, a1, a2, a3, a4, a5⟩ := hd6.out.q.at_ (k := 0) (by simp) rfl
          obtain ⟨b', o', A2, c2, hA2, _, d0, d1, d2, d3, d4, d5⟩ := hd6.out.q.at_ (k := 1) (by simp) rfl
          subst hA
          simp only [Option.some.injEq, Addr.mk.injEq, and_true] at hA2
          obtain ⟨rfl, rfl⟩ := hA2
          have a0 : w6.cell? ⟨b, o, none⟩ = some (.int .i64 sN.kind) := a0
          have a5 : w6.cell? ⟨b, o + 5, none⟩ = some (.string ⟨sN.data.toArray⟩) := a5
          have d4 : w6.cell? ⟨b, o + 6 + 4, none⟩ = some (.int .u8 99) := d4
          have hsz : (⟨sN.data.toArray⟩ : ByteArray).size = k := by show sN.data.toArray.size = k; rw [HSD.out]; simp
          have hk1 : (sN.kind == 1) = false := beq_false_of_ne HSK.out
          have hk2 : (sN.kind != 1) = true := by simp [bne, hk1]
          clear a1 a2 a3 a4 d0 d1 d2 d3 d5 hd6 hf6 hp hr4 hb5
          go_wp2_with fail
          go_ret
          exact ⟨rfl, hb6⟩
end
end Go.Proofs.YtdpdgdidfikphaaDoor
