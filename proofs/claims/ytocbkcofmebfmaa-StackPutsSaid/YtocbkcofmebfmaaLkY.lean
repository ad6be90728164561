/-
  Layer 8: the walk of StackPuts.
-/
import Derived.Test.YtocbkcofmebfmaaLkX
namespace Go.Proofs.Ytocbkcofmebfmaa
open Go.RowKit

section
variable {Inv : World → Prop}
theorem put_zero1 {q : Int} (h : okF q) : putN q 0 1 = 0 := by
  obtain ⟨i, rfl⟩ := fin_of h
  exact put_one i 0
set_option maxRecDepth 100000 in
set_option maxHeartbeats 32000000 in
theorem stackPuts_go (H : StackC Inv) (now : Int) (A : Option Addr) (l : List Int) (n c : Nat) (hn : l.length = n) (m : Int) (hm : inK m) (now2 : Int) (A2 : Option Addr) (l2 : List Int) (n2 c2 : Nat) (hn2 : l2.length = n2) (w : World) (hr : Rd w A (is_ l)) (hr2 : Rd w A2 (is_ l2)) (hv : Inv w) :
    Calls Try.prog 7 #[.agg #[.int .i64 now, .slice A n c], .int .i64 m, .agg #[.int .i64 now2, .slice A2 n2 c2]] w fun e w' => e = .returned (.bool true) ∧ Below w.heap.size w w' := by
  obtain ⟨s, hs⟩ : ∃ s, flagsS now l = s := ⟨_, rfl⟩
  have hok : okS s := by rw [← hs]; exact ok_flags now l
  obtain ⟨t, ht⟩ : ∃ s, flagsS now2 l2 = s := ⟨_, rfl⟩
  have hokt : okS t := by rw [← ht]; exact ok_flags now2 l2
  obtain ⟨F, hF⟩ : ∃ F, s.now = F := ⟨_, rfl⟩
  obtain ⟨k, hk⟩ : ∃ k, s.kept.length = k := ⟨_, rfl⟩
  have hk8 : k ≤ 8 := by rw [← hk]; exact hok.2.2
  obtain ⟨F2, hF2⟩ : ∃ F, t.now = F := ⟨_, rfl⟩
  obtain ⟨k2, hk2⟩ : ∃ k, t.kept.length = k := ⟨_, rfl⟩
  have hk28 : k2 ≤ 8 := by rw [← hk2]; exact hokt.2.2
  obtain ⟨G, hG⟩ : ∃ g, flg m = g := ⟨_, rfl⟩
  have hGo : okF G := by rw [← hG]; exact flg_rng m
  have hFo : okF F := by rw [← hF]; exact hok.1
  obtain ⟨bo, hbo⟩ : ∃ y, bothN F G = y := ⟨_, rfl⟩
  obtain ⟨fi, hfi⟩ := fin_of hFo
  obtain ⟨gi, hgi⟩ := fin_of hGo
  have hbr : 0 ≤ bo ∧ bo < 32 := by rw [← hbo, hfi, hgi]; exact both_rng fi gi
  have e2 : putN F G 2 = F + G - bo := by rw [← hbo, hfi, hgi]; exact put_two fi gi
  have e3 : putN (F + G - bo) G 3 = F - bo := by rw [← e2, ← hbo, hfi, hgi]; exact put_three fi gi
  obtain ⟨FG, hFG⟩ : ∃ y, F + G = y := ⟨_, rfl⟩
  obtain ⟨na, hna⟩ : ∃ y, FG - bo = y := ⟨_, rfl⟩
  obtain ⟨nb, hnb⟩ : ∃ y, F - bo = y := ⟨_, rfl⟩
  rw [hFG, hna] at e2 e3
  rw [hnb] at e3
  have f0 := hFo.1
  have f1 := hFo.2
  have g0 := hGo.1
  have g1 := hGo.2
  have hw1 : IntKind.i64.wrap (F + G) = FG := by rw [IntKind.wrap_i64, hFG]; go_num
  have hw2 : IntKind.i64.wrap (FG - bo) = na := by rw [IntKind.wrap_i64, hna]; go_num
  have hw3 : IntKind.i64.wrap (F - bo) = nb := by rw [IntKind.wrap_i64, hnb]; go_num
  obtain ⟨xa, hxa⟩ : ∃ x, putS s m 2 = x := ⟨_, rfl⟩
  have hoa : okS xa := by rw [← hxa]; exact ok_put hok m 2
  have hxa' : xa = ⟨na, s.kept⟩ := by rw [← hxa]; simp [putS, hF, hG, e2]
  have hna1 : xa.now = na := by rw [hxa']
  have hka : xa.kept.length = k := by rw [hxa']; exact hk
  obtain ⟨xb, hxb⟩ : ∃ x, putS xa m 3 = x := ⟨_, rfl⟩
  have hxb' : xb = ⟨nb, s.kept⟩ := by rw [← hxb, hxa']; simp [putS, hG, e3]
  have hnb1 : xb.now = nb := by rw [hxb']
  have hkb : xb.kept.length = k := by rw [hxb']; exact hk
  have hxc : putS s m 4 = s := by simp [putS]
  obtain ⟨z, hz⟩ : ∃ z : St, z = ⟨0, s.kept⟩ := ⟨_, rfl⟩
  have hfl0 : flg 0 = 0 := by decide
  have hzs : putS s 0 1 = z := by
    rw [hz]
    simp [putS, hfl0, put_zero1 hok.1]
  have hza : putS xa 0 1 = z := by
    rw [hz]
    simp [putS, hfl0, put_zero1 hoa.1]
    rw [hxa']
  have hnz : z.now = 0 := by rw [hz]
  have hkz : z.kept.length = k := by rw [hz]; exact hk
  obtain ⟨v, hsv⟩ : ∃ v, sameS s t = v := ⟨_, rfl⟩
  have HFG : Hid (∀ S W, (∀ k, S k → k < W.heap.size) → Rd W A (is_ l) → Calls Try.prog 10 #[.agg #[.int .i64 now, .slice A n c]] W (StkA S s F k W)) := Lib.hid fun S W hS hR => (flags_any now A l n c W hS hn hR).mono fun _ _ => StkE.at_ hs hF hk
  have HFG2 : Hid (∀ S W, (∀ k, S k → k < W.heap.size) → Rd W A2 (is_ l2) → Calls Try.prog 10 #[.agg #[.int .i64 now2, .slice A2 n2 c2]] W (StkA S t F2 k2 W)) := Lib.hid fun S W hS hR => (flags_any now2 A2 l2 n2 c2 W hS hn2 hR).mono fun _ _ => StkE.at_ ht hF2 hk2
  have HFL : Hid (∀ W, Calls Try.prog 19 #[.int .i64 m] W fun e w' => e = .returned (.int .i64 G) ∧ Below W.heap.size W w') := Lib.hid fun W => by
    have := rflags_any m W
    rwa [hG] at this
  have HBO : Hid (∀ W, Calls Try.prog 21 #[.int .i64 F, .int .i64 G] W fun e w' => e = .returned (.int .i64 bo) ∧ Below W.heap.size W w') := Lib.hid fun W => by
    have := both_any F G hFo hGo W
    rwa [hbo] at this
  have HOK := Lib.hid hok
  have HF := Lib.hid hF
  have HK := Lib.hid hk
  have HF2 := Lib.hid hF2
  have HK2 := Lib.hid hk2
  have HXA := Lib.hid hxa
  have HOA := Lib.hid hoa
  have HNA := Lib.hid hna1
  have HKA := Lib.hid hka
  have HXB := Lib.hid hxb
  have HNB := Lib.hid hnb1
  have HKB := Lib.hid hkb
  have HXC := Lib.hid hxc
  have HZS := Lib.hid hzs
  have HZA := Lib.hid hza
  have HNZ := Lib.hid hnz
  have HKZ := Lib.hid hkz
  have HSV := Lib.hid hsv
  have HM := Lib.hid hm
  clear hs ht hok hokt hF hk hF2 hk2 hG hGo hFo hbo hfi hgi e2 e3 hFG hna hnb hxa hoa hxa' hna1 hka hxb hxb' hnb1 hkb hxc hz hfl0 hzs hza hnz hkz hsv hm hn hn2 fi gi hbr f0 f1 g0 g1
  have k0a := Blk.new w 24 #[.int .i64 now, .slice A n c]
  have k0 := k0a.alloc (.cells #[.int .i64 now2, .slice A2 n2 c2] 24)
  have k1 := Blk.new (w.alloc (.cells #[.int .i64 now, .slice A n c] 24)) 24 #[.int .i64 now2, .slice A2 n2 c2]
  simp only [World.size_alloc] at k1
  have hbe0 : Below w.heap.size w (w.alloc (.cells #[.int .i64 now, .slice A n c] 24)) := (Below.refl _ w).alloc (Nat.le_refl _) _
  have hbe := hbe0.alloc hbe0.size (.cells #[.int .i64 now2, .slice A2 n2 c2] 24)
  have hi := H.invB hv hbe
  clear k0a hbe0
  go_enter Try.func7, Try.ntmps7
  go_wp2_with fail
  refine (stackAwake H _ hi).mono ?_
  rintro e w1 ⟨rfl, hb1⟩
  have hbe1 := below_step8 hbe hb1 hbe.size
  have q3 := k0.below hb1 k0.lt
  have q5 := k1.below hb1 k1.lt
  obtain ⟨g5, hg5⟩ : ∃ g, w.heap.size + 1 = g := ⟨_, rfl⟩
  have hge : w.heap.size ≤ g5 := by omega
  have hne : g5 ≠ w.heap.size := by omega
  rw [hg5] at q5 ⊢
  have e0 := q3.cell 0
  have e1 := q3.cell 1
  have hr1 := hr.below hbe1
  clear k0 k1 hbe hb1 hi hg5
  go_wp2_with fail
  refine (HFG.out (fun j => j = w.heap.size ∨ j = g5) _ (fun j hj => by rcases hj with rfl | rfl; exact q3.lt; exact q5.lt) hr1).mono ?_
  rintro e w2 ⟨B, d, rfl, hkd, hrB, hb2⟩
  have q3b := q3.below hb2 q3.lt
  have q5b := q5.below hb2 q5.lt
  have hbe2 := below_step8 hbe1 hb2 hbe1.size
  have z0 := q3b.frozen 0
  have z1 := q3b.frozen 1
  have y0 := q3b.cell 0
  have y1 := q3b.cell 1
  have hf3 : Fr w2 ((w2.setCell ⟨w.heap.size, 0, none⟩ (.int .i64 F)).setCell ⟨w.heap.size, 1, none⟩ (.slice B k d)) (fun j => j = w.heap.size) := (Fr.setCell w2 w.heap.size 0 (.int .i64 F) (fun j => j = w.heap.size) rfl).trans (Fr.setCell _ w.heap.size 1 (.slice B k d) (fun j => j = w.heap.size) rfl) (fun _ h => .inl h)
  have q3c : Blk ((w2.setCell ⟨w.heap.size, 0, none⟩ (.int .i64 F)).setCell ⟨w.heap.size, 1, none⟩ (.slice B k d)) w.heap.size 24 #[.int .i64 F, .slice B k d] := (q3b.set 0 (.int .i64 F)).set 1 (.slice B k d)
  have q5c := q5b.fr hf3 hne
  have hbe3 := (hbe2.setCell (p := ⟨w.heap.size, 0, none⟩) (Nat.le_refl _) (.int .i64 F)).setCell (p := ⟨w.heap.size, 1, none⟩) (Nat.le_refl _) (.slice B k d)
  have hrB3 := (hrB.set (g := w.heap.size) (.inl rfl) 0 (.int .i64 F)).set (g := w.heap.size) (.inl rfl) 1 (.slice B k d)
  have f0 := q5c.cell 0
  have f1 := q5c.cell 1
  have f0' : (w2.setCell ⟨w.heap.size, 0, none⟩ (.int .i64 F)).cell? ⟨w.heap.size, 0, none⟩ = some (.int .i64 F) := (q3b.set 0 (.int .i64 F)).cell 0
  have hr3 := hr2.below hbe3
  clear HFG q3 q5 e0 e1 hr1 hbe1 hb2 q3b q5b hbe2 hrB hf3
  go_wp2_with fail
  refine (HFG2.out (fun j => j = w.heap.size ∨ j = g5) _ (fun j hj => by rcases hj with rfl | rfl; exact q3c.lt; exact q5c.lt) hr3).mono ?_
  rintro e w3 ⟨B2, d2, rfl, hkd2, hrW, hb3⟩
  clear z0 z1 y0 y1 f0 f1 f0'
  have q3b := q3c.below hb3 q3c.lt
  have q5b := q5c.below hb3 q5c.lt
  have hbe2 := below_step8 hbe3 hb3 hbe3.size
  have hrB4 := hrB3.fr (Fr.of_below hb3 _) (Wid.refl _ _)
  have z0 := q5b.frozen 0
  have z1 := q5b.frozen 1
  have y0 := q5b.cell 0
  have y1 := q5b.cell 1
  have hf3 : Fr w3 ((w3.setCell ⟨g5, 0, none⟩ (.int .i64 F2)).setCell ⟨g5, 1, none⟩ (.slice B2 k2 d2)) (fun j => j = g5) := (Fr.setCell w3 g5 0 (.int .i64 F2) (fun j => j = g5) rfl).trans (Fr.setCell _ g5 1 (.slice B2 k2 d2) (fun j => j = g5) rfl) (fun _ h => .inl h)
  have q5e : Blk ((w3.setCell ⟨g5, 0, none⟩ (.int .i64 F2)).setCell ⟨g5, 1, none⟩ (.slice B2 k2 d2)) g5 24 #[.int .i64 F2, .slice B2 k2 d2] := (q5b.set 0 (.int .i64 F2)).set 1 (.slice B2 k2 d2)
  have q3e := q3b.fr hf3 hne.symm
  have hbe4 := (hbe2.setCell (p := ⟨g5, 0, none⟩) hge (.int .i64 F2)).setCell (p := ⟨g5, 1, none⟩) hge (.slice B2 k2 d2)
  have hrB5 := ((hrB4.set (g := g5) (.inr rfl) 0 (.int .i64 F2)).set (g := g5) (.inr rfl) 1 (.slice B2 k2 d2)).rd
  have hrW5 := ((hrW.set (g := g5) (.inr rfl) 0 (.int .i64 F2)).set (g := g5) (.inr rfl) 1 (.slice B2 k2 d2)).rd
  have f0 := q3e.cell 0
  have f1 := q3e.cell 1
  have f0' : (w3.setCell ⟨g5, 0, none⟩ (.int .i64 F2)).cell? ⟨g5, 0, none⟩ = some (.int .i64 F2) := (q5b.set 0 (.int .i64 F2)).cell 0
  clear HFG2 q3c q5c hr3 hbe3 hb3 q3b q5b hbe2 hrW hf3 hrB3 hrB4
  go_wp2_with fail
  refine (made_any F B k d _).mono ?_
  rintro e w4 ⟨rfl, hb4⟩
  have b3a := (q3e.below hb4 q3e.lt).alloc (.cells #[.int .i64 F, .slice B k d] 27)
  have b5a := (q5e.below hb4 q5e.lt).alloc (.cells #[.int .i64 F, .slice B k d] 27)
  have rBa := (hrB5.below hb4).alloc (.cells #[.int .i64 F, .slice B k d] 27)
  have rWa := (hrW5.below hb4).alloc (.cells #[.int .i64 F, .slice B k d] 27)
  have hbea := (below_step8 hbe4 hb4 hbe4.size).alloc (below_step8 hbe4 hb4 hbe4.size).size (.cells #[.int .i64 F, .slice B k d] 27)
  have b8a := Blk.new w4 27 #[.int .i64 F, .slice B k d]
  clear z0 z1 y0 y1 f0 f0' f1 q3e q5e hrB5 hrW5 hbe4 hb4
  go_wp2_with fail
  refine (HFL.out _).mono ?_
  rintro e w5 ⟨rfl, hb5⟩
  have b3b := (b3a.below hb5 b3a.lt)
  have b5b := (b5a.below hb5 b5a.lt)
  have b8b := (b8a.below hb5 b8a.lt)
  have rBb := (rBa.below hb5)
  have rWb := (rWa.below hb5)
  have hbeb := below_step8 hbea hb5 hbea.size
  have d0 := b8b.cell 0
  have d1 := b8b.cell 1
  have hi6 := H.invB hv hbeb
  have HP1 := Lib.hid (H.put_at _ hi6 (no_set _) HOK.out HK.out hkd HM.out (how := 2) ⟨by decide, by decide⟩ (rd_off rBb) HF.out HXA.out HNA.out HKA.out)
  clear b3a b5a b8a rBa rWa hbea hb5 hi6
  go_wp2_with fail
  refine HP1.out.mono ?_
  rintro e w6 ⟨A3, c3, rfl, hc3, hr6, hb6⟩
  have b3c := (b3b.below hb6 b3b.lt).alloc (.cells #[.int .i64 na, .slice A3 k c3] 27)
  have b5c := (b5b.below hb6 b5b.lt).alloc (.cells #[.int .i64 na, .slice A3 k c3] 27)
  have b8c := (b8b.below hb6 b8b.lt).alloc (.cells #[.int .i64 na, .slice A3 k c3] 27)
  have rBc := (rBb.below hb6).alloc (.cells #[.int .i64 na, .slice A3 k c3] 27)
  have rWc := (rWb.below hb6).alloc (.cells #[.int .i64 na, .slice A3 k c3] 27)
  have hbec := (below_step8 hbeb hb6 hbeb.size).alloc (below_step8 hbeb hb6 hbeb.size).size (.cells #[.int .i64 na, .slice A3 k c3] 27)
  have b10c := Blk.new w6 27 #[.int .i64 na, .slice A3 k c3]
  have rAc := hr6.rd.alloc (.cells #[.int .i64 na, .slice A3 k c3] 27)
  clear d0 d1 HP1 hr6 b3b b5b b8b rBb rWb hbeb hb6
  have d0 := b10c.cell 0
  have d1 := b10c.cell 1
  have hi7 := H.invB hv hbec
  have HP2 := Lib.hid (H.put_at _ hi7 (no_set _) HOA.out HKA.out hc3 HM.out (how := 3) ⟨by decide, by decide⟩ (rd_off rAc) HNA.out HXB.out HNB.out HKB.out)
  clear hi7
  go_wp2_with fail
  refine HP2.out.mono ?_
  rintro e w7 ⟨A4, c4, rfl, hc4, hr7, hb7⟩
  have b3d := (b3c.below hb7 b3c.lt).alloc (.cells #[.int .i64 nb, .slice A4 k c4] 27)
  have b5d := (b5c.below hb7 b5c.lt).alloc (.cells #[.int .i64 nb, .slice A4 k c4] 27)
  have b8d := (b8c.below hb7 b8c.lt).alloc (.cells #[.int .i64 nb, .slice A4 k c4] 27)
  have b10d := (b10c.below hb7 b10c.lt).alloc (.cells #[.int .i64 nb, .slice A4 k c4] 27)
  have rBd := (rBc.below hb7).alloc (.cells #[.int .i64 nb, .slice A4 k c4] 27)
  have rWd := (rWc.below hb7).alloc (.cells #[.int .i64 nb, .slice A4 k c4] 27)
  have rAd := (rAc.below hb7).alloc (.cells #[.int .i64 nb, .slice A4 k c4] 27)
  have hbed := (below_step8 hbec hb7 hbec.size).alloc (below_step8 hbec hb7 hbec.size).size (.cells #[.int .i64 nb, .slice A4 k c4] 27)
  have b11d := Blk.new w7 27 #[.int .i64 nb, .slice A4 k c4]
  clear d0 d1 HP2 hr7 hc4 b3c b5c b8c b10c rBc rWc rAc hbec hb7
  have d0 := b8d.cell 0
  have d1 := b8d.cell 1
  have hi8 := H.invB hv hbed
  have HP3 := Lib.hid (H.put_at _ hi8 (no_set _) HOK.out HK.out hkd HM.out (how := 4) ⟨by decide, by decide⟩ (rd_off rBd) HF.out HXC.out HF.out HK.out)
  clear hi8
  go_wp2_with fail
  refine HP3.out.mono ?_
  rintro e w8 ⟨A5, c5, rfl, hc5, hr8, hb8⟩
  have b3e := (b3d.below hb8 b3d.lt).alloc (.cells #[.int .i64 F, .slice A5 k c5] 27)
  have b5e := (b5d.below hb8 b5d.lt).alloc (.cells #[.int .i64 F, .slice A5 k c5] 27)
  have b8e := (b8d.below hb8 b8d.lt).alloc (.cells #[.int .i64 F, .slice A5 k c5] 27)
  have b10e := (b10d.below hb8 b10d.lt).alloc (.cells #[.int .i64 F, .slice A5 k c5] 27)
  have b11e := (b11d.below hb8 b11d.lt).alloc (.cells #[.int .i64 F, .slice A5 k c5] 27)
  have rBe := (rBd.below hb8).alloc (.cells #[.int .i64 F, .slice A5 k c5] 27)
  have rWe := (rWd.below hb8).alloc (.cells #[.int .i64 F, .slice A5 k c5] 27)
  have rAe := (rAd.below hb8).alloc (.cells #[.int .i64 F, .slice A5 k c5] 27)
  have hbee := (below_step8 hbed hb8 hbed.size).alloc (below_step8 hbed hb8 hbed.size).size (.cells #[.int .i64 F, .slice A5 k c5] 27)
  have b12e := Blk.new w8 27 #[.int .i64 F, .slice A5 k c5]
  have rCe := hr8.rd.alloc (.cells #[.int .i64 F, .slice A5 k c5] 27)
  clear d0 d1 HP3 hr8 hc5 b3d b5d b8d b10d b11d rBd rWd rAd hbed hb8
  go_wp2_with fail
  obtain ⟨g8, hg8⟩ : ∃ g, w4.heap.size = g := ⟨_, rfl⟩
  rw [hg8] at b8e
  obtain ⟨g10, hg10⟩ : ∃ g, w6.heap.size = g := ⟨_, rfl⟩
  rw [hg10] at b10e
  obtain ⟨g11, hg11⟩ : ∃ g, w7.heap.size = g := ⟨_, rfl⟩
  rw [hg11] at b11e
  obtain ⟨g12, hg12⟩ : ∃ g, w8.heap.size = g := ⟨_, rfl⟩
  rw [hg12] at b12e
  rw [hg8, hg10, hg11, hg12]
  obtain ⟨w9, hw9⟩ : ∃ x, w8.alloc (.cells #[.int .i64 F, .slice A5 k c5] 27) = x := ⟨_, rfl⟩
  rw [hw9] at b3e b5e b8e b10e b11e b12e rBe rWe rAe rCe hbee ⊢
  clear hw9 hg8 hg10 hg11 hg12
  have HV : Hid (∀ W, Below w9.heap.size w9 W → Inv W) := Lib.hid fun W hb => H.invB hv (below_step8 hbee hb hbee.size)
  have HRB : Hid (∀ W, Below w9.heap.size w9 W → Rd W B (is_ s.kept)) := Lib.hid fun W hb => rBe.below hb
  have HRW : Hid (∀ W, Below w9.heap.size w9 W → Rd W B2 (is_ t.kept)) := Lib.hid fun W hb => rWe.below hb
  have HRA : Hid (∀ W, Below w9.heap.size w9 W → Rd W A3 (is_ xa.kept)) := Lib.hid fun W hb => rAe.below hb
  have HRC : Hid (∀ W, Below w9.heap.size w9 W → Rd W A5 (is_ s.kept)) := Lib.hid fun W hb => rCe.below hb
  have l3 : ∀ W, Below w9.heap.size w9 W → Blk W w.heap.size 24 #[.int .i64 F, .slice B k d] := fun W h => b3e.below h b3e.lt
  have l5 : ∀ W, Below w9.heap.size w9 W → Blk W g5 24 #[.int .i64 F2, .slice B2 k2 d2] := fun W h => b5e.below h b5e.lt
  have l8 : ∀ W, Below w9.heap.size w9 W → Blk W g8 27 #[.int .i64 F, .slice B k d] := fun W h => b8e.below h b8e.lt
  have l10 : ∀ W, Below w9.heap.size w9 W → Blk W g10 27 #[.int .i64 na, .slice A3 k c3] := fun W h => b10e.below h b10e.lt
  have l12 : ∀ W, Below w9.heap.size w9 W → Blk W g12 27 #[.int .i64 F, .slice A5 k c5] := fun W h => b12e.below h b12e.lt
  have ls : ∀ W, Below w9.heap.size w9 W → W.cell? ⟨g8, 0, none⟩ = some (.int .i64 F) := fun W h => (b8e.below h b8e.lt).cell 0
  have la : ∀ W, Below w9.heap.size w9 W → W.cell? ⟨g10, 0, none⟩ = some (.int .i64 na) := fun W h => (b10e.below h b10e.lt).cell 0
  have lb : ∀ W, Below w9.heap.size w9 W → W.cell? ⟨g11, 0, none⟩ = some (.int .i64 nb) := fun W h => (b11e.below h b11e.lt).cell 0
  have HS1 : Hid (∀ W, Rd W A5 (is_ s.kept) → Rd W B (is_ s.kept) → Calls Try.prog 12 #[.agg #[.int .i64 F, .slice A5 k c5], .agg #[.int .i64 F, .slice B k d]] W fun e w' => e = .returned (.bool true) ∧ Below W.heap.size W w') := Lib.hid fun W r1 r2 => lsame_any s s F F A5 B k k c5 d true W HK.out HK.out (by omega) (by omega) r1 r2 HF.out HF.out (sameS_self s)
  have HS2 : Hid (∀ W, Inv W → Rd W B (is_ s.kept) → Rd W B2 (is_ t.kept) → Calls Try.prog 20 #[.agg #[.int .i64 F, .slice B k d], .agg #[.int .i64 F2, .slice B2 k2 d2]] W fun e w' => e = .returned (.bool v) ∧ Below W.heap.size W w') := Lib.hid fun W hW r1 r2 => H.same_at W hW HK.out HK2.out (by omega) (by omega) r1 r2 HF.out HF2.out HSV.out
  have HS3 : Hid (∀ W, Rd W B (is_ s.kept) → Rd W B2 (is_ t.kept) → Calls Try.prog 22 #[.agg #[.int .i64 F, .slice B k d], .agg #[.int .i64 F2, .slice B2 k2 d2]] W fun e w' => e = .returned (.bool v) ∧ Below W.heap.size W w') := Lib.hid fun W r1 r2 => by
    have h := rsame8_any s t B B2 k k2 d d2 HK.out HK2.out (by omega) (by omega) W r1 r2
    rw [HF.out, HF2.out, HSV.out, stV, stV] at h
    exact h
  have HPA : Hid (∀ W, Inv W → Rd W A3 (is_ xa.kept) → Calls Try.prog 17 #[.agg #[.int .i64 na, .slice A3 k c3], .int .i64 0, .int .i64 1] W fun e w' => ∃ v, e = .returned v ∧ FS z 0 k v w' ∧ Below W.heap.size W w') := Lib.hid fun W hW r1 => (H.put_at W hW (no_set W) HOA.out HKA.out hc3 (f := 0) ⟨by decide, by decide⟩ (how := 1) ⟨by decide, by decide⟩ (rd_off r1) HNA.out HZA.out HNZ.out HKZ.out).mono fun _ _ => fs_of
  have HPS : Hid (∀ W, Inv W → Rd W B (is_ s.kept) → Calls Try.prog 17 #[.agg #[.int .i64 F, .slice B k d], .int .i64 0, .int .i64 1] W fun e w' => ∃ v, e = .returned v ∧ FS z 0 k v w' ∧ Below W.heap.size W w') := Lib.hid fun W hW r1 => (H.put_at W hW (no_set W) HOK.out HK.out hkd (f := 0) ⟨by decide, by decide⟩ (how := 1) ⟨by decide, by decide⟩ (rd_off r1) HF.out HZS.out HNZ.out HKZ.out).mono fun _ _ => fs_of
  have HSF : Hid (∀ W, Inv W → ∀ A8 A9 c8 c9, Rd W A8 (is_ z.kept) → Rd W A9 (is_ z.kept) → Calls Try.prog 20 #[.agg #[.int .i64 0, .slice A8 k c8], .agg #[.int .i64 0, .slice A9 k c9]] W fun e w' => e = .returned (.bool true) ∧ Below W.heap.size W w') := Lib.hid fun W hW A8 A9 c8 c9 r1 r2 => H.same_at W hW HKZ.out HKZ.out (by omega) (by omega) r1 r2 HNZ.out HNZ.out (sameS_self z)
  have hst : ∀ f ∈ ([⟨44, 75, FS z 0 k⟩, ⟨46, 77, FS z 0 k⟩] : List Fact), f.ok := all_ok fun q f hq => by
    match q, hq with
    | 0, hq => obtain rfl := Option.some.inj hq; exact fun _ _ _ h hb => h.below hb
    | 1, hq => obtain rfl := Option.some.inj hq; exact fun _ _ _ h hb => h.below hb
    | q + 2, hq => simp at hq
  clear b3e b5e b8e b10e b11e b12e rBe rWe rAe rCe
  refine wp_region_told (w1 := w9) (K := [⟨44, 75, FS z 0 k⟩, ⟨46, 77, FS z 0 k⟩]) (ix := 1000) (R0 := fun _ _ _ => True) (R1 := fun _ _ _ => True) [75, 77] (⟨#[.agg #[.int .i64 now, .slice A n c], .int .i64 m, .agg #[.int .i64 now2, .slice A2 n2 c2], .pointer (some ⟨w.heap.size, 0, none⟩), undef, .pointer (some ⟨g5, 0, none⟩), .bool true, .bool true, .pointer (some ⟨g8, 0, none⟩), .int .i64 G, .pointer (some ⟨g10, 0, none⟩), .pointer (some ⟨g11, 0, none⟩), .pointer (some ⟨g12, 0, none⟩), .bool true, .agg #[.int .i64 now, .slice A n c], .agg #[.int .i64 F, .slice B k d], .agg #[.int .i64 now2, .slice A2 n2 c2], .agg #[.int .i64 F2, .slice B2 k2 d2], .agg #[.int .i64 F, .slice B k d], .agg #[.int .i64 F, .slice B k d], .int .i64 m, .int .i64 G, .agg #[.int .i64 F, .slice B k d], .int .i64 m, .agg #[.int .i64 na, .slice A3 k c3], .agg #[.int .i64 na, .slice A3 k c3], .int .i64 m, .agg #[.int .i64 nb, .slice A4 k c4], .agg #[.int .i64 F, .slice B k d], .int .i64 m, .agg #[.int .i64 F, .slice A5 k c5], .bool true, .bool true, .pointer (some ⟨g10, 0, none⟩), .int .i64 na, .pointer (some ⟨g8, 0, none⟩), .int .i64 F, .int .i64 G, .int .i64 FG, .pointer (some ⟨g8, 0, none⟩), .int .i64 F, .int .i64 G, .int .i64 bo, .int .i64 na, .bool true, .bool true, .bool true, .pointer (some ⟨g11, 0, none⟩), .int .i64 nb, .pointer (some ⟨g8, 0, none⟩), .int .i64 F, .pointer (some ⟨g8, 0, none⟩), .int .i64 F, .int .i64 G, .int .i64 bo, .int .i64 nb, .bool true, .bool true, .bool true, .agg #[.int .i64 F, .slice A5 k c5], .agg #[.int .i64 F, .slice B k d], .bool true, .bool true, .bool true, .agg #[.int .i64 F, .slice B k d], .agg #[.int .i64 F2, .slice B2 k2 d2], .agg #[.int .i64 F2, .slice B2 k2 d2], .bool v, .agg #[.int .i64 F, .slice B k d], .agg #[.int .i64 F2, .slice B2 k2 d2], .bool v, .bool true, .bool true, .bool true, .agg #[.int .i64 na, .slice A3 k c3], undef, .agg #[.int .i64 F, .slice B k d], undef, .bool true, .bool true], []⟩) (fun g => ⟨#[.agg #[.int .i64 now, .slice A n c], .int .i64 m, .agg #[.int .i64 now2, .slice A2 n2 c2], .pointer (some ⟨w.heap.size, 0, none⟩), undef, .pointer (some ⟨g5, 0, none⟩), .bool true, .bool true, .pointer (some ⟨g8, 0, none⟩), .int .i64 G, .pointer (some ⟨g10, 0, none⟩), .pointer (some ⟨g11, 0, none⟩), .pointer (some ⟨g12, 0, none⟩), .bool true, .agg #[.int .i64 now, .slice A n c], .agg #[.int .i64 F, .slice B k d], .agg #[.int .i64 now2, .slice A2 n2 c2], .agg #[.int .i64 F2, .slice B2 k2 d2], .agg #[.int .i64 F, .slice B k d], .agg #[.int .i64 F, .slice B k d], .int .i64 m, .int .i64 G, .agg #[.int .i64 F, .slice B k d], .int .i64 m, .agg #[.int .i64 na, .slice A3 k c3], .agg #[.int .i64 na, .slice A3 k c3], .int .i64 m, .agg #[.int .i64 nb, .slice A4 k c4], .agg #[.int .i64 F, .slice B k d], .int .i64 m, .agg #[.int .i64 F, .slice A5 k c5], .bool true, .bool true, .pointer (some ⟨g10, 0, none⟩), .int .i64 na, .pointer (some ⟨g8, 0, none⟩), .int .i64 F, .int .i64 G, .int .i64 FG, .pointer (some ⟨g8, 0, none⟩), .int .i64 F, .int .i64 G, .int .i64 bo, .int .i64 na, .bool true, .bool true, .bool true, .pointer (some ⟨g11, 0, none⟩), .int .i64 nb, .pointer (some ⟨g8, 0, none⟩), .int .i64 F, .pointer (some ⟨g8, 0, none⟩), .int .i64 F, .int .i64 G, .int .i64 bo, .int .i64 nb, .bool true, .bool true, .bool true, .agg #[.int .i64 F, .slice A5 k c5], .agg #[.int .i64 F, .slice B k d], .bool true, .bool true, .bool true, .agg #[.int .i64 F, .slice B k d], .agg #[.int .i64 F2, .slice B2 k2 d2], .agg #[.int .i64 F2, .slice B2 k2 d2], .bool v, .agg #[.int .i64 F, .slice B k d], .agg #[.int .i64 F2, .slice B2 k2 d2], .bool v, .bool true, .bool true, .bool true, .agg #[.int .i64 na, .slice A3 k c3], (g 75), .agg #[.int .i64 F, .slice B k d], (g 77), .bool true, .bool true], []⟩) [.bool true, .bool true, .pointer (some ⟨g10, 0, none⟩), .int .i64 na, .pointer (some ⟨g8, 0, none⟩), .int .i64 F, .int .i64 G, .int .i64 FG, .pointer (some ⟨g8, 0, none⟩), .int .i64 F, .int .i64 G, .int .i64 bo, .int .i64 na, .bool true, .bool true, .bool true, .pointer (some ⟨g11, 0, none⟩), .int .i64 nb, .pointer (some ⟨g8, 0, none⟩), .int .i64 F, .pointer (some ⟨g8, 0, none⟩), .int .i64 F, .int .i64 G, .int .i64 bo, .int .i64 nb, .bool true, .bool true, .bool true, .agg #[.int .i64 F, .slice A5 k c5], .agg #[.int .i64 F, .slice B k d], .bool true, .bool true, .bool true, .agg #[.int .i64 F, .slice B k d], .agg #[.int .i64 F2, .slice B2 k2 d2], .agg #[.int .i64 F2, .slice B2 k2 d2], .bool v, .agg #[.int .i64 F, .slice B k d], .agg #[.int .i64 F2, .slice B2 k2 d2], .bool v, .bool true, .bool true, .bool true, .agg #[.int .i64 na, .slice A3 k c3], undef, .agg #[.int .i64 F, .slice B k d], undef, .bool true, .bool true, .bool true] (by kernel_rfl) (by kernel_rfl) (by kernel_rfl) (fun g => by kernel_rfl) (by kernel_rfl) (Below.refl _ _).drew (by decide) (by kernel_rfl)
    (goes_cons (goesK_pure (fun _ => .bool true) rfl (by decide) (by decide) (by kernel_rfl) (fun g => by kernel_rfl) rfl (fun g => by kernel_rfl) (fun g w => by kernel_rfl)) 
    (goes_cons (goesK_pure (fun _ => .bool true) rfl (by decide) (by decide) (by kernel_rfl) (fun g => by kernel_rfl) rfl (fun g => by kernel_rfl) (fun g w => by kernel_rfl)) 
    (goes_cons (goesK_pure (fun _ => .pointer (some ⟨g10, 0, none⟩)) rfl (by decide) (by decide) (by kernel_rfl) (fun g => by kernel_rfl) rfl (fun g => by kernel_rfl) (fun g w => by kernel_rfl)) 
    (goes_cons (goesK_cell hst (ahead_none (by decide)) rfl (by decide) (by decide) (by kernel_rfl) (fun g => by kernel_rfl) rfl (fun g => by kernel_rfl) rfl (fun g => by kernel_rfl) la (fun w => by kernel_rfl)) 
    (goes_cons (goesK_pure (fun _ => .pointer (some ⟨g8, 0, none⟩)) rfl (by decide) (by decide) (by kernel_rfl) (fun g => by kernel_rfl) rfl (fun g => by kernel_rfl) (fun g w => by kernel_rfl)) 
    (goes_cons (goesK_cell hst (ahead_none (by decide)) rfl (by decide) (by decide) (by kernel_rfl) (fun g => by kernel_rfl) rfl (fun g => by kernel_rfl) rfl (fun g => by kernel_rfl) ls (fun w => by kernel_rfl)) 
    (goes_cons (goesK_pure (fun _ => .int .i64 G) rfl (by decide) (by decide) (by kernel_rfl) (fun g => by kernel_rfl) rfl (fun g => by kernel_rfl) (fun g w => by kernel_rfl)) 
    (goes_cons (goesK_bin (v := .int .i64 FG) (xv := .int .i64 F) (yv := .int .i64 G) rfl (by decide) (by decide) (by kernel_rfl) (fun g => by kernel_rfl) rfl (fun g => by kernel_rfl) rfl (fun g => by kernel_rfl) (fun g => by kernel_rfl) (fun w => by go_simp)) 
    (goes_cons (goesK_pure (fun _ => .pointer (some ⟨g8, 0, none⟩)) rfl (by decide) (by decide) (by kernel_rfl) (fun g => by kernel_rfl) rfl (fun g => by kernel_rfl) (fun g w => by kernel_rfl)) 
    (goes_cons (goesK_cell hst (ahead_none (by decide)) rfl (by decide) (by decide) (by kernel_rfl) (fun g => by kernel_rfl) rfl (fun g => by kernel_rfl) rfl (fun g => by kernel_rfl) ls (fun w => by kernel_rfl)) 
    (goes_cons (goesK_pure (fun _ => .int .i64 G) rfl (by decide) (by decide) (by kernel_rfl) (fun g => by kernel_rfl) rfl (fun g => by kernel_rfl) (fun g w => by kernel_rfl)) 
    (goes_cons (goesK_call (args := fun g => #[.int .i64 F, .int .i64 G]) hst (ahead_none (by decide)) rfl (by decide) (by decide) (by kernel_rfl) (fun g => by kernel_rfl) rfl (fun g => by kernel_rfl) (fun g w => by kernel_rfl) (fun g W hW hin => HBO.out W)) 
    (goes_cons (goesK_bin (v := .int .i64 na) (xv := .int .i64 FG) (yv := .int .i64 bo) rfl (by decide) (by decide) (by kernel_rfl) (fun g => by kernel_rfl) rfl (fun g => by kernel_rfl) rfl (fun g => by kernel_rfl) (fun g => by kernel_rfl) (fun w => by go_simp)) 
    (goes_cons (goesK_bin (v := .bool true) (xv := .int .i64 na) (yv := .int .i64 na) rfl (by decide) (by decide) (by kernel_rfl) (fun g => by kernel_rfl) rfl (fun g => by kernel_rfl) rfl (fun g => by kernel_rfl) (fun g => by kernel_rfl) (fun w => by go_simp)) 
    (goes_cons (goesK_pure (fun _ => .bool true) rfl (by decide) (by decide) (by kernel_rfl) (fun g => by kernel_rfl) rfl (fun g => by kernel_rfl) (fun g w => by kernel_rfl)) 
    (goes_cons (goesK_pure (fun _ => .bool true) rfl (by decide) (by decide) (by kernel_rfl) (fun g => by kernel_rfl) rfl (fun g => by kernel_rfl) (fun g w => by kernel_rfl)) 
    (goes_cons (goesK_pure (fun _ => .pointer (some ⟨g11, 0, none⟩)) rfl (by decide) (by decide) (by kernel_rfl) (fun g => by kernel_rfl) rfl (fun g => by kernel_rfl) (fun g w => by kernel_rfl)) 
    (goes_cons (goesK_cell hst (ahead_none (by decide)) rfl (by decide) (by decide) (by kernel_rfl) (fun g => by kernel_rfl) rfl (fun g => by kernel_rfl) rfl (fun g => by kernel_rfl) lb (fun w => by kernel_rfl)) 
    (goes_cons (goesK_pure (fun _ => .pointer (some ⟨g8, 0, none⟩)) rfl (by decide) (by decide) (by kernel_rfl) (fun g => by kernel_rfl) rfl (fun g => by kernel_rfl) (fun g w => by kernel_rfl)) 
    (goes_cons (goesK_cell hst (ahead_none (by decide)) rfl (by decide) (by decide) (by kernel_rfl) (fun g => by kernel_rfl) rfl (fun g => by kernel_rfl) rfl (fun g => by kernel_rfl) ls (fun w => by kernel_rfl)) 
    (goes_cons (goesK_pure (fun _ => .pointer (some ⟨g8, 0, none⟩)) rfl (by decide) (by decide) (by kernel_rfl) (fun g => by kernel_rfl) rfl (fun g => by kernel_rfl) (fun g w => by kernel_rfl)) 
    (goes_cons (goesK_cell hst (ahead_none (by decide)) rfl (by decide) (by decide) (by kernel_rfl) (fun g => by kernel_rfl) rfl (fun g => by kernel_rfl) rfl (fun g => by kernel_rfl) ls (fun w => by kernel_rfl)) 
    (goes_cons (goesK_pure (fun _ => .int .i64 G) rfl (by decide) (by decide) (by kernel_rfl) (fun g => by kernel_rfl) rfl (fun g => by kernel_rfl) (fun g w => by kernel_rfl)) 
    (goes_cons (goesK_call (args := fun g => #[.int .i64 F, .int .i64 G]) hst (ahead_none (by decide)) rfl (by decide) (by decide) (by kernel_rfl) (fun g => by kernel_rfl) rfl (fun g => by kernel_rfl) (fun g w => by kernel_rfl) (fun g W hW hin => HBO.out W)) 
    (goes_cons (goesK_bin (v := .int .i64 nb) (xv := .int .i64 F) (yv := .int .i64 bo) rfl (by decide) (by decide) (by kernel_rfl) (fun g => by kernel_rfl) rfl (fun g => by kernel_rfl) rfl (fun g => by kernel_rfl) (fun g => by kernel_rfl) (fun w => by go_simp)) 
    (goes_cons (goesK_bin (v := .bool true) (xv := .int .i64 nb) (yv := .int .i64 nb) rfl (by decide) (by decide) (by kernel_rfl) (fun g => by kernel_rfl) rfl (fun g => by kernel_rfl) rfl (fun g => by kernel_rfl) (fun g => by kernel_rfl) (fun w => by go_simp)) 
    (goes_cons (goesK_pure (fun _ => .bool true) rfl (by decide) (by decide) (by kernel_rfl) (fun g => by kernel_rfl) rfl (fun g => by kernel_rfl) (fun g w => by kernel_rfl)) 
    (goes_cons (goesK_pure (fun _ => .bool true) rfl (by decide) (by decide) (by kernel_rfl) (fun g => by kernel_rfl) rfl (fun g => by kernel_rfl) (fun g w => by kernel_rfl)) 
    (goes_cons (goesK_load hst (ahead_none (by decide)) rfl (by decide) (by decide) (by kernel_rfl) (fun g => by kernel_rfl) rfl (fun g => by kernel_rfl) rfl (fun g => by kernel_rfl) l12 Try.underlying27 rfl (by kernel_rfl)) 
    (goes_cons (goesK_load hst (ahead_none (by decide)) rfl (by decide) (by decide) (by kernel_rfl) (fun g => by kernel_rfl) rfl (fun g => by kernel_rfl) rfl (fun g => by kernel_rfl) l3 Try.underlying24 rfl (by kernel_rfl)) 
    (goes_cons (goesK_call (args := fun g => #[.agg #[.int .i64 F, .slice A5 k c5], .agg #[.int .i64 F, .slice B k d]]) hst (ahead_none (by decide)) rfl (by decide) (by decide) (by kernel_rfl) (fun g => by kernel_rfl) rfl (fun g => by kernel_rfl) (fun g w => by kernel_rfl) (fun g W hW hin => HS1.out W (HRC.out W hW) (HRB.out W hW))) 
    (goes_cons (goesK_pure (fun _ => .bool true) rfl (by decide) (by decide) (by kernel_rfl) (fun g => by kernel_rfl) rfl (fun g => by kernel_rfl) (fun g w => by kernel_rfl)) 
    (goes_cons (goesK_pure (fun _ => .bool true) rfl (by decide) (by decide) (by kernel_rfl) (fun g => by kernel_rfl) rfl (fun g => by kernel_rfl) (fun g w => by kernel_rfl)) 
    (goes_cons (goesK_load hst (ahead_none (by decide)) rfl (by decide) (by decide) (by kernel_rfl) (fun g => by kernel_rfl) rfl (fun g => by kernel_rfl) rfl (fun g => by kernel_rfl) l8 Try.underlying27 rfl (by kernel_rfl)) 
    (goes_cons (goesK_load hst (ahead_none (by decide)) rfl (by decide) (by decide) (by kernel_rfl) (fun g => by kernel_rfl) rfl (fun g => by kernel_rfl) rfl (fun g => by kernel_rfl) l5 Try.underlying24 rfl (by kernel_rfl)) 
    (goes_cons (goesK_call (args := fun g => #[.agg #[.int .i64 F2, .slice B2 k2 d2]]) hst (ahead_none (by decide)) rfl (by decide) (by decide) (by kernel_rfl) (fun g => by kernel_rfl) rfl (fun g => by kernel_rfl) (fun g w => by kernel_rfl) (fun g W hW hin => made_any F2 B2 k2 d2 W)) 
    (goes_cons (goesK_call (args := fun g => #[.agg #[.int .i64 F, .slice B k d], .agg #[.int .i64 F2, .slice B2 k2 d2]]) hst (ahead_none (by decide)) rfl (by decide) (by decide) (by kernel_rfl) (fun g => by kernel_rfl) rfl (fun g => by kernel_rfl) (fun g w => by kernel_rfl) (fun g W hW hin => HS2.out W (HV.out W hW) (HRB.out W hW) (HRW.out W hW))) 
    (goes_cons (goesK_load hst (ahead_none (by decide)) rfl (by decide) (by decide) (by kernel_rfl) (fun g => by kernel_rfl) rfl (fun g => by kernel_rfl) rfl (fun g => by kernel_rfl) l3 Try.underlying24 rfl (by kernel_rfl)) 
    (goes_cons (goesK_load hst (ahead_none (by decide)) rfl (by decide) (by decide) (by kernel_rfl) (fun g => by kernel_rfl) rfl (fun g => by kernel_rfl) rfl (fun g => by kernel_rfl) l5 Try.underlying24 rfl (by kernel_rfl)) 
    (goes_cons (goesK_call (args := fun g => #[.agg #[.int .i64 F, .slice B k d], .agg #[.int .i64 F2, .slice B2 k2 d2]]) hst (ahead_none (by decide)) rfl (by decide) (by decide) (by kernel_rfl) (fun g => by kernel_rfl) rfl (fun g => by kernel_rfl) (fun g w => by kernel_rfl) (fun g W hW hin => HS3.out W (HRB.out W hW) (HRW.out W hW))) 
    (goes_cons (goesK_bin (v := .bool true) (xv := .bool v) (yv := .bool v) rfl (by decide) (by decide) (by kernel_rfl) (fun g => by kernel_rfl) rfl (fun g => by kernel_rfl) rfl (fun g => by kernel_rfl) (fun g => by kernel_rfl) (fun w => by cases v <;> go_simp)) 
    (goes_cons (goesK_pure (fun _ => .bool true) rfl (by decide) (by decide) (by kernel_rfl) (fun g => by kernel_rfl) rfl (fun g => by kernel_rfl) (fun g w => by kernel_rfl)) 
    (goes_cons (goesK_pure (fun _ => .bool true) rfl (by decide) (by decide) (by kernel_rfl) (fun g => by kernel_rfl) rfl (fun g => by kernel_rfl) (fun g w => by kernel_rfl)) 
    (goes_cons (goesK_load hst (ahead_none (by decide)) rfl (by decide) (by decide) (by kernel_rfl) (fun g => by kernel_rfl) rfl (fun g => by kernel_rfl) rfl (fun g => by kernel_rfl) l10 Try.underlying27 rfl (by kernel_rfl)) 
    (goes_cons (goesK_ghost (args := fun g => #[.agg #[.int .i64 na, .slice A3 k c3], .int .i64 0, .int .i64 1]) hst (ahead_none (by decide)) rfl (by decide) (by decide) 0 rfl (by kernel_rfl) (fun g => by kernel_rfl) rfl (fun g => by kernel_rfl) (fun g w => by kernel_rfl) (fun g W hW hin => HPA.out W (HV.out W hW) (HRA.out W hW))) 
    (goes_cons (goesK_load hst (ahead_none (by decide)) rfl (by decide) (by decide) (by kernel_rfl) (fun g => by kernel_rfl) rfl (fun g => by kernel_rfl) rfl (fun g => by kernel_rfl) l8 Try.underlying27 rfl (by kernel_rfl)) 
    (goes_cons (goesK_ghost (args := fun g => #[.agg #[.int .i64 F, .slice B k d], .int .i64 0, .int .i64 1]) hst (ahead_none (by decide)) rfl (by decide) (by decide) 1 rfl (by kernel_rfl) (fun g => by kernel_rfl) rfl (fun g => by kernel_rfl) (fun g w => by kernel_rfl) (fun g W hW hin => HPS.out W (HV.out W hW) (HRB.out W hW))) 
    (goes_cons (goesK_call (args := fun g => #[g 75, g 77]) hst (ahead_none (by decide)) rfl (by decide) (by decide) (by kernel_rfl) (fun g => by kernel_rfl) rfl (fun g => by kernel_rfl) (fun g w => by kernel_rfl) (fun g W hW hin => by
        obtain ⟨A8, c8, e8, _, r8⟩ := hin 0 _ rfl (by kernel_rfl)
        obtain ⟨A9, c9, e9, _, r9⟩ := hin 1 _ rfl (by kernel_rfl)
        have e8' : g 75 = _ := e8
        have e9' : g 77 = _ := e9
        show Calls _ _ #[g 75, g 77] W _
        rw [e8', e9']
        exact HSF.out W (HV.out W hW) A8 A9 c8 c9 r8 r9)) 
    (goes_cons (goesK_pure (fun _ => .bool true) rfl (by decide) (by decide) (by kernel_rfl) (fun g => by kernel_rfl) rfl (fun g => by kernel_rfl) (fun g w => by kernel_rfl)) 
    (goes_cons (goesK_pure (fun _ => .bool true) rfl (by decide) (by decide) (by kernel_rfl) (fun g => by kernel_rfl) rfl (fun g => by kernel_rfl) (fun g w => by kernel_rfl)) goes_nil)))))))))))))))))))))))))))))))))))))))))))))))))) ?_
  intro g W hW _
  have hbE := below_step8 hbee hW hbee.size
  clear hst l3 l5 l8 l10 l12 ls la lb
  go_wp2_with fail
  go_ret
  exact ⟨rfl, hbE⟩
theorem stackPuts_walk (H : StackC Inv) (now : Int) (A : Option Addr) (l : List Int) (c : Nat) (m : Int) (lo : -9223372036854775808 ≤ m) (hi : m ≤ 9223372036854775807) (now2 : Int) (A2 : Option Addr) (l2 : List Int) (c2 : Nat) (w : World) (hr : Rd w A (is_ l)) (hr2 : Rd w A2 (is_ l2)) (hv : Inv w) :
    Calls Try.prog 7 #[stV now A l.length c, .int .i64 m, stV now2 A2 l2.length c2] w fun e w' => e = .returned (.bool true) ∧ Below w.heap.size w w' :=
  stackPuts_go H now A l _ c rfl m ⟨lo, hi⟩ now2 A2 l2 _ c2 rfl w hr hr2 hv
end
end Go.Proofs.Ytocbkcofmebfmaa
