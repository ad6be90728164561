/-
  Layer 15, the laws' walks over the bundle: TrackMoves.
-/
import Derived.Test.YtbdpjhlfaelgpaaTrkX
import Derived.Test.YtbdpjhlfaelgpaaTrkR
import Derived.Deep.Cut
namespace Go.Proofs.Ytbdpjhlfaelgpaa
open Go.RowKit

variable {Inv : World → Prop}
/-- A motion to another cell: it is told where it is wanted; then one within that cell isn't, and one back is. -/
theorem moves_told {e : Ms} {f : Ce} (h : mayT e = true) (ht : e.typ = 4) (hne : ¬ (f.x = e.x ∧ f.y = e.y)) (hf : mayT ⟨0, 4, f.x, f.y, 0⟩ = true) (held : Bool) {mode : Int} (hm : mode = if held = true then 1002 else 1003) :
    ∃ s b, tellT mode f e = (s, b) ∧ b = (!held || !(e.btn == 0)) ∧ (∃ s2, tellT mode s e = (s2, false)) ∧ ∃ s3, tellT mode s { e with x := f.x, y := f.y } = (s3, b) := by
  obtain ⟨c1, c2⟩ := may_cell hf
  have hb := may_at h (x := f.x) (y := f.y) c1 c2
  have hne' : (decide (f.x = e.x) && decide (f.y = e.y)) = false := by
    cases h1 : decide (f.x = e.x) with
    | false => rfl
    | true =>
      cases h2 : decide (f.y = e.y) with
      | false => rfl
      | true => exact absurd ⟨of_decide_eq_true h1, of_decide_eq_true h2⟩ hne
  have hne2 : (decide (e.x = f.x) && decide (e.y = f.y)) = false := by rw [← hne']; congr 1 <;> exact decide_eq_decide.2 ⟨Eq.symm, Eq.symm⟩
  obtain ⟨p3, p2⟩ := is_move h ht f
  obtain ⟨q3, q2⟩ := is_move hb ht ⟨e.x, e.y⟩
  obtain ⟨r3, r2⟩ := is_move h ht ⟨e.x, e.y⟩
  obtain ⟨_, o2⟩ := is_move hb ht f
  simp only at q3 q2 r3 r2 o2
  rw [hne'] at p3 p2
  rw [hne2] at q3 q2
  cases held with
  | false =>
    obtain rfl : mode = 1003 := hm
    refine ⟨⟨e.x, e.y⟩, true, tell_yes (by rw [p3]; rfl), rfl, ⟨_, tell_no (by rw [r3]; simp)⟩, ⟨_, tell_yes (by rw [q3]; rfl)⟩⟩
  | true =>
    obtain rfl : mode = 1002 := hm
    by_cases hz : e.btn = 0
    · have hzb : (e.btn == 0) = true := by rw [hz]; rfl
      have i1 : isT 1002 f e = false := by rw [p2, decide_eq_true hz]; rfl
      have i3 : isT 1002 f { e with x := f.x, y := f.y } = false := by rw [o2, decide_eq_true hz]; rfl
      exact ⟨f, false, tell_no i1, by rw [hzb]; rfl, ⟨_, tell_no i1⟩, ⟨_, tell_no i3⟩⟩
    · have hzb : (e.btn == 0) = false := beq_false_of_ne hz
      refine ⟨⟨e.x, e.y⟩, true, tell_yes (by rw [p2, decide_eq_false hz]; rfl), by rw [hzb]; rfl, ⟨_, tell_no (by rw [r2]; simp)⟩, ⟨_, tell_yes (by rw [q2, decide_eq_false hz]; rfl)⟩⟩
set_option maxRecDepth 100000 in
set_option maxHeartbeats 32000000 in
theorem trackMoves_walk (H : TrkC Inv) (e : Ms) (f : Ce) (held : Bool) (w : World) (hv : Inv w) : Calls Try.prog 8 #[msV e, ceV f, .bool held] w fun x w' => x = .returned (.bool true) ∧ Below w.heap.size w w' := by
  obtain ⟨q, hq⟩ : ∃ q, mayT e = q := ⟨_, rfl⟩
  obtain ⟨q2, hq2⟩ : ∃ q, mayT ⟨0, 4, f.x, f.y, 0⟩ = q := ⟨_, rfl⟩
  have HM := H.may_hid hq
  have HR : Hid (∀ w, Calls Try.prog 13 #[.agg #[.int .i64 0, .int .i64 4, .int .i64 f.x, .int .i64 f.y, .int .i64 0]] w fun x w' => x = .returned (.bool q2) ∧ Below w.heap.size w w') := Lib.hid fun w => by rw [← hq2]; exact rmay15_any ⟨0, 4, f.x, f.y, 0⟩ w
  obtain ⟨mode, hmo⟩ : ∃ mode : Int, mode = if held = true then 1002 else 1003 := ⟨_, rfl⟩
  have HMI : Hid (inM mode) := Lib.hid (by rw [hmo]; cases held <;> exact ⟨by decide, by decide⟩)
  have HT0 := Lib.hid (fun (h1 : q = true) (h2 : e.typ = 4) (h3 : ¬ (f.x = e.x ∧ f.y = e.y)) (h4 : q2 = true) => moves_told (hq.trans h1) h2 h3 (hq2.trans h4) held hmo)
  have HMO := Lib.hid hmo
  clear hq hq2 hmo
  have HTL := Lib.hid (fun mo (hm : inM mo) s e u v b (h : tellT mo s e = (⟨u, v⟩, b)) => H.tell_hid h (hm := hm))
  obtain ⟨btn, typ, x, y, md⟩ := e
  obtain ⟨fx, fy⟩ := f
  simp only [msV, ceV] at HM HR HT0 ⊢
  have hB := ((Below.refl w.heap.size w).alloc (Nat.le_refl _) (.cells #[.int .i64 btn, .int .i64 typ, .int .i64 x, .int .i64 y, .int .i64 md] 25)).alloc (by simp) (.cells #[.int .i64 fx, .int .i64 fy] 23)
  have k0 := (Blk.new w 25 #[.int .i64 btn, .int .i64 typ, .int .i64 x, .int .i64 y, .int .i64 md]).alloc (.cells #[.int .i64 fx, .int .i64 fy] 23)
  have r0 := Blk.new (w.alloc (.cells #[.int .i64 btn, .int .i64 typ, .int .i64 x, .int .i64 y, .int .i64 md] 25)) 23 #[.int .i64 fx, .int .i64 fy]
  rw [World.size_alloc] at r0
  have hv0 := H.invB hv hB
  obtain ⟨b0, b1, b2, b3, b4⟩ := Blk.cells5 k0
  obtain ⟨a0, a1⟩ := And.intro (r0.cell 0) (r0.cell 1)
  go_enter Try.func8, Try.ntmps8
  go_wp2_with fail
  refine (trkAwake H _ hv0).mono ?_
  rintro z w1 ⟨rfl, hb⟩
  have hB1 := hB.trans (hb.mono hB.size)
  replace k0 := k0.below hb k0.lt
  replace r0 := r0.below hb r0.lt
  clear b0 b1 b2 b3 b4 a0 a1
  clear hb hB hv0
  obtain ⟨b0, b1, b2, b3, b4⟩ := Blk.cells5 k0
  obtain ⟨a0, a1⟩ := And.intro (r0.cell 0) (r0.cell 1)
  go_wp2_with fail
  refine (HM.out _ (H.invB hv hB1)).mono ?_
  rintro z w2 ⟨rfl, hb⟩
  have hB2 := hB1.trans (hb.mono hB1.size)
  replace k0 := k0.below hb k0.lt
  replace r0 := r0.below hb r0.lt
  clear b0 b1 b2 b3 b4 a0 a1
  clear hb hB1 HM
  obtain ⟨b0, b1, b2, b3, b4⟩ := Blk.cells5 k0
  obtain ⟨a0, a1⟩ := And.intro (r0.cell 0) (r0.cell 1)
  cases q with
  | false =>
    clear HT0 HR HTL
    go_wp2_with fail
    go_ret
    exact ⟨rfl, hB2⟩
  | true =>
    by_cases t4 : typ = 4
    rotate_left
    · have u4 : (typ == 4) = false := beq_false_of_ne t4
      have u4' : (typ != 4) = true := by rw [bne, u4]; rfl
      clear HT0 HR HTL t4
      go_wp2_with fail
      go_ret
      exact ⟨rfl, hB2⟩
    subst t4
    obtain ⟨p1, hp1⟩ : ∃ p, (fx == x) = p := ⟨_, rfl⟩
    obtain ⟨p2, hp2⟩ : ∃ p, (fy == y) = p := ⟨_, rfl⟩
    have HSM := Lib.hid (show (p1 && p2) = false → ¬ (fx = x ∧ fy = y) from fun h hh => by
      rw [← hp1, ← hp2, hh.1, hh.2] at h
      simp at h)
    cases p1 with
    | false =>
      have HT0b := Lib.hid (fun h4 => HT0.out rfl rfl (HSM.out rfl) h4)
      clear HT0 HSM
      go_wp2_with fail
      refine (HR.out _).mono ?_
      rintro z w3 ⟨rfl, hb⟩
      have hB3 := hB2.trans (hb.mono hB2.size)
      replace k0 := k0.below hb k0.lt
      replace r0 := r0.below hb r0.lt
      clear b0 b1 b2 b3 b4 a0 a1
      clear hb hB2 HR hp1 hp2
      obtain ⟨b0, b1, b2, b3, b4⟩ := Blk.cells5 k0
      obtain ⟨a0, a1⟩ := And.intro (r0.cell 0) (r0.cell 1)
      cases q2 with
      | false =>
        clear HT0b HTL
        go_wp2_with fail
        go_ret
        exact ⟨rfl, hB3⟩
      | true =>
        obtain ⟨⟨u, v⟩, b, g1, g2, ⟨⟨u2, v2⟩, g3⟩, ⟨u3, v3⟩, g4⟩ := HT0b.out rfl
        have H1 := HTL.out _ HMI.out _ _ _ _ _ g1
        have H2 := HTL.out _ HMI.out _ _ _ _ _ g3
        have H3 := HTL.out _ HMI.out _ _ _ _ _ g4
        have HW := Lib.hid g2
        clear HT0b HTL g1 g2 g3 g4
        simp only at H1 H2 H3 HW
        have hv3 := H.invB hv hB3
        have HMO2 := HMO.out
        cases held with
        | false =>
          obtain rfl : mode = 1003 := HMO2
          clear HMO
          have HW := HW.out
          obtain ⟨nz, hnz⟩ : ∃ n, (btn == 0) = n := ⟨_, rfl⟩
          have hnz' : (btn != 0) = !nz := by rw [bne, hnz]
          rw [hnz] at HW
          subst HW
          cases nz <;>
          · go_wp2_with fail
            refine (H1.out _ hv3).mono ?_
            rintro z w4 ⟨rfl, hb⟩
            have hB4 := (hB3.trans (hb.mono hB3.size)).alloc (hB3.trans (hb.mono hB3.size)).size (.cells #[.int .i64 u, .int .i64 v] 27)
            have s4 := Blk.new w4 27 #[.int .i64 u, .int .i64 v]
            replace k0 := k0.below hb k0.lt
            replace r0 := r0.below hb r0.lt
            clear b0 b1 b2 b3 b4 a0 a1
            replace k0 := k0.alloc (.cells #[.int .i64 u, .int .i64 v] 27)
            replace r0 := r0.alloc (.cells #[.int .i64 u, .int .i64 v] 27)
            clear hb hB3 hv3 H1
            go_upto_region 8 with (fail)
            generalize hW4 : w4.alloc (.cells #[.int .i64 u, .int .i64 v] 27) = x4 at *
            clear hW4
            obtain ⟨g, hg⟩ : ∃ g, w4.heap.size = g := ⟨_, rfl⟩
            rw [hg] at s4
            obtain ⟨b0, b1, b2, b3, b4⟩ := Blk.cells5 k0
            obtain ⟨a0, a1⟩ := And.intro (r0.cell 0) (r0.cell 1)
            obtain ⟨c0, c1⟩ := And.intro (s4.cell 0) (s4.cell 1)
            have hv4 := H.invB hv hB4
            go_wp2_with fail
            refine (H2.out _ hv4).mono ?_
            rintro z w5 ⟨rfl, hb⟩
            have hB5 := (hB4.trans (hb.mono hB4.size)).alloc (hB4.trans (hb.mono hB4.size)).size (.cells #[.int .i64 u2, .int .i64 v2] 27)
            replace k0 := k0.below hb k0.lt
            replace r0 := r0.below hb r0.lt
            clear b0 b1 b2 b3 b4 a0 a1
            replace k0 := k0.alloc (.cells #[.int .i64 u2, .int .i64 v2] 27)
            replace r0 := r0.alloc (.cells #[.int .i64 u2, .int .i64 v2] 27)
            replace s4 := (s4.below hb s4.lt).alloc (.cells #[.int .i64 u2, .int .i64 v2] 27)
            clear hb hB4 hv4 H2 c0 c1
            go_upto_region 9 with (fail)
            generalize hW5 : w5.alloc (.cells #[.int .i64 u2, .int .i64 v2] 27) = x5 at *
            clear hW5
            obtain ⟨b0, b1, b2, b3, b4⟩ := Blk.cells5 k0
            obtain ⟨a0, a1⟩ := And.intro (r0.cell 0) (r0.cell 1)
            obtain ⟨c0, c1⟩ := And.intro (s4.cell 0) (s4.cell 1)
            have z0 := Blk.new x5 25 #[.int .i64 btn, .int .i64 4, .int .i64 x, .int .i64 y, .int .i64 md]
            have hB6 := hB5.alloc hB5.size (.cells #[.int .i64 btn, .int .i64 4, .int .i64 x, .int .i64 y, .int .i64 md] 25)
            have kl := k0.lt
            have rl := r0.lt
            have sl := s4.lt
            replace r0 := r0.alloc (.cells #[.int .i64 btn, .int .i64 4, .int .i64 x, .int .i64 y, .int .i64 md] 25)
            replace k0 := k0.alloc (.cells #[.int .i64 btn, .int .i64 4, .int .i64 x, .int .i64 y, .int .i64 md] 25)
            replace s4 := s4.alloc (.cells #[.int .i64 btn, .int .i64 4, .int .i64 x, .int .i64 y, .int .i64 md] 25)
            have ks := hB5.size
            obtain ⟨d, hd⟩ : ∃ d, x5.heap.size = d := ⟨_, rfl⟩
            rw [hd] at z0 kl rl sl ks
            go_upto_region 10 with (fail)
            generalize hW6 : x5.alloc (.cells #[.int .i64 btn, .int .i64 4, .int .i64 x, .int .i64 y, .int .i64 md] 25) = x6 at *
            clear hW6 hd b0 b1 b2 b3 b4 a0 a1 c0 c1 hB5
            have y2 := z0.frozen 2
            have e2 := z0.cell 2
            have a0 := r0.cell 0
            have z1 : Blk (x6.setCell ⟨d, 2, none⟩ (.int .i64 fx)) d 25 #[.int .i64 btn, .int .i64 4, .int .i64 fx, .int .i64 y, .int .i64 md] := z0.set 2 (.int .i64 fx)
            have r1 := r0.far (a := ⟨d, 2, none⟩) (by show w.heap.size + 1 ≠ d; omega) (.int .i64 fx)
            have s5 := s4.far (a := ⟨d, 2, none⟩) (by show g ≠ d; omega) (.int .i64 fx)
            have hB7 := hB6.setCell (p := ⟨d, 2, none⟩) ks (.int .i64 fx)
            have y3 := z1.frozen 3
            have e3 := z1.cell 3
            have a1 := r1.cell 1
            have z2 : Blk ((x6.setCell ⟨d, 2, none⟩ (.int .i64 fx)).setCell ⟨d, 3, none⟩ (.int .i64 fy)) d 25 #[.int .i64 btn, .int .i64 4, .int .i64 fx, .int .i64 fy, .int .i64 md] := z1.set 3 (.int .i64 fy)
            have k7 := k0.far (a := ⟨d, 2, none⟩) (by show w.heap.size ≠ d; omega) (.int .i64 fx)
            have k8 := k7.far (a := ⟨d, 3, none⟩) (by show w.heap.size ≠ d; omega) (.int .i64 fy)
            have s6 := s5.far (a := ⟨d, 3, none⟩) (by show g ≠ d; omega) (.int .i64 fy)
            have hB8 := hB7.setCell (p := ⟨d, 3, none⟩) ks (.int .i64 fy)
            go_upto_region 12 with (fail)
            generalize hW8 : (x6.setCell ⟨d, 2, none⟩ (.int .i64 fx)).setCell ⟨d, 3, none⟩ (.int .i64 fy) = x8 at *
            clear hW8 y2 e2 a0 z1 r1 s5 hB7 y3 e3 a1 z0 r0 s4 hB6 k0 k7
            obtain ⟨b0, b1, b2, b3, b4⟩ := Blk.cells5 z2
            obtain ⟨c0, c1⟩ := And.intro (s6.cell 0) (s6.cell 1)
            have hv8 := H.invB hv hB8
            go_wp2_with fail
            refine (H3.out _ hv8).mono ?_
            rintro z w9 ⟨rfl, hb⟩
            have k9 := k8.below hb k8.lt
            have hB9 := hB8.trans (hb.mono hB8.size)
            have k10 := k9.alloc (.cells #[.int .i64 u3, .int .i64 v3] 27)
            have hB10 := hB9.alloc hB9.size (.cells #[.int .i64 u3, .int .i64 v3] 27)
            clear b0 b1 b2 b3 b4 c0 c1 hb hB8 hv8 H3 z2 s6
            go_upto_region 13 with (fail)
            generalize hW10 : w9.alloc (.cells #[.int .i64 u3, .int .i64 v3] 27) = x10 at *
            clear hW10
            have b0 := k10.cell 0
            go_wp2_with fail
            go_ret
            exact ⟨rfl, hB10⟩
        | true =>
          obtain rfl : mode = 1002 := HMO2
          clear HMO
          have HW := HW.out
          obtain ⟨nz, hnz⟩ : ∃ n, (btn == 0) = n := ⟨_, rfl⟩
          have hnz' : (btn != 0) = !nz := by rw [bne, hnz]
          rw [hnz] at HW
          subst HW
          cases nz <;>
          · go_wp2_with fail
            refine (H1.out _ hv3).mono ?_
            rintro z w4 ⟨rfl, hb⟩
            have hB4 := (hB3.trans (hb.mono hB3.size)).alloc (hB3.trans (hb.mono hB3.size)).size (.cells #[.int .i64 u, .int .i64 v] 27)
            have s4 := Blk.new w4 27 #[.int .i64 u, .int .i64 v]
            replace k0 := k0.below hb k0.lt
            replace r0 := r0.below hb r0.lt
            clear b0 b1 b2 b3 b4 a0 a1
            replace k0 := k0.alloc (.cells #[.int .i64 u, .int .i64 v] 27)
            replace r0 := r0.alloc (.cells #[.int .i64 u, .int .i64 v] 27)
            clear hb hB3 hv3 H1
            go_upto_region 8 with (fail)
            generalize hW4 : w4.alloc (.cells #[.int .i64 u, .int .i64 v] 27) = x4 at *
            clear hW4
            obtain ⟨g, hg⟩ : ∃ g, w4.heap.size = g := ⟨_, rfl⟩
            rw [hg] at s4
            obtain ⟨b0, b1, b2, b3, b4⟩ := Blk.cells5 k0
            obtain ⟨a0, a1⟩ := And.intro (r0.cell 0) (r0.cell 1)
            obtain ⟨c0, c1⟩ := And.intro (s4.cell 0) (s4.cell 1)
            have hv4 := H.invB hv hB4
            go_wp2_with fail
            refine (H2.out _ hv4).mono ?_
            rintro z w5 ⟨rfl, hb⟩
            have hB5 := (hB4.trans (hb.mono hB4.size)).alloc (hB4.trans (hb.mono hB4.size)).size (.cells #[.int .i64 u2, .int .i64 v2] 27)
            replace k0 := k0.below hb k0.lt
            replace r0 := r0.below hb r0.lt
            clear b0 b1 b2 b3 b4 a0 a1
            replace k0 := k0.alloc (.cells #[.int .i64 u2, .int .i64 v2] 27)
            replace r0 := r0.alloc (.cells #[.int .i64 u2, .int .i64 v2] 27)
            replace s4 := (s4.below hb s4.lt).alloc (.cells #[.int .i64 u2, .int .i64 v2] 27)
            clear hb hB4 hv4 H2 c0 c1
            go_upto_region 9 with (fail)
            generalize hW5 : w5.alloc (.cells #[.int .i64 u2, .int .i64 v2] 27) = x5 at *
            clear hW5
            obtain ⟨b0, b1, b2, b3, b4⟩ := Blk.cells5 k0
            obtain ⟨a0, a1⟩ := And.intro (r0.cell 0) (r0.cell 1)
            obtain ⟨c0, c1⟩ := And.intro (s4.cell 0) (s4.cell 1)
            have z0 := Blk.new x5 25 #[.int .i64 btn, .int .i64 4, .int .i64 x, .int .i64 y, .int .i64 md]
            have hB6 := hB5.alloc hB5.size (.cells #[.int .i64 btn, .int .i64 4, .int .i64 x, .int .i64 y, .int .i64 md] 25)
            have kl := k0.lt
            have rl := r0.lt
            have sl := s4.lt
            replace r0 := r0.alloc (.cells #[.int .i64 btn, .int .i64 4, .int .i64 x, .int .i64 y, .int .i64 md] 25)
            replace k0 := k0.alloc (.cells #[.int .i64 btn, .int .i64 4, .int .i64 x, .int .i64 y, .int .i64 md] 25)
            replace s4 := s4.alloc (.cells #[.int .i64 btn, .int .i64 4, .int .i64 x, .int .i64 y, .int .i64 md] 25)
            have ks := hB5.size
            obtain ⟨d, hd⟩ : ∃ d, x5.heap.size = d := ⟨_, rfl⟩
            rw [hd] at z0 kl rl sl ks
            go_upto_region 10 with (fail)
            generalize hW6 : x5.alloc (.cells #[.int .i64 btn, .int .i64 4, .int .i64 x, .int .i64 y, .int .i64 md] 25) = x6 at *
            clear hW6 hd b0 b1 b2 b3 b4 a0 a1 c0 c1 hB5
            have y2 := z0.frozen 2
            have e2 := z0.cell 2
            have a0 := r0.cell 0
            have z1 : Blk (x6.setCell ⟨d, 2, none⟩ (.int .i64 fx)) d 25 #[.int .i64 btn, .int .i64 4, .int .i64 fx, .int .i64 y, .int .i64 md] := z0.set 2 (.int .i64 fx)
            have r1 := r0.far (a := ⟨d, 2, none⟩) (by show w.heap.size + 1 ≠ d; omega) (.int .i64 fx)
            have s5 := s4.far (a := ⟨d, 2, none⟩) (by show g ≠ d; omega) (.int .i64 fx)
            have hB7 := hB6.setCell (p := ⟨d, 2, none⟩) ks (.int .i64 fx)
            have y3 := z1.frozen 3
            have e3 := z1.cell 3
            have a1 := r1.cell 1
            have z2 : Blk ((x6.setCell ⟨d, 2, none⟩ (.int .i64 fx)).setCell ⟨d, 3, none⟩ (.int .i64 fy)) d 25 #[.int .i64 btn, .int .i64 4, .int .i64 fx, .int .i64 fy, .int .i64 md] := z1.set 3 (.int .i64 fy)
            have k7 := k0.far (a := ⟨d, 2, none⟩) (by show w.heap.size ≠ d; omega) (.int .i64 fx)
            have k8 := k7.far (a := ⟨d, 3, none⟩) (by show w.heap.size ≠ d; omega) (.int .i64 fy)
            have s6 := s5.far (a := ⟨d, 3, none⟩) (by show g ≠ d; omega) (.int .i64 fy)
            have hB8 := hB7.setCell (p := ⟨d, 3, none⟩) ks (.int .i64 fy)
            go_upto_region 12 with (fail)
            generalize hW8 : (x6.setCell ⟨d, 2, none⟩ (.int .i64 fx)).setCell ⟨d, 3, none⟩ (.int .i64 fy) = x8 at *
            clear hW8 y2 e2 a0 z1 r1 s5 hB7 y3 e3 a1 z0 r0 s4 hB6 k0 k7
            obtain ⟨b0, b1, b2, b3, b4⟩ := Blk.cells5 z2
            obtain ⟨c0, c1⟩ := And.intro (s6.cell 0) (s6.cell 1)
            have hv8 := H.invB hv hB8
            go_wp2_with fail
            refine (H3.out _ hv8).mono ?_
            rintro z w9 ⟨rfl, hb⟩
            have k9 := k8.below hb k8.lt
            have hB9 := hB8.trans (hb.mono hB8.size)
            have k10 := k9.alloc (.cells #[.int .i64 u3, .int .i64 v3] 27)
            have hB10 := hB9.alloc hB9.size (.cells #[.int .i64 u3, .int .i64 v3] 27)
            clear b0 b1 b2 b3 b4 c0 c1 hb hB8 hv8 H3 z2 s6
            go_upto_region 13 with (fail)
            generalize hW10 : w9.alloc (.cells #[.int .i64 u3, .int .i64 v3] 27) = x10 at *
            clear hW10
            have b0 := k10.cell 0
            go_wp2_with fail
            go_ret
            exact ⟨rfl, hB10⟩
    | true =>
      cases p2 with
      | true =>
        clear HT0 HR HTL HSM
        go_wp2_with fail
        go_ret
        exact ⟨rfl, hB2⟩
      | false =>
        have HT0b := Lib.hid (fun h4 => HT0.out rfl rfl (HSM.out rfl) h4)
        clear HT0 HSM
        go_wp2_with fail
        refine (HR.out _).mono ?_
        rintro z w3 ⟨rfl, hb⟩
        have hB3 := hB2.trans (hb.mono hB2.size)
        replace k0 := k0.below hb k0.lt
        replace r0 := r0.below hb r0.lt
        clear b0 b1 b2 b3 b4 a0 a1
        clear hb hB2 HR hp1 hp2
        obtain ⟨b0, b1, b2, b3, b4⟩ := Blk.cells5 k0
        obtain ⟨a0, a1⟩ := And.intro (r0.cell 0) (r0.cell 1)
        cases q2 with
        | false =>
          clear HT0b HTL
          go_wp2_with fail
          go_ret
          exact ⟨rfl, hB3⟩
        | true =>
          obtain ⟨⟨u, v⟩, b, g1, g2, ⟨⟨u2, v2⟩, g3⟩, ⟨u3, v3⟩, g4⟩ := HT0b.out rfl
          have H1 := HTL.out _ HMI.out _ _ _ _ _ g1
          have H2 := HTL.out _ HMI.out _ _ _ _ _ g3
          have H3 := HTL.out _ HMI.out _ _ _ _ _ g4
          have HW := Lib.hid g2
          clear HT0b HTL g1 g2 g3 g4
          simp only at H1 H2 H3 HW
          have hv3 := H.invB hv hB3
          have HMO2 := HMO.out
          cases held with
          | false =>
            obtain rfl : mode = 1003 := HMO2
            clear HMO
            have HW := HW.out
            obtain ⟨nz, hnz⟩ : ∃ n, (btn == 0) = n := ⟨_, rfl⟩
            have hnz' : (btn != 0) = !nz := by rw [bne, hnz]
            rw [hnz] at HW
            subst HW
            cases nz <;>
            · go_wp2_with fail
              refine (H1.out _ hv3).mono ?_
              rintro z w4 ⟨rfl, hb⟩
              have hB4 := (hB3.trans (hb.mono hB3.size)).alloc (hB3.trans (hb.mono hB3.size)).size (.cells #[.int .i64 u, .int .i64 v] 27)
              have s4 := Blk.new w4 27 #[.int .i64 u, .int .i64 v]
              replace k0 := k0.below hb k0.lt
              replace r0 := r0.below hb r0.lt
              clear b0 b1 b2 b3 b4 a0 a1
              replace k0 := k0.alloc (.cells #[.int .i64 u, .int .i64 v] 27)
              replace r0 := r0.alloc (.cells #[.int .i64 u, .int .i64 v] 27)
              clear hb hB3 hv3 H1
              go_upto_region 8 with (fail)
              generalize hW4 : w4.alloc (.cells #[.int .i64 u, .int .i64 v] 27) = x4 at *
              clear hW4
              obtain ⟨g, hg⟩ : ∃ g, w4.heap.size = g := ⟨_, rfl⟩
              rw [hg] at s4
              obtain ⟨b0, b1, b2, b3, b4⟩ := Blk.cells5 k0
              obtain ⟨a0, a1⟩ := And.intro (r0.cell 0) (r0.cell 1)
              obtain ⟨c0, c1⟩ := And.intro (s4.cell 0) (s4.cell 1)
              have hv4 := H.invB hv hB4
              go_wp2_with fail
              refine (H2.out _ hv4).mono ?_
              rintro z w5 ⟨rfl, hb⟩
              have hB5 := (hB4.trans (hb.mono hB4.size)).alloc (hB4.trans (hb.mono hB4.size)).size (.cells #[.int .i64 u2, .int .i64 v2] 27)
              replace k0 := k0.below hb k0.lt
              replace r0 := r0.below hb r0.lt
              clear b0 b1 b2 b3 b4 a0 a1
              replace k0 := k0.alloc (.cells #[.int .i64 u2, .int .i64 v2] 27)
              replace r0 := r0.alloc (.cells #[.int .i64 u2, .int .i64 v2] 27)
              replace s4 := (s4.below hb s4.lt).alloc (.cells #[.int .i64 u2, .int .i64 v2] 27)
              clear hb hB4 hv4 H2 c0 c1
              go_upto_region 9 with (fail)
              generalize hW5 : w5.alloc (.cells #[.int .i64 u2, .int .i64 v2] 27) = x5 at *
              clear hW5
              obtain ⟨b0, b1, b2, b3, b4⟩ := Blk.cells5 k0
              obtain ⟨a0, a1⟩ := And.intro (r0.cell 0) (r0.cell 1)
              obtain ⟨c0, c1⟩ := And.intro (s4.cell 0) (s4.cell 1)
              have z0 := Blk.new x5 25 #[.int .i64 btn, .int .i64 4, .int .i64 x, .int .i64 y, .int .i64 md]
              have hB6 := hB5.alloc hB5.size (.cells #[.int .i64 btn, .int .i64 4, .int .i64 x, .int .i64 y, .int .i64 md] 25)
              have kl := k0.lt
              have rl := r0.lt
              have sl := s4.lt
              replace r0 := r0.alloc (.cells #[.int .i64 btn, .int .i64 4, .int .i64 x, .int .i64 y, .int .i64 md] 25)
              replace k0 := k0.alloc (.cells #[.int .i64 btn, .int .i64 4, .int .i64 x, .int .i64 y, .int .i64 md] 25)
              replace s4 := s4.alloc (.cells #[.int .i64 btn, .int .i64 4, .int .i64 x, .int .i64 y, .int .i64 md] 25)
              have ks := hB5.size
              obtain ⟨d, hd⟩ : ∃ d, x5.heap.size = d := ⟨_, rfl⟩
              rw [hd] at z0 kl rl sl ks
              go_upto_region 10 with (fail)
              generalize hW6 : x5.alloc (.cells #[.int .i64 btn, .int .i64 4, .int .i64 x, .int .i64 y, .int .i64 md] 25) = x6 at *
              clear hW6 hd b0 b1 b2 b3 b4 a0 a1 c0 c1 hB5
              have y2 := z0.frozen 2
              have e2 := z0.cell 2
              have a0 := r0.cell 0
              have z1 : Blk (x6.setCell ⟨d, 2, none⟩ (.int .i64 fx)) d 25 #[.int .i64 btn, .int .i64 4, .int .i64 fx, .int .i64 y, .int .i64 md] := z0.set 2 (.int .i64 fx)
              have r1 := r0.far (a := ⟨d, 2, none⟩) (by show w.heap.size + 1 ≠ d; omega) (.int .i64 fx)
              have s5 := s4.far (a := ⟨d, 2, none⟩) (by show g ≠ d; omega) (.int .i64 fx)
              have hB7 := hB6.setCell (p := ⟨d, 2, none⟩) ks (.int .i64 fx)
              have y3 := z1.frozen 3
              have e3 := z1.cell 3
              have a1 := r1.cell 1
              have z2 : Blk ((x6.setCell ⟨d, 2, none⟩ (.int .i64 fx)).setCell ⟨d, 3, none⟩ (.int .i64 fy)) d 25 #[.int .i64 btn, .int .i64 4, .int .i64 fx, .int .i64 fy, .int .i64 md] := z1.set 3 (.int .i64 fy)
              have k7 := k0.far (a := ⟨d, 2, none⟩) (by show w.heap.size ≠ d; omega) (.int .i64 fx)
              have k8 := k7.far (a := ⟨d, 3, none⟩) (by show w.heap.size ≠ d; omega) (.int .i64 fy)
              have s6 := s5.far (a := ⟨d, 3, none⟩) (by show g ≠ d; omega) (.int .i64 fy)
              have hB8 := hB7.setCell (p := ⟨d, 3, none⟩) ks (.int .i64 fy)
              go_upto_region 12 with (fail)
              generalize hW8 : (x6.setCell ⟨d, 2, none⟩ (.int .i64 fx)).setCell ⟨d, 3, none⟩ (.int .i64 fy) = x8 at *
              clear hW8 y2 e2 a0 z1 r1 s5 hB7 y3 e3 a1 z0 r0 s4 hB6 k0 k7
              obtain ⟨b0, b1, b2, b3, b4⟩ := Blk.cells5 z2
              obtain ⟨c0, c1⟩ := And.intro (s6.cell 0) (s6.cell 1)
              have hv8 := H.invB hv hB8
              go_wp2_with fail
              refine (H3.out _ hv8).mono ?_
              rintro z w9 ⟨rfl, hb⟩
              have k9 := k8.below hb k8.lt
              have hB9 := hB8.trans (hb.mono hB8.size)
              have k10 := k9.alloc (.cells #[.int .i64 u3, .int .i64 v3] 27)
              have hB10 := hB9.alloc hB9.size (.cells #[.int .i64 u3, .int .i64 v3] 27)
              clear b0 b1 b2 b3 b4 c0 c1 hb hB8 hv8 H3 z2 s6
              go_upto_region 13 with (fail)
              generalize hW10 : w9.alloc (.cells #[.int .i64 u3, .int .i64 v3] 27) = x10 at *
              clear hW10
              have b0 := k10.cell 0
              go_wp2_with fail
              go_ret
              exact ⟨rfl, hB10⟩
          | true =>
            obtain rfl : mode = 1002 := HMO2
            clear HMO
            have HW := HW.out
            obtain ⟨nz, hnz⟩ : ∃ n, (btn == 0) = n := ⟨_, rfl⟩
            have hnz' : (btn != 0) = !nz := by rw [bne, hnz]
            rw [hnz] at HW
            subst HW
            cases nz <;>
            · go_wp2_with fail
              refine (H1.out _ hv3).mono ?_
              rintro z w4 ⟨rfl, hb⟩
              have hB4 := (hB3.trans (hb.mono hB3.size)).alloc (hB3.trans (hb.mono hB3.size)).size (.cells #[.int .i64 u, .int .i64 v] 27)
              have s4 := Blk.new w4 27 #[.int .i64 u, .int .i64 v]
              replace k0 := k0.below hb k0.lt
              replace r0 := r0.below hb r0.lt
              clear b0 b1 b2 b3 b4 a0 a1
              replace k0 := k0.alloc (.cells #[.int .i64 u, .int .i64 v] 27)
              replace r0 := r0.alloc (.cells #[.int .i64 u, .int .i64 v] 27)
              clear hb hB3 hv3 H1
              go_upto_region 8 with (fail)
              generalize hW4 : w4.alloc (.cells #[.int .i64 u, .int .i64 v] 27) = x4 at *
              clear hW4
              obtain ⟨g, hg⟩ : ∃ g, w4.heap.size = g := ⟨_, rfl⟩
              rw [hg] at s4
              obtain ⟨b0, b1, b2, b3, b4⟩ := Blk.cells5 k0
              obtain ⟨a0, a1⟩ := And.intro (r0.cell 0) (r0.cell 1)
              obtain ⟨c0, c1⟩ := And.intro (s4.cell 0) (s4.cell 1)
              have hv4 := H.invB hv hB4
              go_wp2_with fail
              refine (H2.out _ hv4).mono ?_
              rintro z w5 ⟨rfl, hb⟩
              have hB5 := (hB4.trans (hb.mono hB4.size)).alloc (hB4.trans (hb.mono hB4.size)).size (.cells #[.int .i64 u2, .int .i64 v2] 27)
              replace k0 := k0.below hb k0.lt
              replace r0 := r0.below hb r0.lt
              clear b0 b1 b2 b3 b4 a0 a1
              replace k0 := k0.alloc (.cells #[.int .i64 u2, .int .i64 v2] 27)
              replace r0 := r0.alloc (.cells #[.int .i64 u2, .int .i64 v2] 27)
              replace s4 := (s4.below hb s4.lt).alloc (.cells #[.int .i64 u2, .int .i64 v2] 27)
              clear hb hB4 hv4 H2 c0 c1
              go_upto_region 9 with (fail)
              generalize hW5 : w5.alloc (.cells #[.int .i64 u2, .int .i64 v2] 27) = x5 at *
              clear hW5
              obtain ⟨b0, b1, b2, b3, b4⟩ := Blk.cells5 k0
              obtain ⟨a0, a1⟩ := And.intro (r0.cell 0) (r0.cell 1)
              obtain ⟨c0, c1⟩ := And.intro (s4.cell 0) (s4.cell 1)
              have z0 := Blk.new x5 25 #[.int .i64 btn, .int .i64 4, .int .i64 x, .int .i64 y, .int .i64 md]
              have hB6 := hB5.alloc hB5.size (.cells #[.int .i64 btn, .int .i64 4, .int .i64 x, .int .i64 y, .int .i64 md] 25)
              have kl := k0.lt
              have rl := r0.lt
              have sl := s4.lt
              replace r0 := r0.alloc (.cells #[.int .i64 btn, .int .i64 4, .int .i64 x, .int .i64 y, .int .i64 md] 25)
              replace k0 := k0.alloc (.cells #[.int .i64 btn, .int .i64 4, .int .i64 x, .int .i64 y, .int .i64 md] 25)
              replace s4 := s4.alloc (.cells #[.int .i64 btn, .int .i64 4, .int .i64 x, .int .i64 y, .int .i64 md] 25)
              have ks := hB5.size
              obtain ⟨d, hd⟩ : ∃ d, x5.heap.size = d := ⟨_, rfl⟩
              rw [hd] at z0 kl rl sl ks
              go_upto_region 10 with (fail)
              generalize hW6 : x5.alloc (.cells #[.int .i64 btn, .int .i64 4, .int .i64 x, .int .i64 y, .int .i64 md] 25) = x6 at *
              clear hW6 hd b0 b1 b2 b3 b4 a0 a1 c0 c1 hB5
              have y2 := z0.frozen 2
              have e2 := z0.cell 2
              have a0 := r0.cell 0
              have z1 : Blk (x6.setCell ⟨d, 2, none⟩ (.int .i64 fx)) d 25 #[.int .i64 btn, .int .i64 4, .int .i64 fx, .int .i64 y, .int .i64 md] := z0.set 2 (.int .i64 fx)
              have r1 := r0.far (a := ⟨d, 2, none⟩) (by show w.heap.size + 1 ≠ d; omega) (.int .i64 fx)
              have s5 := s4.far (a := ⟨d, 2, none⟩) (by show g ≠ d; omega) (.int .i64 fx)
              have hB7 := hB6.setCell (p := ⟨d, 2, none⟩) ks (.int .i64 fx)
              have y3 := z1.frozen 3
              have e3 := z1.cell 3
              have a1 := r1.cell 1
              have z2 : Blk ((x6.setCell ⟨d, 2, none⟩ (.int .i64 fx)).setCell ⟨d, 3, none⟩ (.int .i64 fy)) d 25 #[.int .i64 btn, .int .i64 4, .int .i64 fx, .int .i64 fy, .int .i64 md] := z1.set 3 (.int .i64 fy)
              have k7 := k0.far (a := ⟨d, 2, none⟩) (by show w.heap.size ≠ d; omega) (.int .i64 fx)
              have k8 := k7.far (a := ⟨d, 3, none⟩) (by show w.heap.size ≠ d; omega) (.int .i64 fy)
              have s6 := s5.far (a := ⟨d, 3, none⟩) (by show g ≠ d; omega) (.int .i64 fy)
              have hB8 := hB7.setCell (p := ⟨d, 3, none⟩) ks (.int .i64 fy)
              go_upto_region 12 with (fail)
              generalize hW8 : (x6.setCell ⟨d, 2, none⟩ (.int .i64 fx)).setCell ⟨d, 3, none⟩ (.int .i64 fy) = x8 at *
              clear hW8 y2 e2 a0 z1 r1 s5 hB7 y3 e3 a1 z0 r0 s4 hB6 k0 k7
              obtain ⟨b0, b1, b2, b3, b4⟩ := Blk.cells5 z2
              obtain ⟨c0, c1⟩ := And.intro (s6.cell 0) (s6.cell 1)
              have hv8 := H.invB hv hB8
              go_wp2_with fail
              refine (H3.out _ hv8).mono ?_
              rintro z w9 ⟨rfl, hb⟩
              have k9 := k8.below hb k8.lt
              have hB9 := hB8.trans (hb.mono hB8.size)
              have k10 := k9.alloc (.cells #[.int .i64 u3, .int .i64 v3] 27)
              have hB10 := hB9.alloc hB9.size (.cells #[.int .i64 u3, .int .i64 v3] 27)
              clear b0 b1 b2 b3 b4 c0 c1 hb hB8 hv8 H3 z2 s6
              go_upto_region 13 with (fail)
              generalize hW10 : w9.alloc (.cells #[.int .i64 u3, .int .i64 v3] 27) = x10 at *
              clear hW10
              have b0 := k10.cell 0
              go_wp2_with fail
              go_ret
              exact ⟨rfl, hB10⟩
end Go.Proofs.Ytbdpjhlfaelgpaa
