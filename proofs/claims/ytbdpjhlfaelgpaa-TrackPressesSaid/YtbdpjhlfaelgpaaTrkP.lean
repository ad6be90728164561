/-
  Layer 15, the laws' walks over the bundle: TrackPresses.
-/
import Derived.Test.YtbdpjhlfaelgpaaTrkQ
namespace Go.Proofs.Ytbdpjhlfaelgpaa
open Go.RowKit

variable {Inv : World → Prop}
set_option maxRecDepth 100000 in
set_option maxHeartbeats 16000000 in
theorem trackPresses_walk (H : TrkC Inv) (s : Ce) (e : Ms) (wh : Int) (h0 : 0 ≤ wh) (_h1 : wh ≤ 255) (w : World) (hv : Inv w) : Calls Try.prog 6 #[ceV s, msV e, .int .u8 wh] w fun x w' => x = .returned (.bool true) ∧ Below w.heap.size w w' := by
  obtain ⟨q, hq⟩ : ∃ q, mayT e = q := ⟨_, rfl⟩
  have HM := H.may_hid hq
  have HP : q = true → e.typ ≠ 4 → ∀ m, m = 1000 ∨ m = 1002 ∨ m = 1003 → Hid (∀ w, Inv w → Calls Try.prog 10 #[.int .i64 m, .agg #[.int .i64 s.x, .int .i64 s.y], .agg #[.int .i64 e.btn, .int .i64 e.typ, .int .i64 e.x, .int .i64 e.y, .int .i64 e.mods]] w fun x w' => x = .returned (.tuple #[.agg #[.int .i64 e.x, .int .i64 e.y], .bool true]) ∧ Below w.heap.size w w') := fun hh ht m hm => by
    obtain ⟨p0, p1, p2, _⟩ := is_press (hq.trans hh) ht s
    rcases hm with rfl | rfl | rfl
    · exact H.tell_hid (tell_yes p0)
    · exact H.tell_hid (tell_yes p1)
    · exact H.tell_hid (tell_yes p2)
  have HQ : q = true → e.typ ≠ 4 → ∃ u v, Hid (∀ w, Inv w → Calls Try.prog 10 #[.int .i64 9, .agg #[.int .i64 s.x, .int .i64 s.y], .agg #[.int .i64 e.btn, .int .i64 e.typ, .int .i64 e.x, .int .i64 e.y, .int .i64 e.mods]] w fun x w' => x = .returned (.tuple #[.agg #[.int .i64 u, .int .i64 v], .bool (decide (e.typ = 1) && decide (e.btn ≤ 3))]) ∧ Below w.heap.size w w') := fun hh ht => by
    obtain ⟨_, _, _, p⟩ := is_press (hq.trans hh) ht s
    obtain ⟨⟨⟨u, v⟩, b⟩, h9⟩ : ∃ T, tellT 9 s e = T := ⟨_, rfl⟩
    refine ⟨u, v, ?_⟩
    have hb : b = (decide (e.typ = 1) && decide (e.btn ≤ 3)) := by
      rw [← p]
      cases hi : isT 9 s e with
      | true => rw [tell_yes hi] at h9; exact (Prod.mk.inj h9).2.symm
      | false => rw [tell_no hi] at h9; exact (Prod.mk.inj h9).2.symm
    rw [← hb]
    exact H.tell_hid h9
  clear hq
  obtain ⟨btn, typ, x, y, md⟩ := e
  obtain ⟨sx, sy⟩ := s
  simp only [msV, ceV] at HM HP HQ ⊢
  have hB := ((Below.refl w.heap.size w).alloc (Nat.le_refl _) (.cells #[.int .i64 sx, .int .i64 sy] 23)).alloc (by simp) (.cells #[.int .i64 btn, .int .i64 typ, .int .i64 x, .int .i64 y, .int .i64 md] 25)
  have r0 := (Blk.new w 23 #[.int .i64 sx, .int .i64 sy]).alloc (.cells #[.int .i64 btn, .int .i64 typ, .int .i64 x, .int .i64 y, .int .i64 md] 25)
  have k0 := Blk.new (w.alloc (.cells #[.int .i64 sx, .int .i64 sy] 23)) 25 #[.int .i64 btn, .int .i64 typ, .int .i64 x, .int .i64 y, .int .i64 md]
  rw [World.size_alloc] at k0
  have hv0 := H.invB hv hB
  obtain ⟨b0, b1, b2, b3, b4⟩ := Blk.cells5 k0
  obtain ⟨a0, a1⟩ := And.intro (r0.cell 0) (r0.cell 1)
  go_enter Try.func6, Try.ntmps6
  go_wp2_with fail
  refine (trkAwake H _ hv0).mono ?_
  rintro z w1 ⟨rfl, hb⟩
  have hB1 := hB.trans (hb.mono hB.size)
  replace k0 := k0.below hb k0.lt
  replace r0 := r0.below hb r0.lt
  clear b0 b1 b2 b3 b4 a0 a1 hb hB hv0
  obtain ⟨b0, b1, b2, b3, b4⟩ := Blk.cells5 k0
  obtain ⟨a0, a1⟩ := And.intro (r0.cell 0) (r0.cell 1)
  go_wp2_with fail
  refine (HM.out _ (H.invB hv hB1)).mono ?_
  rintro z w2 ⟨rfl, hb⟩
  have hB2 := hB1.trans (hb.mono hB1.size)
  replace k0 := k0.below hb k0.lt
  replace r0 := r0.below hb r0.lt
  clear b0 b1 b2 b3 b4 a0 a1 hb hB1
  obtain ⟨b0, b1, b2, b3, b4⟩ := Blk.cells5 k0
  obtain ⟨a0, a1⟩ := And.intro (r0.cell 0) (r0.cell 1)
  cases q with
  | false =>
    clear HP HQ
    go_wp2_with fail
    go_ret
    exact ⟨rfl, hB2⟩
  | true =>
    by_cases t4 : typ = 4
    · subst t4
      clear HP HQ
      go_wp2_with fail
      go_ret
      exact ⟨rfl, hB2⟩
    · have HPb := HP rfl t4
      obtain ⟨u, v, HQb⟩ := HQ rfl t4
      have u4 : (typ == 4) = false := beq_false_of_ne t4
      clear t4
      have tm : Int.tmod wh 3 = wh % 3 := Int.tmod_eq_emod_of_nonneg h0
      have hw3 : IntKind.u8.wrap (wh % 3) = wh % 3 := by rw [IntKind.wrap_u8]; omega
      obtain ⟨r, hr⟩ : ∃ r : Nat, wh % 3 = (r : Int) := ⟨(wh % 3).toNat, by omega⟩
      have hr3 : r < 3 := by omega
      obtain ⟨mo, hmo, hmm⟩ : ∃ mo, (#[.int .i64 1000, .int .i64 1002, .int .i64 1003] : Array Value)[r]? = some (.int .i64 mo) ∧ (mo = 1000 ∨ mo = 1002 ∨ mo = 1003) := by
        match r, hr3 with
        | 0, _ => exact ⟨1000, rfl, by simp⟩
        | 1, _ => exact ⟨1002, rfl, by simp⟩
        | 2, _ => exact ⟨1003, rfl, by simp⟩
      have HPc := HPb mo hmm
      rw [hr] at tm hw3
      have hv2 := H.invB hv hB2
      have HV : Hid (∀ W, Below w2.heap.size w2 W → Inv W) := Lib.hid fun W hW => H.invB hv2 hW
      have hst : ∀ f ∈ ([⟨0, 23, FRw #[.int .i64 1000, .int .i64 1002, .int .i64 1003] 3⟩, ⟨3, 26, FPt #[.int .i64 1000, .int .i64 1002, .int .i64 1003] r⟩, ⟨15, 8, FNew w2 27 #[.int .i64 0, .int .i64 0]⟩] : List Fact), f.ok := List.forall_mem_cons.2 ⟨frw_ok _ _ _ _, List.forall_mem_cons.2 ⟨fpt_ok _ _ _ _, List.forall_mem_cons.2 ⟨fnew_ok _ _ _ _ _, fun _ h => by cases h⟩⟩⟩
      clear hr hmm h0 _h1 HP HPb HQ
      go_wp2_with fail
      refine wp_region_last (w1 := w2) (K := [⟨0, 23, FRw #[.int .i64 1000, .int .i64 1002, .int .i64 1003] 3⟩, ⟨3, 26, FPt #[.int .i64 1000, .int .i64 1002, .int .i64 1003] r⟩, ⟨15, 8, FNew w2 27 #[.int .i64 0, .int .i64 0]⟩]) (ix := 16) (iz := 16) (R0 := fun _ _ _ => True) (R1 := fun g _ w => Below w2.heap.size w2 w ∧ FNew w2 27 #[.int .i64 x, .int .i64 y] (g 8) w) [23, 26, 8] (⟨#[.agg #[.int .i64 sx, .int .i64 sy], .agg #[.int .i64 btn, .int .i64 typ, .int .i64 x, .int .i64 y, .int .i64 md], .int .u8 wh, .pointer (some ⟨w.heap.size, 0, none⟩), .pointer (some ⟨w.heap.size + 1, 0, none⟩), undef, .bool false, .bool true, undef, .bool true, undef, undef, .bool true, .agg #[.int .i64 btn, .int .i64 typ, .int .i64 x, .int .i64 y, .int .i64 md], .bool true, .bool false, .bool false, .pointer (some ⟨w.heap.size + 1, 1, none⟩), .int .i64 typ, .bool false, .bool false, undef, .tuple #[.agg #[.int .i64 x, .int .i64 y], .bool true], undef, .int .u8 wh, .int .u8 (r : Int), undef, .int .i64 mo, .pointer (some ⟨w.heap.size, 0, none⟩), .int .i64 sx, .pointer (some ⟨w.heap.size, 1, none⟩), .int .i64 sy, .agg #[.int .i64 sx, .int .i64 sy], .agg #[.int .i64 btn, .int .i64 typ, .int .i64 x, .int .i64 y, .int .i64 md], .tuple #[.agg #[.int .i64 x, .int .i64 y], .bool true], .agg #[.int .i64 x, .int .i64 y], .bool true, undef, undef, undef, undef, undef, undef, undef, undef, undef, undef, undef, undef, undef, undef, undef, undef, undef, undef, undef, undef, undef, undef, undef, undef, undef, undef], []⟩) (fun g => ⟨#[.agg #[.int .i64 sx, .int .i64 sy], .agg #[.int .i64 btn, .int .i64 typ, .int .i64 x, .int .i64 y, .int .i64 md], .int .u8 wh, .pointer (some ⟨w.heap.size, 0, none⟩), .pointer (some ⟨w.heap.size + 1, 0, none⟩), undef, .bool false, .bool true, (g 8), .bool true, undef, undef, .bool true, .agg #[.int .i64 btn, .int .i64 typ, .int .i64 x, .int .i64 y, .int .i64 md], .bool true, .bool false, .bool false, .pointer (some ⟨w.heap.size + 1, 1, none⟩), .int .i64 typ, .bool false, .bool false, undef, .tuple #[.agg #[.int .i64 x, .int .i64 y], .bool true], (g 23), .int .u8 wh, .int .u8 (r : Int), (g 26), .int .i64 mo, .pointer (some ⟨w.heap.size, 0, none⟩), .int .i64 sx, .pointer (some ⟨w.heap.size, 1, none⟩), .int .i64 sy, .agg #[.int .i64 sx, .int .i64 sy], .agg #[.int .i64 btn, .int .i64 typ, .int .i64 x, .int .i64 y, .int .i64 md], .tuple #[.agg #[.int .i64 x, .int .i64 y], .bool true], .agg #[.int .i64 x, .int .i64 y], .bool true, undef, undef, undef, undef, undef, undef, undef, undef, undef, undef, undef, undef, undef, undef, undef, undef, undef, undef, undef, undef, undef, undef, undef, undef, undef, undef], []⟩) [undef, .int .u8 wh, .int .u8 (r : Int), undef, .int .i64 mo, .pointer (some ⟨w.heap.size, 0, none⟩), .int .i64 sx, .pointer (some ⟨w.heap.size, 1, none⟩), .int .i64 sy, .agg #[.int .i64 sx, .int .i64 sy], .agg #[.int .i64 btn, .int .i64 typ, .int .i64 x, .int .i64 y, .int .i64 md], .tuple #[.agg #[.int .i64 x, .int .i64 y], .bool true], .tuple #[.agg #[.int .i64 x, .int .i64 y], .bool true], .agg #[.int .i64 x, .int .i64 y], .bool true, undef, undef, .bool true] (by kernel_rfl) (by kernel_rfl) (by kernel_rfl) (fun g => by kernel_rfl) (by kernel_rfl) (Below.refl _ _).drew (by decide)
        (goes_cons (goesK_any hst (ahead_path [13, 12, 11, 4, 3, 0] (by kernel_rfl) (by decide)) rfl (by decide) (by decide) 0 rfl (by kernel_rfl) (fun g => by kernel_rfl) rfl (fun g => by kernel_rfl) (fun g W hW hin => frw_made (by kernel_rfl))) 
        (goes_cons (goesK_pure (fun g => .int .u8 wh) rfl (by decide) (by decide) (by kernel_rfl) (fun g => by kernel_rfl) rfl (fun g => by kernel_rfl) (fun g w => by kernel_rfl)) 
        (goes_cons (goesK_pure (fun g => .int .u8 (r : Int)) rfl (by decide) (by decide) (by kernel_rfl) (fun g => by kernel_rfl) rfl (fun g => by kernel_rfl) (fun g w => by go_simp)) 
        (goes_cons (goesK_any hst (ahead_path [13, 12, 11, 4, 3] (by kernel_rfl) (by decide)) rfl (by decide) (by decide) 1 rfl (by kernel_rfl) (fun g => by kernel_rfl) rfl (fun g => by kernel_rfl) (fun g W hW hin => fpt_made rfl rfl rfl hr3 (hin 0 _ rfl (by kernel_rfl)))) 
        (goes_cons (goesK_know (.int .i64 mo) hst (ahead_path [13, 12, 11, 4] (by kernel_rfl) (by decide)) rfl (by decide) (by decide) (by kernel_rfl) (fun g => by kernel_rfl) rfl (fun g => by kernel_rfl) (fun g w hW hin => fpt_load rfl rfl (hin 1 _ rfl (by kernel_rfl)) hmo)) 
        (goes_cons (goesK_pure (fun g => .pointer (some ⟨w.heap.size, 0, none⟩)) rfl (by decide) (by decide) (by kernel_rfl) (fun g => by kernel_rfl) rfl (fun g => by kernel_rfl) (fun g w => by kernel_rfl)) 
        (goes_cons (goesK_cell hst (ahead_path [13, 12, 11, 9, 6] (by kernel_rfl) (by decide)) rfl (by decide) (by decide) (by kernel_rfl) (fun g => by kernel_rfl) rfl (fun g => by kernel_rfl) rfl (fun g => by kernel_rfl) (fun W hW => (r0.below hW r0.lt).cell 0) (fun w => by kernel_rfl)) 
        (goes_cons (goesK_pure (fun g => .pointer (some ⟨w.heap.size, 1, none⟩)) rfl (by decide) (by decide) (by kernel_rfl) (fun g => by kernel_rfl) rfl (fun g => by kernel_rfl) (fun g w => by kernel_rfl)) 
        (goes_cons (goesK_cell hst (ahead_path [13, 12, 11, 9, 8] (by kernel_rfl) (by decide)) rfl (by decide) (by decide) (by kernel_rfl) (fun g => by kernel_rfl) rfl (fun g => by kernel_rfl) rfl (fun g => by kernel_rfl) (fun W hW => (r0.below hW r0.lt).cell 1) (fun w => by kernel_rfl)) 
        (goes_cons (goesK_pure (fun g => .agg #[.int .i64 sx, .int .i64 sy]) rfl (by decide) (by decide) (by kernel_rfl) (fun g => by kernel_rfl) rfl (fun g => by kernel_rfl) (fun g w => by kernel_rfl)) 
        (goes_cons (goesK_load hst (ahead_path [13, 12, 11, 10] (by kernel_rfl) (by decide)) rfl (by decide) (by decide) (by kernel_rfl) (fun g => by kernel_rfl) rfl (fun g => by kernel_rfl) rfl (fun g => by kernel_rfl) (fun W hW => k0.below hW k0.lt) Try.underlying25 rfl (by kernel_rfl)) 
        (goes_cons (goesK_call (args := fun g => #[.int .i64 mo, .agg #[.int .i64 sx, .int .i64 sy], .agg #[.int .i64 btn, .int .i64 typ, .int .i64 x, .int .i64 y, .int .i64 md]]) hst (ahead_path [13, 12, 11] (by kernel_rfl) (by decide)) rfl (by decide) (by decide) (by kernel_rfl) (fun g => by kernel_rfl) rfl (fun g => by kernel_rfl) (fun g w => by kernel_rfl) (fun g W hW hin => HPc.out W (HV.out W hW))) 
        (goes_cons (goesK_pure (fun g => .tuple #[.agg #[.int .i64 x, .int .i64 y], .bool true]) rfl (by decide) (by decide) (by kernel_rfl) (fun g => by kernel_rfl) rfl (fun g => by kernel_rfl) (fun g w => by kernel_rfl)) 
        (goes_cons (goesK_pure (fun g => .agg #[.int .i64 x, .int .i64 y]) rfl (by decide) (by decide) (by kernel_rfl) (fun g => by kernel_rfl) rfl (fun g => by kernel_rfl) (fun g w => by kernel_rfl)) 
        (goes_cons (goesK_pure (fun g => .bool true) rfl (by decide) (by decide) (by kernel_rfl) (fun g => by kernel_rfl) rfl (fun g => by kernel_rfl) (fun g w => by kernel_rfl)) 
        (goes_cons (goesK_new hst (ahead_path [15] (by kernel_rfl) (by decide)) rfl (by decide) (by decide) 2 rfl (by kernel_rfl) (fun g => by kernel_rfl) rfl (fun g => by kernel_rfl) (fun g w => by kernel_rfl)) 
        (goes_cons (goesP_put rfl rfl rfl (List.forall_mem_cons.2 ⟨⟨show (0 : Nat) ≠ 16 by decide, [13, 12, 11, 4, 3, 0], by kernel_rfl, show (0 : Nat) ∈ [13, 12, 11, 4, 3, 0] by decide⟩, List.forall_mem_cons.2 ⟨⟨show (3 : Nat) ≠ 16 by decide, [13, 12, 11, 4, 3], by kernel_rfl, show (3 : Nat) ∈ [13, 12, 11, 4, 3] by decide⟩, List.forall_mem_cons.2 ⟨⟨show (15 : Nat) ≠ 16 by decide, [15], by kernel_rfl, show (15 : Nat) ∈ [15] by decide⟩, fun _ h => by cases h⟩⟩⟩) 2 rfl (fun g => by kernel_rfl) rfl rfl (fun g => by kernel_rfl) (fun g => by kernel_rfl) rfl (by kernel_rfl) (by kernel_rfl)) 
        (goes_cons (goesK_pure (fun g => .bool true) rfl (by decide) (by decide) (by kernel_rfl) (fun g => by kernel_rfl) rfl (fun g => by kernel_rfl) (fun g w => by kernel_rfl)) goes_nil)))))))))))))))))) ?_
      rintro g _ w3 _ _ ⟨hb3, b8_, g8, s8_, k8⟩
      rw [g8]
      generalize g 23 = v23
      generalize g 26 = v26
      clear g8 hst HPc HV hmo hr3 tm hw3
      have hB3 := hB2.trans (hb3.mono hB2.size)
      replace k0 := k0.below hb3 k0.lt
      replace r0 := r0.below hb3 r0.lt
      have hv3 := H.invB hv hB3
      clear hB2 hb3 hv2 b0 b1 b2 b3 b4 a0 a1 k8
      obtain ⟨b0, b1, b2, b3, b4⟩ := Blk.cells5 k0
      obtain ⟨a0, a1⟩ := And.intro (r0.cell 0) (r0.cell 1)
      go_wp2_with fail
      refine (HQb.out _ hv3).mono ?_
      rintro z w4 ⟨rfl, hb4⟩
      have hB4 := (hB3.trans (hb4.mono hB3.size)).alloc (hB3.trans (hb4.mono hB3.size)).size (.cells #[.int .i64 u, .int .i64 v] 27)
      replace k0 := (k0.below hb4 k0.lt).alloc (.cells #[.int .i64 u, .int .i64 v] 27)
      clear hB3 hb4 hv3 b0 b1 b2 b3 b4 a0 a1 r0
      go_upto_region 6 with (fail)
      generalize hW4 : w4.alloc (.cells #[.int .i64 u, .int .i64 v] 27) = w5 at *
      clear hW4
      obtain ⟨b0, b1, b2, b3, b4⟩ := Blk.cells5 k0
      by_cases c1 : typ = 1
      · by_cases c2 : btn ≤ 3
        · subst c1
          have d2 : decide (btn ≤ 3) = true := decide_eq_true c2
          go_wp2_with fail
          go_ret
          exact ⟨rfl, hB4⟩
        · subst c1
          have d2 : decide (btn ≤ 3) = false := decide_eq_false c2
          go_wp2_with fail
          go_ret
          exact ⟨rfl, hB4⟩
      · have d1 : (typ == 1) = false := beq_false_of_ne c1
        have e2 : (decide (typ = 1) && decide (btn ≤ 3)) = false := by rw [decide_eq_false c1]; rfl
        simp only [e2]
        go_wp2_with fail
        go_ret
        exact ⟨rfl, hB4⟩
end Go.Proofs.Ytbdpjhlfaelgpaa
