/-
  Layer 15, the laws' walks over the bundle: TrackMore.
-/
import Derived.Test.YtbdpjhlfaelgpaaTrkQ
namespace Go.Proofs.Ytbdpjhlfaelgpaa
open Go.RowKit

variable {Inv : World → Prop}
/-- What was told ahead of the k-th mode. -/
def tbT (b0 b1 b2 b3 : Bool) : Nat → Bool
  | 0 => false
  | 1 => b0
  | 2 => b1
  | 3 => b2
  | _ => b3
set_option maxRecDepth 100000 in
set_option maxHeartbeats 32000000 in
theorem trackMore_walk (H : TrkC Inv) (s : Ce) (e : Ms) (mode : Int) (_ : -9223372036854775808 ≤ mode) (_ : mode ≤ 9223372036854775807) (w : World) (hv : Inv w) : Calls Try.prog 4 #[ceV s, msV e, .int .i64 mode] w fun x w' => x = .returned (.bool true) ∧ Below w.heap.size w w' := by
  obtain ⟨⟨⟨u, v⟩, b⟩, hT⟩ : ∃ T, tellT mode s e = T := ⟨_, rfl⟩
  have H5 := H.tell_hid hT
  have HKN := Lib.hid (show ¬ (mode = 9 ∨ mode = 1000 ∨ mode = 1002 ∨ mode = 1003) → (u = s.x ∧ v = s.y) ∧ b = false from fun h => by
    rw [tell_no (is_known h s e)] at hT
    obtain ⟨h1, h2⟩ := Prod.mk.inj hT
    rw [← h2, h1]
    exact ⟨⟨rfl, rfl⟩, rfl⟩)
  obtain ⟨m1, m2, m3⟩ := is_more s e
  have hsnd : ∀ mo, (tellT mo s e).2 = isT mo s e := fun mo => by
    cases h : isT mo s e with
    | true => rw [tell_yes h]
    | false => rw [tell_no h]
  obtain ⟨⟨⟨u0, v0⟩, b0⟩, hT0⟩ : ∃ T, tellT 9 s e = T := ⟨_, rfl⟩
  have T0 := H.tell_hid hT0
  have q0 := hsnd 9
  rw [hT0] at q0
  simp only at q0
  obtain ⟨⟨⟨u1, v1⟩, b1⟩, hT1⟩ : ∃ T, tellT 1000 s e = T := ⟨_, rfl⟩
  have T1 := H.tell_hid hT1
  have q1 := hsnd 1000
  rw [hT1] at q1
  simp only at q1
  obtain ⟨⟨⟨u2, v2⟩, b2⟩, hT2⟩ : ∃ T, tellT 1002 s e = T := ⟨_, rfl⟩
  have T2 := H.tell_hid hT2
  have q2 := hsnd 1002
  rw [hT2] at q2
  simp only at q2
  obtain ⟨⟨⟨u3, v3⟩, b3⟩, hT3⟩ : ∃ T, tellT 1003 s e = T := ⟨_, rfl⟩
  have T3 := H.tell_hid hT3
  have q3 := hsnd 1003
  rw [hT3] at q3
  simp only at q3
  rw [← q0, ← q1] at m1
  rw [← q1, ← q2] at m2
  rw [← q2, ← q3] at m3
  have M1 := Lib.hid m1
  have M2 := Lib.hid m2
  have M3 := Lib.hid m3
  clear hT hsnd m1 m2 m3 q0 q1 q2 q3 hT0 hT1 hT2 hT3
  obtain ⟨btn, typ, x, y, md⟩ := e
  obtain ⟨sx, sy⟩ := s
  simp only [msV, ceV] at T0 T1 T2 T3 H5 HKN ⊢
  have hB := ((Below.refl w.heap.size w).alloc (Nat.le_refl _) (.cells #[.int .i64 sx, .int .i64 sy] 23)).alloc (by simp) (.cells #[.int .i64 btn, .int .i64 typ, .int .i64 x, .int .i64 y, .int .i64 md] 25)
  have r0 := (Blk.new w 23 #[.int .i64 sx, .int .i64 sy]).alloc (.cells #[.int .i64 btn, .int .i64 typ, .int .i64 x, .int .i64 y, .int .i64 md] 25)
  have k0 := Blk.new (w.alloc (.cells #[.int .i64 sx, .int .i64 sy] 23)) 25 #[.int .i64 btn, .int .i64 typ, .int .i64 x, .int .i64 y, .int .i64 md]
  rw [World.size_alloc] at k0
  have hv0 := H.invB hv hB
  go_enter Try.func4, Try.ntmps4
  go_wp2_with fail
  refine (trkAwake H _ hv0).mono ?_
  rintro z w1 ⟨rfl, hb⟩
  have hB1 := hB.trans (hb.mono hB.size)
  have l0 := Blk.new w1 3 #[.int .i64 9, .int .i64 1000, .int .i64 1002, .int .i64 1003]
  replace k0 := (k0.below hb k0.lt).alloc (.cells #[.int .i64 9, .int .i64 1000, .int .i64 1002, .int .i64 1003] 3)
  replace r0 := (r0.below hb r0.lt).alloc (.cells #[.int .i64 9, .int .i64 1000, .int .i64 1002, .int .i64 1003] 3)
  have hB2 := hB1.alloc hB1.size (.cells #[.int .i64 9, .int .i64 1000, .int .i64 1002, .int .i64 1003] 3)
  clear hb hB hv0 hB1
  go_upto_region 3 with (fail)
  generalize hW2 : w1.alloc (.cells #[.int .i64 9, .int .i64 1000, .int .i64 1002, .int .i64 1003] 3) = w2 at *
  clear hW2
  go_wp2_with fail
  go_loopw [9, 10] (fun td i wr => ∃ k : Nat, k ≤ 4 ∧ i = .int .i64 k ∧ td = .bool (tbT b0 b1 b2 b3 k) ∧ Below w2.heap.size w2 wr) (fun _ i _ => 4 - (intOf i).toNat)
  case atStart => exact ⟨0, by omega, rfl, rfl, Below.refl _ _⟩
  case round =>
    obtain ⟨k, hk, rfl, rfl, hbw⟩ := hrel
    replace k0 := k0.below hbw k0.lt
    replace r0 := r0.below hbw r0.lt
    replace l0 := l0.below hbw l0.lt
    have hB3 := hB2.trans (hbw.mono hB2.size)
    have hv3 := H.invB hv hB3
    have HV : Hid (∀ W, Below wr.heap.size wr W → Inv W) := Lib.hid fun W hW => H.invB hv3 hW
    have hk5 : k = 0 ∨ k = 1 ∨ k = 2 ∨ k = 3 ∨ k = 4 := by omega
    clear hk
    rcases hk5 with rfl | rfl | rfl | rfl | rfl
    · obtain ⟨U0, hU⟩ : ∃ U, u0 = U := ⟨_, rfl⟩
      obtain ⟨V0, hV⟩ : ∃ V, v0 = V := ⟨_, rfl⟩
      rw [hU, hV] at T0
      clear hU hV
      have hst : ∀ f ∈ ([⟨14, 11, FNew wr 27 #[.int .i64 0, .int .i64 0]⟩] : List Fact), f.ok := List.forall_mem_cons.2 ⟨fnew_ok _ _ _ _ _, fun _ h => by cases h⟩
      go_wp2_with fail
      refine wp_region_last (w1 := wr) (K := [⟨14, 11, FNew wr 27 #[.int .i64 0, .int .i64 0]⟩]) (ix := 15) (iz := 15) (R0 := fun _ _ _ => True) (R1 := fun g _ w => Below wr.heap.size wr w ∧ FNew wr 27 #[.int .i64 U0, .int .i64 V0] (g 11) w) [11] (⟨#[.agg #[.int .i64 sx, .int .i64 sy], .agg #[.int .i64 btn, .int .i64 typ, .int .i64 x, .int .i64 y, .int .i64 md], .int .i64 mode, .pointer (some ⟨w.heap.size, 0, none⟩), .pointer (some ⟨w.heap.size + 1, 0, none⟩), undef, u6, .bool true, .slice (some ⟨w1.heap.size, 0, none⟩) 4 4, .bool false, .int .i64 0, undef, .bool b0, undef, undef, undef, .bool true, .slice (some ⟨w1.heap.size, 0, none⟩) 4 4, .int .i64 0, .slice (some ⟨w1.heap.size, 0, none⟩) 4 4, .int .i64 4, .bool true, u22, u23, .tuple #[.agg #[.int .i64 U0, .int .i64 V0], .bool b0], .slice (some ⟨w1.heap.size, 0, none⟩) 4 4, .int .i64 0, .pointer (some ⟨w1.heap.size, 0, none⟩), .int .i64 9, .pointer (some ⟨w.heap.size, 0, none⟩), .int .i64 sx, .pointer (some ⟨w.heap.size, 1, none⟩), .int .i64 sy, .agg #[.int .i64 sx, .int .i64 sy], .agg #[.int .i64 btn, .int .i64 typ, .int .i64 x, .int .i64 y, .int .i64 md], .tuple #[.agg #[.int .i64 U0, .int .i64 V0], .bool b0], .agg #[.int .i64 U0, .int .i64 V0], .bool b0, u38, u39, u40, u41, u42, u43, undef, undef, undef, undef, undef, undef, undef, undef, undef, undef, undef, undef, undef, undef, undef, undef, undef, undef, undef, undef, undef, undef, undef, undef, undef, undef, undef, undef, undef, undef, undef, undef, undef, undef, undef, undef, undef, undef, undef, undef, undef, undef], []⟩) (fun g => ⟨#[.agg #[.int .i64 sx, .int .i64 sy], .agg #[.int .i64 btn, .int .i64 typ, .int .i64 x, .int .i64 y, .int .i64 md], .int .i64 mode, .pointer (some ⟨w.heap.size, 0, none⟩), .pointer (some ⟨w.heap.size + 1, 0, none⟩), undef, u6, .bool true, .slice (some ⟨w1.heap.size, 0, none⟩) 4 4, .bool false, .int .i64 0, (g 11), .bool b0, undef, undef, undef, .bool true, .slice (some ⟨w1.heap.size, 0, none⟩) 4 4, .int .i64 0, .slice (some ⟨w1.heap.size, 0, none⟩) 4 4, .int .i64 4, .bool true, u22, u23, .tuple #[.agg #[.int .i64 U0, .int .i64 V0], .bool b0], .slice (some ⟨w1.heap.size, 0, none⟩) 4 4, .int .i64 0, .pointer (some ⟨w1.heap.size, 0, none⟩), .int .i64 9, .pointer (some ⟨w.heap.size, 0, none⟩), .int .i64 sx, .pointer (some ⟨w.heap.size, 1, none⟩), .int .i64 sy, .agg #[.int .i64 sx, .int .i64 sy], .agg #[.int .i64 btn, .int .i64 typ, .int .i64 x, .int .i64 y, .int .i64 md], .tuple #[.agg #[.int .i64 U0, .int .i64 V0], .bool b0], .agg #[.int .i64 U0, .int .i64 V0], .bool b0, u38, u39, u40, u41, u42, u43, undef, undef, undef, undef, undef, undef, undef, undef, undef, undef, undef, undef, undef, undef, undef, undef, undef, undef, undef, undef, undef, undef, undef, undef, undef, undef, undef, undef, undef, undef, undef, undef, undef, undef, undef, undef, undef, undef, undef, undef, undef, undef], []⟩) [.slice (some ⟨w1.heap.size, 0, none⟩) 4 4, .int .i64 0, .pointer (some ⟨w1.heap.size, 0, none⟩), .int .i64 9, .pointer (some ⟨w.heap.size, 0, none⟩), .int .i64 sx, .pointer (some ⟨w.heap.size, 1, none⟩), .int .i64 sy, .agg #[.int .i64 sx, .int .i64 sy], .agg #[.int .i64 btn, .int .i64 typ, .int .i64 x, .int .i64 y, .int .i64 md], .tuple #[.agg #[.int .i64 U0, .int .i64 V0], .bool b0], .tuple #[.agg #[.int .i64 U0, .int .i64 V0], .bool b0], .agg #[.int .i64 U0, .int .i64 V0], .bool b0, undef, undef, .bool b0] (by kernel_rfl) (by kernel_rfl) (by kernel_rfl) (fun g => by kernel_rfl) (by kernel_rfl) (Below.refl _ _).drew (by decide)
        (goes_cons (goesK_pure (fun g => .slice (some ⟨w1.heap.size, 0, none⟩) 4 4) rfl (by decide) (by decide) (by kernel_rfl) (fun g => by kernel_rfl) rfl (fun g => by kernel_rfl) (fun g w => by kernel_rfl)) 
        (goes_cons (goesK_pure (fun g => .int .i64 0) rfl (by decide) (by decide) (by kernel_rfl) (fun g => by kernel_rfl) rfl (fun g => by kernel_rfl) (fun g w => by kernel_rfl)) 
        (goes_cons (goesK_pure (fun g => .pointer (some ⟨w1.heap.size, 0, none⟩)) rfl (by decide) (by decide) (by kernel_rfl) (fun g => by kernel_rfl) rfl (fun g => by kernel_rfl) (fun g w => by kernel_rfl)) 
        (goes_cons (goesK_cell hst (ahead_path [12, 11, 10, 3] (by kernel_rfl) (by decide)) rfl (by decide) (by decide) (by kernel_rfl) (fun g => by kernel_rfl) rfl (fun g => by kernel_rfl) rfl (fun g => by kernel_rfl) (fun W hW => (l0.below hW l0.lt).cell 0) (fun w => by kernel_rfl)) 
        (goes_cons (goesK_pure (fun g => .pointer (some ⟨w.heap.size, 0, none⟩)) rfl (by decide) (by decide) (by kernel_rfl) (fun g => by kernel_rfl) rfl (fun g => by kernel_rfl) (fun g w => by kernel_rfl)) 
        (goes_cons (goesK_cell hst (ahead_path [12, 11, 10, 8, 5] (by kernel_rfl) (by decide)) rfl (by decide) (by decide) (by kernel_rfl) (fun g => by kernel_rfl) rfl (fun g => by kernel_rfl) rfl (fun g => by kernel_rfl) (fun W hW => (r0.below hW r0.lt).cell 0) (fun w => by kernel_rfl)) 
        (goes_cons (goesK_pure (fun g => .pointer (some ⟨w.heap.size, 1, none⟩)) rfl (by decide) (by decide) (by kernel_rfl) (fun g => by kernel_rfl) rfl (fun g => by kernel_rfl) (fun g w => by kernel_rfl)) 
        (goes_cons (goesK_cell hst (ahead_path [12, 11, 10, 8, 7] (by kernel_rfl) (by decide)) rfl (by decide) (by decide) (by kernel_rfl) (fun g => by kernel_rfl) rfl (fun g => by kernel_rfl) rfl (fun g => by kernel_rfl) (fun W hW => (r0.below hW r0.lt).cell 1) (fun w => by kernel_rfl)) 
        (goes_cons (goesK_pure (fun g => .agg #[.int .i64 sx, .int .i64 sy]) rfl (by decide) (by decide) (by kernel_rfl) (fun g => by kernel_rfl) rfl (fun g => by kernel_rfl) (fun g w => by kernel_rfl)) 
        (goes_cons (goesK_load hst (ahead_path [12, 11, 10, 9] (by kernel_rfl) (by decide)) rfl (by decide) (by decide) (by kernel_rfl) (fun g => by kernel_rfl) rfl (fun g => by kernel_rfl) rfl (fun g => by kernel_rfl) (fun W hW => k0.below hW k0.lt) Try.underlying25 rfl (by kernel_rfl)) 
        (goes_cons (goesK_call (args := fun g => #[.int .i64 9, .agg #[.int .i64 sx, .int .i64 sy], .agg #[.int .i64 btn, .int .i64 typ, .int .i64 x, .int .i64 y, .int .i64 md]]) hst (ahead_path [12, 11, 10] (by kernel_rfl) (by decide)) rfl (by decide) (by decide) (by kernel_rfl) (fun g => by kernel_rfl) rfl (fun g => by kernel_rfl) (fun g w => by kernel_rfl) (fun g W hW hin => T0.out W (HV.out W hW))) 
        (goes_cons (goesK_pure (fun g => .tuple #[.agg #[.int .i64 U0, .int .i64 V0], .bool b0]) rfl (by decide) (by decide) (by kernel_rfl) (fun g => by kernel_rfl) rfl (fun g => by kernel_rfl) (fun g w => by kernel_rfl)) 
        (goes_cons (goesK_pure (fun g => .agg #[.int .i64 U0, .int .i64 V0]) rfl (by decide) (by decide) (by kernel_rfl) (fun g => by kernel_rfl) rfl (fun g => by kernel_rfl) (fun g w => by kernel_rfl)) 
        (goes_cons (goesK_pure (fun g => .bool b0) rfl (by decide) (by decide) (by kernel_rfl) (fun g => by kernel_rfl) rfl (fun g => by kernel_rfl) (fun g w => by kernel_rfl)) 
        (goes_cons (goesK_new hst (ahead_path [14] (by kernel_rfl) (by decide)) rfl (by decide) (by decide) 0 rfl (by kernel_rfl) (fun g => by kernel_rfl) rfl (fun g => by kernel_rfl) (fun g w => by kernel_rfl)) 
        (goes_cons (goesP_put rfl rfl rfl (List.forall_mem_cons.2 ⟨⟨show (14 : Nat) ≠ 15 by decide, [14], by kernel_rfl, show (14 : Nat) ∈ [14] by decide⟩, fun _ h => by cases h⟩) 0 rfl (fun g => by kernel_rfl) rfl rfl (fun g => by kernel_rfl) (fun g => by kernel_rfl) rfl (by kernel_rfl) (by kernel_rfl)) 
        (goes_cons (goesK_pure (fun g => .bool b0) rfl (by decide) (by decide) (by kernel_rfl) (fun g => by kernel_rfl) rfl (fun g => by kernel_rfl) (fun g w => by kernel_rfl)) goes_nil))))))))))))))))) ?_
      rintro g _ w4 _ _ ⟨hb4, b8_, g8, s8_, k8⟩
      rw [g8]
      have hB4 := hbw.trans (hb4.mono hbw.size)
      clear g8 hst HV k8 hv3 hB3 k0 r0 l0 hbw hb4
      go_wp2_with fail
      go_roundw
      case rel => exact ⟨1, by omega, rfl, rfl, hB4⟩
      case measure => simp [intOf]
    · obtain ⟨U1, hU⟩ : ∃ U, u1 = U := ⟨_, rfl⟩
      obtain ⟨V1, hV⟩ : ∃ V, v1 = V := ⟨_, rfl⟩
      rw [hU, hV] at T1
      clear hU hV
      have hst : ∀ f ∈ ([⟨14, 11, FNew wr 27 #[.int .i64 0, .int .i64 0]⟩] : List Fact), f.ok := List.forall_mem_cons.2 ⟨fnew_ok _ _ _ _ _, fun _ h => by cases h⟩
      go_wp2_with fail
      refine wp_region_last (w1 := wr) (K := [⟨14, 11, FNew wr 27 #[.int .i64 0, .int .i64 0]⟩]) (ix := 15) (iz := 15) (R0 := fun _ _ _ => True) (R1 := fun g _ w => Below wr.heap.size wr w ∧ FNew wr 27 #[.int .i64 U1, .int .i64 V1] (g 11) w) [11] (⟨#[.agg #[.int .i64 sx, .int .i64 sy], .agg #[.int .i64 btn, .int .i64 typ, .int .i64 x, .int .i64 y, .int .i64 md], .int .i64 mode, .pointer (some ⟨w.heap.size, 0, none⟩), .pointer (some ⟨w.heap.size + 1, 0, none⟩), undef, u6, .bool true, .slice (some ⟨w1.heap.size, 0, none⟩) 4 4, .bool b0, .int .i64 1, undef, .bool b1, undef, undef, undef, .bool true, .slice (some ⟨w1.heap.size, 0, none⟩) 4 4, .int .i64 1, .slice (some ⟨w1.heap.size, 0, none⟩) 4 4, .int .i64 4, .bool true, u22, u23, .tuple #[.agg #[.int .i64 U1, .int .i64 V1], .bool b1], .slice (some ⟨w1.heap.size, 0, none⟩) 4 4, .int .i64 1, .pointer (some ⟨w1.heap.size, 1, none⟩), .int .i64 1000, .pointer (some ⟨w.heap.size, 0, none⟩), .int .i64 sx, .pointer (some ⟨w.heap.size, 1, none⟩), .int .i64 sy, .agg #[.int .i64 sx, .int .i64 sy], .agg #[.int .i64 btn, .int .i64 typ, .int .i64 x, .int .i64 y, .int .i64 md], .tuple #[.agg #[.int .i64 U1, .int .i64 V1], .bool b1], .agg #[.int .i64 U1, .int .i64 V1], .bool b1, u38, u39, u40, u41, u42, u43, undef, undef, undef, undef, undef, undef, undef, undef, undef, undef, undef, undef, undef, undef, undef, undef, undef, undef, undef, undef, undef, undef, undef, undef, undef, undef, undef, undef, undef, undef, undef, undef, undef, undef, undef, undef, undef, undef, undef, undef, undef, undef], []⟩) (fun g => ⟨#[.agg #[.int .i64 sx, .int .i64 sy], .agg #[.int .i64 btn, .int .i64 typ, .int .i64 x, .int .i64 y, .int .i64 md], .int .i64 mode, .pointer (some ⟨w.heap.size, 0, none⟩), .pointer (some ⟨w.heap.size + 1, 0, none⟩), undef, u6, .bool true, .slice (some ⟨w1.heap.size, 0, none⟩) 4 4, .bool b0, .int .i64 1, (g 11), .bool b1, undef, undef, undef, .bool true, .slice (some ⟨w1.heap.size, 0, none⟩) 4 4, .int .i64 1, .slice (some ⟨w1.heap.size, 0, none⟩) 4 4, .int .i64 4, .bool true, u22, u23, .tuple #[.agg #[.int .i64 U1, .int .i64 V1], .bool b1], .slice (some ⟨w1.heap.size, 0, none⟩) 4 4, .int .i64 1, .pointer (some ⟨w1.heap.size, 1, none⟩), .int .i64 1000, .pointer (some ⟨w.heap.size, 0, none⟩), .int .i64 sx, .pointer (some ⟨w.heap.size, 1, none⟩), .int .i64 sy, .agg #[.int .i64 sx, .int .i64 sy], .agg #[.int .i64 btn, .int .i64 typ, .int .i64 x, .int .i64 y, .int .i64 md], .tuple #[.agg #[.int .i64 U1, .int .i64 V1], .bool b1], .agg #[.int .i64 U1, .int .i64 V1], .bool b1, u38, u39, u40, u41, u42, u43, undef, undef, undef, undef, undef, undef, undef, undef, undef, undef, undef, undef, undef, undef, undef, undef, undef, undef, undef, undef, undef, undef, undef, undef, undef, undef, undef, undef, undef, undef, undef, undef, undef, undef, undef, undef, undef, undef, undef, undef, undef, undef], []⟩) [.slice (some ⟨w1.heap.size, 0, none⟩) 4 4, .int .i64 1, .pointer (some ⟨w1.heap.size, 1, none⟩), .int .i64 1000, .pointer (some ⟨w.heap.size, 0, none⟩), .int .i64 sx, .pointer (some ⟨w.heap.size, 1, none⟩), .int .i64 sy, .agg #[.int .i64 sx, .int .i64 sy], .agg #[.int .i64 btn, .int .i64 typ, .int .i64 x, .int .i64 y, .int .i64 md], .tuple #[.agg #[.int .i64 U1, .int .i64 V1], .bool b1], .tuple #[.agg #[.int .i64 U1, .int .i64 V1], .bool b1], .agg #[.int .i64 U1, .int .i64 V1], .bool b1, undef, undef, .bool b1] (by kernel_rfl) (by kernel_rfl) (by kernel_rfl) (fun g => by kernel_rfl) (by kernel_rfl) (Below.refl _ _).drew (by decide)
        (goes_cons (goesK_pure (fun g => .slice (some ⟨w1.heap.size, 0, none⟩) 4 4) rfl (by decide) (by decide) (by kernel_rfl) (fun g => by kernel_rfl) rfl (fun g => by kernel_rfl) (fun g w => by kernel_rfl)) 
        (goes_cons (goesK_pure (fun g => .int .i64 1) rfl (by decide) (by decide) (by kernel_rfl) (fun g => by kernel_rfl) rfl (fun g => by kernel_rfl) (fun g w => by kernel_rfl)) 
        (goes_cons (goesK_pure (fun g => .pointer (some ⟨w1.heap.size, 1, none⟩)) rfl (by decide) (by decide) (by kernel_rfl) (fun g => by kernel_rfl) rfl (fun g => by kernel_rfl) (fun g w => by kernel_rfl)) 
        (goes_cons (goesK_cell hst (ahead_path [12, 11, 10, 3] (by kernel_rfl) (by decide)) rfl (by decide) (by decide) (by kernel_rfl) (fun g => by kernel_rfl) rfl (fun g => by kernel_rfl) rfl (fun g => by kernel_rfl) (fun W hW => (l0.below hW l0.lt).cell 1) (fun w => by kernel_rfl)) 
        (goes_cons (goesK_pure (fun g => .pointer (some ⟨w.heap.size, 0, none⟩)) rfl (by decide) (by decide) (by kernel_rfl) (fun g => by kernel_rfl) rfl (fun g => by kernel_rfl) (fun g w => by kernel_rfl)) 
        (goes_cons (goesK_cell hst (ahead_path [12, 11, 10, 8, 5] (by kernel_rfl) (by decide)) rfl (by decide) (by decide) (by kernel_rfl) (fun g => by kernel_rfl) rfl (fun g => by kernel_rfl) rfl (fun g => by kernel_rfl) (fun W hW => (r0.below hW r0.lt).cell 0) (fun w => by kernel_rfl)) 
        (goes_cons (goesK_pure (fun g => .pointer (some ⟨w.heap.size, 1, none⟩)) rfl (by decide) (by decide) (by kernel_rfl) (fun g => by kernel_rfl) rfl (fun g => by kernel_rfl) (fun g w => by kernel_rfl)) 
        (goes_cons (goesK_cell hst (ahead_path [12, 11, 10, 8, 7] (by kernel_rfl) (by decide)) rfl (by decide) (by decide) (by kernel_rfl) (fun g => by kernel_rfl) rfl (fun g => by kernel_rfl) rfl (fun g => by kernel_rfl) (fun W hW => (r0.below hW r0.lt).cell 1) (fun w => by kernel_rfl)) 
        (goes_cons (goesK_pure (fun g => .agg #[.int .i64 sx, .int .i64 sy]) rfl (by decide) (by decide) (by kernel_rfl) (fun g => by kernel_rfl) rfl (fun g => by kernel_rfl) (fun g w => by kernel_rfl)) 
        (goes_cons (goesK_load hst (ahead_path [12, 11, 10, 9] (by kernel_rfl) (by decide)) rfl (by decide) (by decide) (by kernel_rfl) (fun g => by kernel_rfl) rfl (fun g => by kernel_rfl) rfl (fun g => by kernel_rfl) (fun W hW => k0.below hW k0.lt) Try.underlying25 rfl (by kernel_rfl)) 
        (goes_cons (goesK_call (args := fun g => #[.int .i64 1000, .agg #[.int .i64 sx, .int .i64 sy], .agg #[.int .i64 btn, .int .i64 typ, .int .i64 x, .int .i64 y, .int .i64 md]]) hst (ahead_path [12, 11, 10] (by kernel_rfl) (by decide)) rfl (by decide) (by decide) (by kernel_rfl) (fun g => by kernel_rfl) rfl (fun g => by kernel_rfl) (fun g w => by kernel_rfl) (fun g W hW hin => T1.out W (HV.out W hW))) 
        (goes_cons (goesK_pure (fun g => .tuple #[.agg #[.int .i64 U1, .int .i64 V1], .bool b1]) rfl (by decide) (by decide) (by kernel_rfl) (fun g => by kernel_rfl) rfl (fun g => by kernel_rfl) (fun g w => by kernel_rfl)) 
        (goes_cons (goesK_pure (fun g => .agg #[.int .i64 U1, .int .i64 V1]) rfl (by decide) (by decide) (by kernel_rfl) (fun g => by kernel_rfl) rfl (fun g => by kernel_rfl) (fun g w => by kernel_rfl)) 
        (goes_cons (goesK_pure (fun g => .bool b1) rfl (by decide) (by decide) (by kernel_rfl) (fun g => by kernel_rfl) rfl (fun g => by kernel_rfl) (fun g w => by kernel_rfl)) 
        (goes_cons (goesK_new hst (ahead_path [14] (by kernel_rfl) (by decide)) rfl (by decide) (by decide) 0 rfl (by kernel_rfl) (fun g => by kernel_rfl) rfl (fun g => by kernel_rfl) (fun g w => by kernel_rfl)) 
        (goes_cons (goesP_put rfl rfl rfl (List.forall_mem_cons.2 ⟨⟨show (14 : Nat) ≠ 15 by decide, [14], by kernel_rfl, show (14 : Nat) ∈ [14] by decide⟩, fun _ h => by cases h⟩) 0 rfl (fun g => by kernel_rfl) rfl rfl (fun g => by kernel_rfl) (fun g => by kernel_rfl) rfl (by kernel_rfl) (by kernel_rfl)) 
        (goes_cons (goesK_pure (fun g => .bool b1) rfl (by decide) (by decide) (by kernel_rfl) (fun g => by kernel_rfl) rfl (fun g => by kernel_rfl) (fun g w => by kernel_rfl)) goes_nil))))))))))))))))) ?_
      rintro g _ w4 _ _ ⟨hb4, b8_, g8, s8_, k8⟩
      rw [g8]
      have hB4 := hbw.trans (hb4.mono hbw.size)
      clear g8 hst HV k8 hv3 hB3 k0 r0 l0 hbw hb4
      have M1_ := M1.out
      clear M1 M2 M3
      cases b0 with
      | false =>
        go_wp2_with fail
        go_roundw
        case rel => exact ⟨2, by omega, rfl, rfl, hB4⟩
        case measure => simp [intOf]
      | true =>
        have hbk : b1 = true := M1_ rfl
        subst hbk
        go_wp2_with fail
        go_roundw
        case rel => exact ⟨2, by omega, rfl, rfl, hB4⟩
        case measure => simp [intOf]
    · obtain ⟨U2, hU⟩ : ∃ U, u2 = U := ⟨_, rfl⟩
      obtain ⟨V2, hV⟩ : ∃ V, v2 = V := ⟨_, rfl⟩
      rw [hU, hV] at T2
      clear hU hV
      have hst : ∀ f ∈ ([⟨14, 11, FNew wr 27 #[.int .i64 0, .int .i64 0]⟩] : List Fact), f.ok := List.forall_mem_cons.2 ⟨fnew_ok _ _ _ _ _, fun _ h => by cases h⟩
      go_wp2_with fail
      refine wp_region_last (w1 := wr) (K := [⟨14, 11, FNew wr 27 #[.int .i64 0, .int .i64 0]⟩]) (ix := 15) (iz := 15) (R0 := fun _ _ _ => True) (R1 := fun g _ w => Below wr.heap.size wr w ∧ FNew wr 27 #[.int .i64 U2, .int .i64 V2] (g 11) w) [11] (⟨#[.agg #[.int .i64 sx, .int .i64 sy], .agg #[.int .i64 btn, .int .i64 typ, .int .i64 x, .int .i64 y, .int .i64 md], .int .i64 mode, .pointer (some ⟨w.heap.size, 0, none⟩), .pointer (some ⟨w.heap.size + 1, 0, none⟩), undef, u6, .bool true, .slice (some ⟨w1.heap.size, 0, none⟩) 4 4, .bool b1, .int .i64 2, undef, .bool b2, undef, undef, undef, .bool true, .slice (some ⟨w1.heap.size, 0, none⟩) 4 4, .int .i64 2, .slice (some ⟨w1.heap.size, 0, none⟩) 4 4, .int .i64 4, .bool true, u22, u23, .tuple #[.agg #[.int .i64 U2, .int .i64 V2], .bool b2], .slice (some ⟨w1.heap.size, 0, none⟩) 4 4, .int .i64 2, .pointer (some ⟨w1.heap.size, 2, none⟩), .int .i64 1002, .pointer (some ⟨w.heap.size, 0, none⟩), .int .i64 sx, .pointer (some ⟨w.heap.size, 1, none⟩), .int .i64 sy, .agg #[.int .i64 sx, .int .i64 sy], .agg #[.int .i64 btn, .int .i64 typ, .int .i64 x, .int .i64 y, .int .i64 md], .tuple #[.agg #[.int .i64 U2, .int .i64 V2], .bool b2], .agg #[.int .i64 U2, .int .i64 V2], .bool b2, u38, u39, u40, u41, u42, u43, undef, undef, undef, undef, undef, undef, undef, undef, undef, undef, undef, undef, undef, undef, undef, undef, undef, undef, undef, undef, undef, undef, undef, undef, undef, undef, undef, undef, undef, undef, undef, undef, undef, undef, undef, undef, undef, undef, undef, undef, undef, undef], []⟩) (fun g => ⟨#[.agg #[.int .i64 sx, .int .i64 sy], .agg #[.int .i64 btn, .int .i64 typ, .int .i64 x, .int .i64 y, .int .i64 md], .int .i64 mode, .pointer (some ⟨w.heap.size, 0, none⟩), .pointer (some ⟨w.heap.size + 1, 0, none⟩), undef, u6, .bool true, .slice (some ⟨w1.heap.size, 0, none⟩) 4 4, .bool b1, .int .i64 2, (g 11), .bool b2, undef, undef, undef, .bool true, .slice (some ⟨w1.heap.size, 0, none⟩) 4 4, .int .i64 2, .slice (some ⟨w1.heap.size, 0, none⟩) 4 4, .int .i64 4, .bool true, u22, u23, .tuple #[.agg #[.int .i64 U2, .int .i64 V2], .bool b2], .slice (some ⟨w1.heap.size, 0, none⟩) 4 4, .int .i64 2, .pointer (some ⟨w1.heap.size, 2, none⟩), .int .i64 1002, .pointer (some ⟨w.heap.size, 0, none⟩), .int .i64 sx, .pointer (some ⟨w.heap.size, 1, none⟩), .int .i64 sy, .agg #[.int .i64 sx, .int .i64 sy], .agg #[.int .i64 btn, .int .i64 typ, .int .i64 x, .int .i64 y, .int .i64 md], .tuple #[.agg #[.int .i64 U2, .int .i64 V2], .bool b2], .agg #[.int .i64 U2, .int .i64 V2], .bool b2, u38, u39, u40, u41, u42, u43, undef, undef, undef, undef, undef, undef, undef, undef, undef, undef, undef, undef, undef, undef, undef, undef, undef, undef, undef, undef, undef, undef, undef, undef, undef, undef, undef, undef, undef, undef, undef, undef, undef, undef, undef, undef, undef, undef, undef, undef, undef, undef], []⟩) [.slice (some ⟨w1.heap.size, 0, none⟩) 4 4, .int .i64 2, .pointer (some ⟨w1.heap.size, 2, none⟩), .int .i64 1002, .pointer (some ⟨w.heap.size, 0, none⟩), .int .i64 sx, .pointer (some ⟨w.heap.size, 1, none⟩), .int .i64 sy, .agg #[.int .i64 sx, .int .i64 sy], .agg #[.int .i64 btn, .int .i64 typ, .int .i64 x, .int .i64 y, .int .i64 md], .tuple #[.agg #[.int .i64 U2, .int .i64 V2], .bool b2], .tuple #[.agg #[.int .i64 U2, .int .i64 V2], .bool b2], .agg #[.int .i64 U2, .int .i64 V2], .bool b2, undef, undef, .bool b2] (by kernel_rfl) (by kernel_rfl) (by kernel_rfl) (fun g => by kernel_rfl) (by kernel_rfl) (Below.refl _ _).drew (by decide)
        (goes_cons (goesK_pure (fun g => .slice (some ⟨w1.heap.size, 0, none⟩) 4 4) rfl (by decide) (by decide) (by kernel_rfl) (fun g => by kernel_rfl) rfl (fun g => by kernel_rfl) (fun g w => by kernel_rfl)) 
        (goes_cons (goesK_pure (fun g => .int .i64 2) rfl (by decide) (by decide) (by kernel_rfl) (fun g => by kernel_rfl) rfl (fun g => by kernel_rfl) (fun g w => by kernel_rfl)) 
        (goes_cons (goesK_pure (fun g => .pointer (some ⟨w1.heap.size, 2, none⟩)) rfl (by decide) (by decide) (by kernel_rfl) (fun g => by kernel_rfl) rfl (fun g => by kernel_rfl) (fun g w => by kernel_rfl)) 
        (goes_cons (goesK_cell hst (ahead_path [12, 11, 10, 3] (by kernel_rfl) (by decide)) rfl (by decide) (by decide) (by kernel_rfl) (fun g => by kernel_rfl) rfl (fun g => by kernel_rfl) rfl (fun g => by kernel_rfl) (fun W hW => (l0.below hW l0.lt).cell 2) (fun w => by kernel_rfl)) 
        (goes_cons (goesK_pure (fun g => .pointer (some ⟨w.heap.size, 0, none⟩)) rfl (by decide) (by decide) (by kernel_rfl) (fun g => by kernel_rfl) rfl (fun g => by kernel_rfl) (fun g w => by kernel_rfl)) 
        (goes_cons (goesK_cell hst (ahead_path [12, 11, 10, 8, 5] (by kernel_rfl) (by decide)) rfl (by decide) (by decide) (by kernel_rfl) (fun g => by kernel_rfl) rfl (fun g => by kernel_rfl) rfl (fun g => by kernel_rfl) (fun W hW => (r0.below hW r0.lt).cell 0) (fun w => by kernel_rfl)) 
        (goes_cons (goesK_pure (fun g => .pointer (some ⟨w.heap.size, 1, none⟩)) rfl (by decide) (by decide) (by kernel_rfl) (fun g => by kernel_rfl) rfl (fun g => by kernel_rfl) (fun g w => by kernel_rfl)) 
        (goes_cons (goesK_cell hst (ahead_path [12, 11, 10, 8, 7] (by kernel_rfl) (by decide)) rfl (by decide) (by decide) (by kernel_rfl) (fun g => by kernel_rfl) rfl (fun g => by kernel_rfl) rfl (fun g => by kernel_rfl) (fun W hW => (r0.below hW r0.lt).cell 1) (fun w => by kernel_rfl)) 
        (goes_cons (goesK_pure (fun g => .agg #[.int .i64 sx, .int .i64 sy]) rfl (by decide) (by decide) (by kernel_rfl) (fun g => by kernel_rfl) rfl (fun g => by kernel_rfl) (fun g w => by kernel_rfl)) 
        (goes_cons (goesK_load hst (ahead_path [12, 11, 10, 9] (by kernel_rfl) (by decide)) rfl (by decide) (by decide) (by kernel_rfl) (fun g => by kernel_rfl) rfl (fun g => by kernel_rfl) rfl (fun g => by kernel_rfl) (fun W hW => k0.below hW k0.lt) Try.underlying25 rfl (by kernel_rfl)) 
        (goes_cons (goesK_call (args := fun g => #[.int .i64 1002, .agg #[.int .i64 sx, .int .i64 sy], .agg #[.int .i64 btn, .int .i64 typ, .int .i64 x, .int .i64 y, .int .i64 md]]) hst (ahead_path [12, 11, 10] (by kernel_rfl) (by decide)) rfl (by decide) (by decide) (by kernel_rfl) (fun g => by kernel_rfl) rfl (fun g => by kernel_rfl) (fun g w => by kernel_rfl) (fun g W hW hin => T2.out W (HV.out W hW))) 
        (goes_cons (goesK_pure (fun g => .tuple #[.agg #[.int .i64 U2, .int .i64 V2], .bool b2]) rfl (by decide) (by decide) (by kernel_rfl) (fun g => by kernel_rfl) rfl (fun g => by kernel_rfl) (fun g w => by kernel_rfl)) 
        (goes_cons (goesK_pure (fun g => .agg #[.int .i64 U2, .int .i64 V2]) rfl (by decide) (by decide) (by kernel_rfl) (fun g => by kernel_rfl) rfl (fun g => by kernel_rfl) (fun g w => by kernel_rfl)) 
        (goes_cons (goesK_pure (fun g => .bool b2) rfl (by decide) (by decide) (by kernel_rfl) (fun g => by kernel_rfl) rfl (fun g => by kernel_rfl) (fun g w => by kernel_rfl)) 
        (goes_cons (goesK_new hst (ahead_path [14] (by kernel_rfl) (by decide)) rfl (by decide) (by decide) 0 rfl (by kernel_rfl) (fun g => by kernel_rfl) rfl (fun g => by kernel_rfl) (fun g w => by kernel_rfl)) 
        (goes_cons (goesP_put rfl rfl rfl (List.forall_mem_cons.2 ⟨⟨show (14 : Nat) ≠ 15 by decide, [14], by kernel_rfl, show (14 : Nat) ∈ [14] by decide⟩, fun _ h => by cases h⟩) 0 rfl (fun g => by kernel_rfl) rfl rfl (fun g => by kernel_rfl) (fun g => by kernel_rfl) rfl (by kernel_rfl) (by kernel_rfl)) 
        (goes_cons (goesK_pure (fun g => .bool b2) rfl (by decide) (by decide) (by kernel_rfl) (fun g => by kernel_rfl) rfl (fun g => by kernel_rfl) (fun g w => by kernel_rfl)) goes_nil))))))))))))))))) ?_
      rintro g _ w4 _ _ ⟨hb4, b8_, g8, s8_, k8⟩
      rw [g8]
      have hB4 := hbw.trans (hb4.mono hbw.size)
      clear g8 hst HV k8 hv3 hB3 k0 r0 l0 hbw hb4
      have M2_ := M2.out
      clear M1 M2 M3
      cases b1 with
      | false =>
        go_wp2_with fail
        go_roundw
        case rel => exact ⟨3, by omega, rfl, rfl, hB4⟩
        case measure => simp [intOf]
      | true =>
        have hbk : b2 = true := M2_ rfl
        subst hbk
        go_wp2_with fail
        go_roundw
        case rel => exact ⟨3, by omega, rfl, rfl, hB4⟩
        case measure => simp [intOf]
    · obtain ⟨U3, hU⟩ : ∃ U, u3 = U := ⟨_, rfl⟩
      obtain ⟨V3, hV⟩ : ∃ V, v3 = V := ⟨_, rfl⟩
      rw [hU, hV] at T3
      clear hU hV
      have hst : ∀ f ∈ ([⟨14, 11, FNew wr 27 #[.int .i64 0, .int .i64 0]⟩] : List Fact), f.ok := List.forall_mem_cons.2 ⟨fnew_ok _ _ _ _ _, fun _ h => by cases h⟩
      go_wp2_with fail
      refine wp_region_last (w1 := wr) (K := [⟨14, 11, FNew wr 27 #[.int .i64 0, .int .i64 0]⟩]) (ix := 15) (iz := 15) (R0 := fun _ _ _ => True) (R1 := fun g _ w => Below wr.heap.size wr w ∧ FNew wr 27 #[.int .i64 U3, .int .i64 V3] (g 11) w) [11] (⟨#[.agg #[.int .i64 sx, .int .i64 sy], .agg #[.int .i64 btn, .int .i64 typ, .int .i64 x, .int .i64 y, .int .i64 md], .int .i64 mode, .pointer (some ⟨w.heap.size, 0, none⟩), .pointer (some ⟨w.heap.size + 1, 0, none⟩), undef, u6, .bool true, .slice (some ⟨w1.heap.size, 0, none⟩) 4 4, .bool b2, .int .i64 3, undef, .bool b3, undef, undef, undef, .bool true, .slice (some ⟨w1.heap.size, 0, none⟩) 4 4, .int .i64 3, .slice (some ⟨w1.heap.size, 0, none⟩) 4 4, .int .i64 4, .bool true, u22, u23, .tuple #[.agg #[.int .i64 U3, .int .i64 V3], .bool b3], .slice (some ⟨w1.heap.size, 0, none⟩) 4 4, .int .i64 3, .pointer (some ⟨w1.heap.size, 3, none⟩), .int .i64 1003, .pointer (some ⟨w.heap.size, 0, none⟩), .int .i64 sx, .pointer (some ⟨w.heap.size, 1, none⟩), .int .i64 sy, .agg #[.int .i64 sx, .int .i64 sy], .agg #[.int .i64 btn, .int .i64 typ, .int .i64 x, .int .i64 y, .int .i64 md], .tuple #[.agg #[.int .i64 U3, .int .i64 V3], .bool b3], .agg #[.int .i64 U3, .int .i64 V3], .bool b3, u38, u39, u40, u41, u42, u43, undef, undef, undef, undef, undef, undef, undef, undef, undef, undef, undef, undef, undef, undef, undef, undef, undef, undef, undef, undef, undef, undef, undef, undef, undef, undef, undef, undef, undef, undef, undef, undef, undef, undef, undef, undef, undef, undef, undef, undef, undef, undef], []⟩) (fun g => ⟨#[.agg #[.int .i64 sx, .int .i64 sy], .agg #[.int .i64 btn, .int .i64 typ, .int .i64 x, .int .i64 y, .int .i64 md], .int .i64 mode, .pointer (some ⟨w.heap.size, 0, none⟩), .pointer (some ⟨w.heap.size + 1, 0, none⟩), undef, u6, .bool true, .slice (some ⟨w1.heap.size, 0, none⟩) 4 4, .bool b2, .int .i64 3, (g 11), .bool b3, undef, undef, undef, .bool true, .slice (some ⟨w1.heap.size, 0, none⟩) 4 4, .int .i64 3, .slice (some ⟨w1.heap.size, 0, none⟩) 4 4, .int .i64 4, .bool true, u22, u23, .tuple #[.agg #[.int .i64 U3, .int .i64 V3], .bool b3], .slice (some ⟨w1.heap.size, 0, none⟩) 4 4, .int .i64 3, .pointer (some ⟨w1.heap.size, 3, none⟩), .int .i64 1003, .pointer (some ⟨w.heap.size, 0, none⟩), .int .i64 sx, .pointer (some ⟨w.heap.size, 1, none⟩), .int .i64 sy, .agg #[.int .i64 sx, .int .i64 sy], .agg #[.int .i64 btn, .int .i64 typ, .int .i64 x, .int .i64 y, .int .i64 md], .tuple #[.agg #[.int .i64 U3, .int .i64 V3], .bool b3], .agg #[.int .i64 U3, .int .i64 V3], .bool b3, u38, u39, u40, u41, u42, u43, undef, undef, undef, undef, undef, undef, undef, undef, undef, undef, undef, undef, undef, undef, undef, undef, undef, undef, undef, undef, undef, undef, undef, undef, undef, undef, undef, undef, undef, undef, undef, undef, undef, undef, undef, undef, undef, undef, undef, undef, undef, undef], []⟩) [.slice (some ⟨w1.heap.size, 0, none⟩) 4 4, .int .i64 3, .pointer (some ⟨w1.heap.size, 3, none⟩), .int .i64 1003, .pointer (some ⟨w.heap.size, 0, none⟩), .int .i64 sx, .pointer (some ⟨w.heap.size, 1, none⟩), .int .i64 sy, .agg #[.int .i64 sx, .int .i64 sy], .agg #[.int .i64 btn, .int .i64 typ, .int .i64 x, .int .i64 y, .int .i64 md], .tuple #[.agg #[.int .i64 U3, .int .i64 V3], .bool b3], .tuple #[.agg #[.int .i64 U3, .int .i64 V3], .bool b3], .agg #[.int .i64 U3, .int .i64 V3], .bool b3, undef, undef, .bool b3] (by kernel_rfl) (by kernel_rfl) (by kernel_rfl) (fun g => by kernel_rfl) (by kernel_rfl) (Below.refl _ _).drew (by decide)
        (goes_cons (goesK_pure (fun g => .slice (some ⟨w1.heap.size, 0, none⟩) 4 4) rfl (by decide) (by decide) (by kernel_rfl) (fun g => by kernel_rfl) rfl (fun g => by kernel_rfl) (fun g w => by kernel_rfl)) 
        (goes_cons (goesK_pure (fun g => .int .i64 3) rfl (by decide) (by decide) (by kernel_rfl) (fun g => by kernel_rfl) rfl (fun g => by kernel_rfl) (fun g w => by kernel_rfl)) 
        (goes_cons (goesK_pure (fun g => .pointer (some ⟨w1.heap.size, 3, none⟩)) rfl (by decide) (by decide) (by kernel_rfl) (fun g => by kernel_rfl) rfl (fun g => by kernel_rfl) (fun g w => by kernel_rfl)) 
        (goes_cons (goesK_cell hst (ahead_path [12, 11, 10, 3] (by kernel_rfl) (by decide)) rfl (by decide) (by decide) (by kernel_rfl) (fun g => by kernel_rfl) rfl (fun g => by kernel_rfl) rfl (fun g => by kernel_rfl) (fun W hW => (l0.below hW l0.lt).cell 3) (fun w => by kernel_rfl)) 
        (goes_cons (goesK_pure (fun g => .pointer (some ⟨w.heap.size, 0, none⟩)) rfl (by decide) (by decide) (by kernel_rfl) (fun g => by kernel_rfl) rfl (fun g => by kernel_rfl) (fun g w => by kernel_rfl)) 
        (goes_cons (goesK_cell hst (ahead_path [12, 11, 10, 8, 5] (by kernel_rfl) (by decide)) rfl (by decide) (by decide) (by kernel_rfl) (fun g => by kernel_rfl) rfl (fun g => by kernel_rfl) rfl (fun g => by kernel_rfl) (fun W hW => (r0.below hW r0.lt).cell 0) (fun w => by kernel_rfl)) 
        (goes_cons (goesK_pure (fun g => .pointer (some ⟨w.heap.size, 1, none⟩)) rfl (by decide) (by decide) (by kernel_rfl) (fun g => by kernel_rfl) rfl (fun g => by kernel_rfl) (fun g w => by kernel_rfl)) 
        (goes_cons (goesK_cell hst (ahead_path [12, 11, 10, 8, 7] (by kernel_rfl) (by decide)) rfl (by decide) (by decide) (by kernel_rfl) (fun g => by kernel_rfl) rfl (fun g => by kernel_rfl) rfl (fun g => by kernel_rfl) (fun W hW => (r0.below hW r0.lt).cell 1) (fun w => by kernel_rfl)) 
        (goes_cons (goesK_pure (fun g => .agg #[.int .i64 sx, .int .i64 sy]) rfl (by decide) (by decide) (by kernel_rfl) (fun g => by kernel_rfl) rfl (fun g => by kernel_rfl) (fun g w => by kernel_rfl)) 
        (goes_cons (goesK_load hst (ahead_path [12, 11, 10, 9] (by kernel_rfl) (by decide)) rfl (by decide) (by decide) (by kernel_rfl) (fun g => by kernel_rfl) rfl (fun g => by kernel_rfl) rfl (fun g => by kernel_rfl) (fun W hW => k0.below hW k0.lt) Try.underlying25 rfl (by kernel_rfl)) 
        (goes_cons (goesK_call (args := fun g => #[.int .i64 1003, .agg #[.int .i64 sx, .int .i64 sy], .agg #[.int .i64 btn, .int .i64 typ, .int .i64 x, .int .i64 y, .int .i64 md]]) hst (ahead_path [12, 11, 10] (by kernel_rfl) (by decide)) rfl (by decide) (by decide) (by kernel_rfl) (fun g => by kernel_rfl) rfl (fun g => by kernel_rfl) (fun g w => by kernel_rfl) (fun g W hW hin => T3.out W (HV.out W hW))) 
        (goes_cons (goesK_pure (fun g => .tuple #[.agg #[.int .i64 U3, .int .i64 V3], .bool b3]) rfl (by decide) (by decide) (by kernel_rfl) (fun g => by kernel_rfl) rfl (fun g => by kernel_rfl) (fun g w => by kernel_rfl)) 
        (goes_cons (goesK_pure (fun g => .agg #[.int .i64 U3, .int .i64 V3]) rfl (by decide) (by decide) (by kernel_rfl) (fun g => by kernel_rfl) rfl (fun g => by kernel_rfl) (fun g w => by kernel_rfl)) 
        (goes_cons (goesK_pure (fun g => .bool b3) rfl (by decide) (by decide) (by kernel_rfl) (fun g => by kernel_rfl) rfl (fun g => by kernel_rfl) (fun g w => by kernel_rfl)) 
        (goes_cons (goesK_new hst (ahead_path [14] (by kernel_rfl) (by decide)) rfl (by decide) (by decide) 0 rfl (by kernel_rfl) (fun g => by kernel_rfl) rfl (fun g => by kernel_rfl) (fun g w => by kernel_rfl)) 
        (goes_cons (goesP_put rfl rfl rfl (List.forall_mem_cons.2 ⟨⟨show (14 : Nat) ≠ 15 by decide, [14], by kernel_rfl, show (14 : Nat) ∈ [14] by decide⟩, fun _ h => by cases h⟩) 0 rfl (fun g => by kernel_rfl) rfl rfl (fun g => by kernel_rfl) (fun g => by kernel_rfl) rfl (by kernel_rfl) (by kernel_rfl)) 
        (goes_cons (goesK_pure (fun g => .bool b3) rfl (by decide) (by decide) (by kernel_rfl) (fun g => by kernel_rfl) rfl (fun g => by kernel_rfl) (fun g w => by kernel_rfl)) goes_nil))))))))))))))))) ?_
      rintro g _ w4 _ _ ⟨hb4, b8_, g8, s8_, k8⟩
      rw [g8]
      have hB4 := hbw.trans (hb4.mono hbw.size)
      clear g8 hst HV k8 hv3 hB3 k0 r0 l0 hbw hb4
      have M3_ := M3.out
      clear M1 M2 M3
      cases b2 with
      | false =>
        go_wp2_with fail
        go_roundw
        case rel => exact ⟨4, by omega, rfl, rfl, hB4⟩
        case measure => simp [intOf]
      | true =>
        have hbk : b3 = true := M3_ rfl
        subst hbk
        go_wp2_with fail
        go_roundw
        case rel => exact ⟨4, by omega, rfl, rfl, hB4⟩
        case measure => simp [intOf]
    · clear T0 T1 T2 T3 M1 M2 M3 HV l0 hbw
      obtain ⟨c0, c1, c2, c3, c4⟩ := Blk.cells5 k0
      obtain ⟨a0, a1⟩ := And.intro (r0.cell 0) (r0.cell 1)
      go_wp2_with fail
      refine (H5.out _ hv3).mono ?_
      rintro z w4 ⟨rfl, hb4⟩
      have hB4 := (hB3.trans (hb4.mono hB3.size)).alloc (hB3.trans (hb4.mono hB3.size)).size (.cells #[.int .i64 u, .int .i64 v] 27)
      have s4 := Blk.new w4 27 #[.int .i64 u, .int .i64 v]
      replace r0 := (r0.below hb4 r0.lt).alloc (.cells #[.int .i64 u, .int .i64 v] 27)
      clear c0 c1 c2 c3 c4 a0 a1 hb4 hB3 hv3 k0
      go_upto_region 12 with (fail)
      obtain ⟨g, hg⟩ : ∃ g, w4.heap.size = g := ⟨_, rfl⟩
      rw [hg] at s4
      generalize hW4 : w4.alloc (.cells #[.int .i64 u, .int .i64 v] 27) = w5 at *
      clear hW4
      obtain ⟨a0, a1⟩ := And.intro (r0.cell 0) (r0.cell 1)
      obtain ⟨c0, c1⟩ := And.intro (s4.cell 0) (s4.cell 1)
      by_cases hkn : mode = 9 ∨ mode = 1000 ∨ mode = 1002 ∨ mode = 1003
      · clear HKN
        rcases hkn with rfl | rfl | rfl | rfl <;>
        · go_wp2_with fail
          go_ret
          exact ⟨rfl, hB4⟩
      · obtain ⟨⟨rfl, rfl⟩, rfl⟩ := HKN.out hkn
        have k1 : (mode == 9) = false := beq_false_of_ne fun h => hkn (.inl h)
        have k2 : (mode == 1000) = false := beq_false_of_ne fun h => hkn (.inr (.inl h))
        have k3 : (mode == 1002) = false := beq_false_of_ne fun h => hkn (.inr (.inr (.inl h)))
        have k4 : (mode == 1003) = false := beq_false_of_ne fun h => hkn (.inr (.inr (.inr h)))
        clear hkn HKN
        go_wp2_with fail
        go_ret
        exact ⟨rfl, hB4⟩
end Go.Proofs.Ytbdpjhlfaelgpaa
