/-
  Layer 8: the walk of StackTop.
-/
import Derived.Test.YtocbkcofmebfmaaLkW
namespace Go.Proofs.Ytocbkcofmebfmaa
open Go.RowKit

section
variable {Inv : World → Prop}
set_option maxRecDepth 100000 in
set_option maxHeartbeats 32000000 in
theorem top_deep (H : StackC Inv) (now : Int) (A : Option Addr) (l : List Int) (n c : Nat) (hn : l.length = n) (m : Int) (hm : inK m) (w : World) (hr : Rd w A (is_ l)) (hv : Inv w) (hdeep : (flagsS now l).kept.length = 8) :
    Calls Try.prog 8 #[.agg #[.int .i64 now, .slice A n c], .int .i64 m] w fun e w' => e = .returned (.bool true) ∧ Below w.heap.size w w' := by
  obtain ⟨s, hs⟩ : ∃ s, flagsS now l = s := ⟨_, rfl⟩
  have hok : okS s := by rw [← hs]; exact ok_flags now l
  rw [hs] at hdeep
  obtain ⟨F, hF⟩ : ∃ F, s.now = F := ⟨_, rfl⟩
  have hk : s.kept.length = 8 := hdeep
  obtain ⟨x1, hx1⟩ : ∃ x, pushS s m = x := ⟨_, rfl⟩
  have hok1 : okS x1 := by rw [← hx1]; exact ok_push hok m
  obtain ⟨n1, hn1⟩ : ∃ y, x1.now = y := ⟨_, rfl⟩
  have hfl : flg m = n1 := by rw [← hn1, ← hx1]; rfl
  have hpl := push_last s m
  rw [hx1] at hpl
  obtain ⟨j, hj⟩ : ∃ j, x1.kept.length = j + 1 := ⟨x1.kept.length - 1, by have := List.length_pos_iff.2 hpl.1; omega⟩
  have hlast : x1.kept[j]? = some F := by
    have h2 := hpl.2
    rw [hj, Nat.add_sub_cancel, List.getD_eq_getElem?_getD, List.getElem?_eq_getElem (by omega), Option.getD_some] at h2
    rw [List.getElem?_eq_getElem (by omega), h2, hF]
  obtain ⟨x2, hx2⟩ : ∃ x, popS x1 1 = x := ⟨_, rfl⟩
  have hpp := pop_push_deep m hdeep
  rw [hx1, hx2] at hpp
  have hn2 : x2.now = F := by rw [hpp]; exact hF
  have hk2 : x2.kept.length = 7 := by rw [hpp]; show (s.kept.drop 1).length = 7; rw [List.length_drop, hdeep]
  clear hpp
  have HFG : Hid (∀ S W, (∀ k, S k → k < W.heap.size) → Rd W A (is_ l) → Calls Try.prog 10 #[.agg #[.int .i64 now, .slice A n c]] W (StkA S s F 8 W)) := Lib.hid fun S W hS hR => (flags_any now A l n c W hS hn hR).mono fun _ _ => StkE.at_ hs hF hk
  have HFL : Hid (∀ W, Calls Try.prog 19 #[.int .i64 m] W fun e w' => e = .returned (.int .i64 n1) ∧ Below W.heap.size W w') := Lib.hid fun W => by
    have := rflags_any m W
    rwa [hfl] at this
  have HOK := Lib.hid hok
  have HF := Lib.hid hF
  have HK := Lib.hid hk
  have HX1 := Lib.hid hx1
  have HO1 := Lib.hid hok1
  have HN1 := Lib.hid hn1
  have HJ := Lib.hid hj
  have HLA := Lib.hid hlast
  have HX2 := Lib.hid hx2
  have HN2 := Lib.hid hn2
  have HK2 := Lib.hid hk2
  have HM := Lib.hid hm
  clear hs hok hF hk hx1 hok1 hn1 hfl hpl hj hlast hx2 hn2 hk2 hm hn hdeep
  have k0 := Blk.new w 24 #[.int .i64 now, .slice A n c]
  have hbe : Below w.heap.size w (w.alloc (.cells #[.int .i64 now, .slice A n c] 24)) := (Below.refl _ w).alloc (Nat.le_refl _) _
  have hi := H.invB hv hbe
  go_enter Try.func8, Try.ntmps8
  go_wp2_with fail
  refine (stackAwake H _ hi).mono ?_
  rintro e w1 ⟨rfl, hb1⟩
  have hbe1 := below_step8 hbe hb1 hbe.size
  have q0 := k0.below hb1 k0.lt
  have e0 := q0.cell 0
  have e1 := q0.cell 1
  have hr1 := hr.below hbe1
  clear k0 hbe hb1 hi
  go_wp2_with fail
  refine (HFG.out (fun j => j = w.heap.size) _ (fun j hj => by rw [hj]; exact q0.lt) hr1).mono ?_
  rintro e w2 ⟨B, d, rfl, hkd, hrB, hb2⟩
  have q2 := q0.below hb2 q0.lt
  have hbe2 := below_step8 hbe1 hb2 hbe1.size
  have z0 := q2.frozen 0
  have z1 := q2.frozen 1
  have y0 := q2.cell 0
  have y1 := q2.cell 1
  have q3 : Blk ((w2.setCell ⟨w.heap.size, 0, none⟩ (.int .i64 F)).setCell ⟨w.heap.size, 1, none⟩ (.slice B 8 d)) w.heap.size 24 #[.int .i64 F, .slice B 8 d] := (q2.set 0 (.int .i64 F)).set 1 (.slice B 8 d)
  have hbe3 := (hbe2.setCell (p := ⟨w.heap.size, 0, none⟩) (Nat.le_refl _) (.int .i64 F)).setCell (p := ⟨w.heap.size, 1, none⟩) (Nat.le_refl _) (.slice B 8 d)
  have hrB3 := ((hrB.set (g := w.heap.size) rfl 0 (.int .i64 F)).set (g := w.heap.size) rfl 1 (.slice B 8 d)).rd
  have f0 := q3.cell 0
  have f1 := q3.cell 1
  have f0' : (w2.setCell ⟨w.heap.size, 0, none⟩ (.int .i64 F)).cell? ⟨w.heap.size, 0, none⟩ = some (.int .i64 F) := (q2.set 0 (.int .i64 F)).cell 0
  clear HFG q0 e0 e1 hr1 hbe1 hb2 q2 hbe2 hrB
  go_wp2_with fail
  refine (made_any F B 8 d _).mono ?_
  rintro e w4 ⟨rfl, hb4⟩
  have q4 := (q3.below hb4 q3.lt).alloc (.cells #[.int .i64 F, .slice B 8 d] 27)
  have q6 := Blk.new w4 27 #[.int .i64 F, .slice B 8 d]
  have hbe4 := (below_step8 hbe3 hb4 hbe3.size).alloc (below_step8 hbe3 hb4 hbe3.size).size (.cells #[.int .i64 F, .slice B 8 d] 27)
  have hr4 := (hrB3.below hb4).alloc (.cells #[.int .i64 F, .slice B 8 d] 27)
  have hi4 := H.invB hv hbe4
  have d0 := q6.cell 0
  have d1 := q6.cell 1
  have HP1 := Lib.hid (H.push_at _ hi4 (no_set _) HOK.out HK.out hkd HM.out (rd_off hr4) HF.out HX1.out HN1.out HJ.out)
  clear z0 z1 y0 y1 f0 f1 f0' q3 hbe3 hrB3 hb4
  go_wp2_with fail
  refine HP1.out.mono ?_
  rintro e w5 ⟨A1, c1, rfl, hc1, hr5, hb5⟩
  obtain ⟨b1, o1, rfl, _, hbl1, hcc1⟩ := hr5.z_at (by rw [HJ.out]; omega)
  have hz5 : w5.cell? ⟨b1, o1 + j, none⟩ = some (.int .i64 F) := by
    have := hcc1 j (by rw [HJ.out]; omega)
    rw [this]
    have h2 := HLA.out
    rw [List.getElem?_eq_getElem (by rw [HJ.out]; omega)] at h2
    rw [Option.some.inj h2]
  have q4b := (q4.below hb5 q4.lt).alloc (.cells #[.int .i64 n1, .slice (some ⟨b1, o1, none⟩) (j + 1) c1] 27)
  have q6b := (q6.below hb5 q6.lt).alloc (.cells #[.int .i64 n1, .slice (some ⟨b1, o1, none⟩) (j + 1) c1] 27)
  have q7b := Blk.new w5 27 #[.int .i64 n1, .slice (some ⟨b1, o1, none⟩) (j + 1) c1]
  have hbe5 := (below_step8 hbe4 hb5 hbe4.size).alloc (below_step8 hbe4 hb5 hbe4.size).size (.cells #[.int .i64 n1, .slice (some ⟨b1, o1, none⟩) (j + 1) c1] 27)
  have hr5B := (hr4.below hb5).alloc (.cells #[.int .i64 n1, .slice (some ⟨b1, o1, none⟩) (j + 1) c1] 27)
  have hr5A := hr5.rd.alloc (.cells #[.int .i64 n1, .slice (some ⟨b1, o1, none⟩) (j + 1) c1] 27)
  have hz5b : (w5.alloc (.cells #[.int .i64 n1, .slice (some ⟨b1, o1, none⟩) (j + 1) c1] 27)).cell? ⟨b1, o1 + j, none⟩ = some (.int .i64 F) := (((Below.refl w5.heap.size w5).alloc (Nat.le_refl _) _).cell (p := ⟨b1, o1 + j, none⟩) hbl1).trans hz5
  have hbl5 : b1 < (w5.alloc (.cells #[.int .i64 n1, .slice (some ⟨b1, o1, none⟩) (j + 1) c1] 27)).heap.size := by rw [World.size_alloc]; omega
  have hi5 := H.invB hv hbe5
  have HP2 := Lib.hid (H.pop_at _ hi5 (no_set _) HO1.out HJ.out hc1 (f := 1) ⟨by decide, by decide⟩ (rd_off hr5A) HN1.out HX2.out HN2.out HK2.out)
  clear d0 d1 q4 q6 hbe4 hr4 hi4 HP1 hb5 hr5 hcc1 hz5
  have d0 := q7b.cell 0
  have d1 := q7b.cell 1
  have gj : (0 : Int) ≤ (j : Int) := by omega
  have gj8 : (j : Int) < 8 := by
    have h8 := HO1.out.2.2
    rw [HJ.out] at h8
    omega
  go_wp2_with fail
  refine HP2.out.mono ?_
  rintro e w6 ⟨A2, c2, rfl, hc2, hr6, hb6⟩
  have q4c := (q4b.below hb6 q4b.lt).alloc (.cells #[.int .i64 F, .slice A2 7 c2] 27)
  have q6c := (q6b.below hb6 q6b.lt).alloc (.cells #[.int .i64 F, .slice A2 7 c2] 27)
  have q7c := (q7b.below hb6 q7b.lt).alloc (.cells #[.int .i64 F, .slice A2 7 c2] 27)
  have q9c := Blk.new w6 27 #[.int .i64 F, .slice A2 7 c2]
  have hbe6 := (below_step8 hbe5 hb6 hbe5.size).alloc (below_step8 hbe5 hb6 hbe5.size).size (.cells #[.int .i64 F, .slice A2 7 c2] 27)
  have hr6B := (hr5B.below hb6).alloc (.cells #[.int .i64 F, .slice A2 7 c2] 27)
  have hr6A := hr6.rd.alloc (.cells #[.int .i64 F, .slice A2 7 c2] 27)
  have hz6 : (w6.alloc (.cells #[.int .i64 F, .slice A2 7 c2] 27)).cell? ⟨b1, o1 + j, none⟩ = some (.int .i64 F) := (((Below.refl w6.heap.size w6).alloc (Nat.le_refl _) _).cell (p := ⟨b1, o1 + j, none⟩) (Nat.lt_of_lt_of_le hbl5 hb6.size)).trans ((hb6.cell (p := ⟨b1, o1 + j, none⟩) hbl5).trans hz5b)
  clear d0 d1 q4b q6b q7b hbe5 hr5B hr5A hi5 HP2 hb6 hr6 hz5b hbl5
  have d0 := q4c.cell 0
  have d1 := q4c.cell 1
  have keq : True := trivial
  go_wp2_with fail
  clear d0 d1
  obtain ⟨g6, hg6⟩ : ∃ g, w4.heap.size = g := ⟨_, rfl⟩
  obtain ⟨g7, hg7⟩ : ∃ g, w5.heap.size = g := ⟨_, rfl⟩
  obtain ⟨g9, hg9⟩ : ∃ g, w6.heap.size = g := ⟨_, rfl⟩
  rw [hg6] at q6c
  rw [hg7] at q7c
  rw [hg9] at q9c
  rw [hg6, hg7, hg9]
  obtain ⟨w7, hw7⟩ : ∃ w7, w6.alloc (.cells #[.int .i64 F, .slice A2 7 c2] 27) = w7 := ⟨_, rfl⟩
  rw [hw7] at q4c q6c q7c q9c hbe6 hr6B hr6A hz6 ⊢
  clear hw7 hg6 hg7 hg9
  have HV : Hid (∀ W, Below w7.heap.size w7 W → Inv W) := Lib.hid fun W hb => H.invB hv (below_step8 hbe6 hb hbe6.size)
  have l20 : ∀ W, Below w7.heap.size w7 W → W.cell? ⟨w.heap.size, 0, none⟩ = some (.int .i64 F) := fun W h => (q4c.below h q4c.lt).cell 0
  have l70 : ∀ W, Below w7.heap.size w7 W → W.cell? ⟨g7, 0, none⟩ = some (.int .i64 n1) := fun W h => (q7c.below h q7c.lt).cell 0
  have l71 : ∀ W, Below w7.heap.size w7 W → W.cell? ⟨g7, 1, none⟩ = some (.slice (some ⟨b1, o1, none⟩) (j + 1) c1) := fun W h => (q7c.below h q7c.lt).cell 1
  have l90 : ∀ W, Below w7.heap.size w7 W → W.cell? ⟨g9, 0, none⟩ = some (.int .i64 F) := fun W h => (q9c.below h q9c.lt).cell 0
  have hb17 : b1 < w7.heap.size := World.block_lt_of_cell? w7 _ hz6
  have lz : ∀ W, Below w7.heap.size w7 W → W.cell? ⟨b1, o1 + j, none⟩ = some (.int .i64 F) := fun W h => (h.cell (p := ⟨b1, o1 + j, none⟩) hb17).trans hz6
  have l91 : ∀ W, Below w7.heap.size w7 W → W.cell? ⟨g9, 1, none⟩ = some (.slice A2 7 c2) := fun W h => (q9c.below h q9c.lt).cell 1
  have hst : ∀ f ∈ ([] : List Fact), f.ok := fun f hf => by cases hf
  refine wp_region_told (w1 := w7) (K := []) (ix := 1000) (R0 := fun _ _ _ => True) (R1 := fun _ _ _ => True) [] (⟨#[.agg #[.int .i64 now, .slice A n c], .int .i64 m, .pointer (some ⟨w.heap.size, 0, none⟩), undef, .bool true, .bool true, .pointer (some ⟨g6, 0, none⟩), .pointer (some ⟨g7, 0, none⟩), .int .i64 (j : Int), .pointer (some ⟨g9, 0, none⟩), .bool true, .bool true, .agg #[.int .i64 now, .slice A n c], .agg #[.int .i64 F, .slice B 8 d], .agg #[.int .i64 F, .slice B 8 d], .agg #[.int .i64 F, .slice B 8 d], .agg #[.int .i64 F, .slice B 8 d], .int .i64 m, .agg #[.int .i64 n1, .slice (some ⟨b1, o1, none⟩) (j + 1) c1], .pointer (some ⟨g7, 1, none⟩), .slice (some ⟨b1, o1, none⟩) (j + 1) c1, .int .i64 ((j : Int) + 1), .int .i64 (j : Int), .int .i64 (j : Int), .bool false, .agg #[.int .i64 n1, .slice (some ⟨b1, o1, none⟩) (j + 1) c1], .agg #[.int .i64 F, .slice A2 7 c2], .pointer (some ⟨w.heap.size, 1, none⟩), .slice B 8 d, .int .i64 8, .bool true, .bool true, .bool true, .pointer (some ⟨g7, 0, none⟩), .int .i64 n1, .int .i64 m, .int .i64 n1, .bool true, .bool true, .bool true, .pointer (some ⟨g7, 1, none⟩), .slice (some ⟨b1, o1, none⟩) (j + 1) c1, .int .i64 (j : Int), .pointer (some ⟨b1, o1 + j, none⟩), .int .i64 F, .pointer (some ⟨w.heap.size, 0, none⟩), .int .i64 F, .bool true, .bool true, .bool true, .pointer (some ⟨g9, 0, none⟩), .int .i64 F, .pointer (some ⟨w.heap.size, 0, none⟩), .int .i64 F, .bool true, .bool true, .bool true, .bool true, .bool true, undef, undef, undef, .bool true, .bool true, .bool true, .bool true, .bool false, .bool false, .pointer (some ⟨g9, 1, none⟩), .slice A2 7 c2, .int .i64 7, .bool true, .bool true, .bool true], []⟩) (fun g => ⟨#[.agg #[.int .i64 now, .slice A n c], .int .i64 m, .pointer (some ⟨w.heap.size, 0, none⟩), undef, .bool true, .bool true, .pointer (some ⟨g6, 0, none⟩), .pointer (some ⟨g7, 0, none⟩), .int .i64 (j : Int), .pointer (some ⟨g9, 0, none⟩), .bool true, .bool true, .agg #[.int .i64 now, .slice A n c], .agg #[.int .i64 F, .slice B 8 d], .agg #[.int .i64 F, .slice B 8 d], .agg #[.int .i64 F, .slice B 8 d], .agg #[.int .i64 F, .slice B 8 d], .int .i64 m, .agg #[.int .i64 n1, .slice (some ⟨b1, o1, none⟩) (j + 1) c1], .pointer (some ⟨g7, 1, none⟩), .slice (some ⟨b1, o1, none⟩) (j + 1) c1, .int .i64 ((j : Int) + 1), .int .i64 (j : Int), .int .i64 (j : Int), .bool false, .agg #[.int .i64 n1, .slice (some ⟨b1, o1, none⟩) (j + 1) c1], .agg #[.int .i64 F, .slice A2 7 c2], .pointer (some ⟨w.heap.size, 1, none⟩), .slice B 8 d, .int .i64 8, .bool true, .bool true, .bool true, .pointer (some ⟨g7, 0, none⟩), .int .i64 n1, .int .i64 m, .int .i64 n1, .bool true, .bool true, .bool true, .pointer (some ⟨g7, 1, none⟩), .slice (some ⟨b1, o1, none⟩) (j + 1) c1, .int .i64 (j : Int), .pointer (some ⟨b1, o1 + j, none⟩), .int .i64 F, .pointer (some ⟨w.heap.size, 0, none⟩), .int .i64 F, .bool true, .bool true, .bool true, .pointer (some ⟨g9, 0, none⟩), .int .i64 F, .pointer (some ⟨w.heap.size, 0, none⟩), .int .i64 F, .bool true, .bool true, .bool true, .bool true, .bool true, undef, undef, undef, .bool true, .bool true, .bool true, .bool true, .bool false, .bool false, .pointer (some ⟨g9, 1, none⟩), .slice A2 7 c2, .int .i64 7, .bool true, .bool true, .bool true], []⟩) [.bool true, .bool true, .pointer (some ⟨g7, 0, none⟩), .int .i64 n1, .int .i64 m, .int .i64 n1, .bool true, .bool true, .bool true, .pointer (some ⟨g7, 1, none⟩), .slice (some ⟨b1, o1, none⟩) (j + 1) c1, .int .i64 (j : Int), .pointer (some ⟨b1, o1 + j, none⟩), .int .i64 F, .pointer (some ⟨w.heap.size, 0, none⟩), .int .i64 F, .bool true, .bool true, .bool true, .pointer (some ⟨g9, 0, none⟩), .int .i64 F, .pointer (some ⟨w.heap.size, 0, none⟩), .int .i64 F, .bool true, .bool true, .bool true, .bool true, .bool true, undef, undef, undef, .bool true, .bool true, .bool true, .bool true, .bool false, .bool false, .pointer (some ⟨g9, 1, none⟩), .slice A2 7 c2, .int .i64 7, .bool true, .bool true, .bool true, .bool true] (by kernel_rfl) (by kernel_rfl) (by kernel_rfl) (fun g => by kernel_rfl) (by kernel_rfl) (Below.refl _ _).drew (by decide) (by kernel_rfl)
    (goes_cons (goesK_pure (fun _ => .bool true) rfl (by decide) (by decide) (by kernel_rfl) (fun g => by kernel_rfl) rfl (fun g => by kernel_rfl) (fun g w => by kernel_rfl)) 
    (goes_cons (goesK_pure (fun _ => .bool true) rfl (by decide) (by decide) (by kernel_rfl) (fun g => by kernel_rfl) rfl (fun g => by kernel_rfl) (fun g w => by kernel_rfl)) 
    (goes_cons (goesK_pure (fun _ => .pointer (some ⟨g7, 0, none⟩)) rfl (by decide) (by decide) (by kernel_rfl) (fun g => by kernel_rfl) rfl (fun g => by kernel_rfl) (fun g w => by kernel_rfl)) 
    (goes_cons (goesK_cell hst (ahead_none (by decide)) rfl (by decide) (by decide) (by kernel_rfl) (fun g => by kernel_rfl) rfl (fun g => by kernel_rfl) rfl (fun g => by kernel_rfl) l70 (fun w => by kernel_rfl)) 
    (goes_cons (goesK_pure (fun _ => .int .i64 m) rfl (by decide) (by decide) (by kernel_rfl) (fun g => by kernel_rfl) rfl (fun g => by kernel_rfl) (fun g w => by kernel_rfl)) 
    (goes_cons (goesK_call (args := fun g => #[.int .i64 m]) hst (ahead_none (by decide)) rfl (by decide) (by decide) (by kernel_rfl) (fun g => by kernel_rfl) rfl (fun g => by kernel_rfl) (fun g w => by kernel_rfl) (fun g W hW hin => HFL.out W)) 
    (goes_cons (goesK_bin (v := .bool true) (xv := .int .i64 n1) (yv := .int .i64 n1) rfl (by decide) (by decide) (by kernel_rfl) (fun g => by kernel_rfl) rfl (fun g => by kernel_rfl) rfl (fun g => by kernel_rfl) (fun g => by kernel_rfl) (fun w => by go_simp)) 
    (goes_cons (goesK_pure (fun _ => .bool true) rfl (by decide) (by decide) (by kernel_rfl) (fun g => by kernel_rfl) rfl (fun g => by kernel_rfl) (fun g w => by kernel_rfl)) 
    (goes_cons (goesK_pure (fun _ => .bool true) rfl (by decide) (by decide) (by kernel_rfl) (fun g => by kernel_rfl) rfl (fun g => by kernel_rfl) (fun g w => by kernel_rfl)) 
    (goes_cons (goesK_pure (fun _ => .pointer (some ⟨g7, 1, none⟩)) rfl (by decide) (by decide) (by kernel_rfl) (fun g => by kernel_rfl) rfl (fun g => by kernel_rfl) (fun g w => by kernel_rfl)) 
    (goes_cons (goesK_cell hst (ahead_none (by decide)) rfl (by decide) (by decide) (by kernel_rfl) (fun g => by kernel_rfl) rfl (fun g => by kernel_rfl) rfl (fun g => by kernel_rfl) l71 (fun w => by kernel_rfl)) 
    (goes_cons (goesK_pure (fun _ => .int .i64 (j : Int)) rfl (by decide) (by decide) (by kernel_rfl) (fun g => by kernel_rfl) rfl (fun g => by kernel_rfl) (fun g w => by kernel_rfl)) 
    (goes_cons (goesK_index (b := b1) (q := o1) (m := j + 1) (c := c1) (k := j) rfl (by decide) (by decide) (by kernel_rfl) (fun g => by kernel_rfl) rfl (fun g => by kernel_rfl) rfl (fun g => by kernel_rfl) (fun g => by kernel_rfl) (Nat.lt_succ_self j) Try.underlying22 (fun w => by kernel_rfl)) 
    (goes_cons (goesK_cell hst (ahead_none (by decide)) rfl (by decide) (by decide) (by kernel_rfl) (fun g => by kernel_rfl) rfl (fun g => by kernel_rfl) rfl (fun g => by kernel_rfl) lz (fun w => by kernel_rfl)) 
    (goes_cons (goesK_pure (fun _ => .pointer (some ⟨w.heap.size, 0, none⟩)) rfl (by decide) (by decide) (by kernel_rfl) (fun g => by kernel_rfl) rfl (fun g => by kernel_rfl) (fun g w => by kernel_rfl)) 
    (goes_cons (goesK_cell hst (ahead_none (by decide)) rfl (by decide) (by decide) (by kernel_rfl) (fun g => by kernel_rfl) rfl (fun g => by kernel_rfl) rfl (fun g => by kernel_rfl) l20 (fun w => by kernel_rfl)) 
    (goes_cons (goesK_bin (v := .bool true) (xv := .int .i64 F) (yv := .int .i64 F) rfl (by decide) (by decide) (by kernel_rfl) (fun g => by kernel_rfl) rfl (fun g => by kernel_rfl) rfl (fun g => by kernel_rfl) (fun g => by kernel_rfl) (fun w => by go_simp)) 
    (goes_cons (goesK_pure (fun _ => .bool true) rfl (by decide) (by decide) (by kernel_rfl) (fun g => by kernel_rfl) rfl (fun g => by kernel_rfl) (fun g w => by kernel_rfl)) 
    (goes_cons (goesK_pure (fun _ => .bool true) rfl (by decide) (by decide) (by kernel_rfl) (fun g => by kernel_rfl) rfl (fun g => by kernel_rfl) (fun g w => by kernel_rfl)) 
    (goes_cons (goesK_pure (fun _ => .pointer (some ⟨g9, 0, none⟩)) rfl (by decide) (by decide) (by kernel_rfl) (fun g => by kernel_rfl) rfl (fun g => by kernel_rfl) (fun g w => by kernel_rfl)) 
    (goes_cons (goesK_cell hst (ahead_none (by decide)) rfl (by decide) (by decide) (by kernel_rfl) (fun g => by kernel_rfl) rfl (fun g => by kernel_rfl) rfl (fun g => by kernel_rfl) l90 (fun w => by kernel_rfl)) 
    (goes_cons (goesK_pure (fun _ => .pointer (some ⟨w.heap.size, 0, none⟩)) rfl (by decide) (by decide) (by kernel_rfl) (fun g => by kernel_rfl) rfl (fun g => by kernel_rfl) (fun g w => by kernel_rfl)) 
    (goes_cons (goesK_cell hst (ahead_none (by decide)) rfl (by decide) (by decide) (by kernel_rfl) (fun g => by kernel_rfl) rfl (fun g => by kernel_rfl) rfl (fun g => by kernel_rfl) l20 (fun w => by kernel_rfl)) 
    (goes_cons (goesK_bin (v := .bool true) (xv := .int .i64 F) (yv := .int .i64 F) rfl (by decide) (by decide) (by kernel_rfl) (fun g => by kernel_rfl) rfl (fun g => by kernel_rfl) rfl (fun g => by kernel_rfl) (fun g => by kernel_rfl) (fun w => by go_simp)) 
    (goes_cons (goesK_pure (fun _ => .bool true) rfl (by decide) (by decide) (by kernel_rfl) (fun g => by kernel_rfl) rfl (fun g => by kernel_rfl) (fun g w => by kernel_rfl)) 
    (goes_cons (goesK_pure (fun _ => .bool true) rfl (by decide) (by decide) (by kernel_rfl) (fun g => by kernel_rfl) rfl (fun g => by kernel_rfl) (fun g w => by kernel_rfl)) 
    (goes_cons (goesK_pure (fun _ => .bool true) rfl (by decide) (by decide) (by kernel_rfl) (fun g => by kernel_rfl) rfl (fun g => by kernel_rfl) (fun g w => by kernel_rfl)) 
    (goes_cons (goesK_pure (fun _ => .bool true) rfl (by decide) (by decide) (by kernel_rfl) (fun g => by kernel_rfl) rfl (fun g => by kernel_rfl) (fun g w => by kernel_rfl)) 
    (goes_cons (goesK_off rfl (by decide) (by decide) (by kernel_rfl) (fun g => by kernel_rfl) rfl (fun g => by kernel_rfl)) 
    (goes_cons (goesK_off rfl (by decide) (by decide) (by kernel_rfl) (fun g => by kernel_rfl) rfl (fun g => by kernel_rfl)) 
    (goes_cons (goesK_off rfl (by decide) (by decide) (by kernel_rfl) (fun g => by kernel_rfl) rfl (fun g => by kernel_rfl)) 
    (goes_cons (goesK_pure (fun _ => .bool true) rfl (by decide) (by decide) (by kernel_rfl) (fun g => by kernel_rfl) rfl (fun g => by kernel_rfl) (fun g w => by kernel_rfl)) 
    (goes_cons (goesK_pure (fun _ => .bool true) rfl (by decide) (by decide) (by kernel_rfl) (fun g => by kernel_rfl) rfl (fun g => by kernel_rfl) (fun g w => by kernel_rfl)) 
    (goes_cons (goesK_pure (fun _ => .bool true) rfl (by decide) (by decide) (by kernel_rfl) (fun g => by kernel_rfl) rfl (fun g => by kernel_rfl) (fun g w => by kernel_rfl)) 
    (goes_cons (goesK_pure (fun _ => .bool true) rfl (by decide) (by decide) (by kernel_rfl) (fun g => by kernel_rfl) rfl (fun g => by kernel_rfl) (fun g w => by kernel_rfl)) 
    (goes_cons (goesK_pure (fun _ => .bool false) rfl (by decide) (by decide) (by kernel_rfl) (fun g => by kernel_rfl) rfl (fun g => by kernel_rfl) (fun g w => by kernel_rfl)) 
    (goes_cons (goesK_pure (fun _ => .bool false) rfl (by decide) (by decide) (by kernel_rfl) (fun g => by kernel_rfl) rfl (fun g => by kernel_rfl) (fun g w => by kernel_rfl)) 
    (goes_cons (goesK_pure (fun _ => .pointer (some ⟨g9, 1, none⟩)) rfl (by decide) (by decide) (by kernel_rfl) (fun g => by kernel_rfl) rfl (fun g => by kernel_rfl) (fun g w => by kernel_rfl)) 
    (goes_cons (goesK_cell hst (ahead_none (by decide)) rfl (by decide) (by decide) (by kernel_rfl) (fun g => by kernel_rfl) rfl (fun g => by kernel_rfl) rfl (fun g => by kernel_rfl) l91 (fun w => by kernel_rfl)) 
    (goes_cons (goesK_pure (fun _ => .int .i64 7) rfl (by decide) (by decide) (by kernel_rfl) (fun g => by kernel_rfl) rfl (fun g => by kernel_rfl) (fun g w => by kernel_rfl)) 
    (goes_cons (goesK_pure (fun _ => .bool true) rfl (by decide) (by decide) (by kernel_rfl) (fun g => by kernel_rfl) rfl (fun g => by kernel_rfl) (fun g w => by kernel_rfl)) 
    (goes_cons (goesK_pure (fun _ => .bool true) rfl (by decide) (by decide) (by kernel_rfl) (fun g => by kernel_rfl) rfl (fun g => by kernel_rfl) (fun g w => by kernel_rfl)) 
    (goes_cons (goesK_pure (fun _ => .bool true) rfl (by decide) (by decide) (by kernel_rfl) (fun g => by kernel_rfl) rfl (fun g => by kernel_rfl) (fun g w => by kernel_rfl)) 
    (goes_cons (goesK_pure (fun _ => .bool true) rfl (by decide) (by decide) (by kernel_rfl) (fun g => by kernel_rfl) rfl (fun g => by kernel_rfl) (fun g w => by kernel_rfl)) goes_nil)))))))))))))))))))))))))))))))))))))))))))) ?_
  intro g W hW _
  have hbE := below_step8 hbe6 hW hbe6.size
  clear hst
  go_wp2_with fail
  go_ret
  exact ⟨rfl, hbE⟩
set_option maxRecDepth 100000 in
set_option maxHeartbeats 32000000 in
theorem top_flat (H : StackC Inv) (now : Int) (A : Option Addr) (l : List Int) (n c : Nat) (hn : l.length = n) (m : Int) (hm : inK m) (w : World) (hr : Rd w A (is_ l)) (hv : Inv w) (hdeep : (flagsS now l).kept.length < 8) :
    Calls Try.prog 8 #[.agg #[.int .i64 now, .slice A n c], .int .i64 m] w fun e w' => e = .returned (.bool true) ∧ Below w.heap.size w w' := by
  obtain ⟨s, hs⟩ : ∃ s, flagsS now l = s := ⟨_, rfl⟩
  have hok : okS s := by rw [← hs]; exact ok_flags now l
  rw [hs] at hdeep
  obtain ⟨F, hF⟩ : ∃ F, s.now = F := ⟨_, rfl⟩
  obtain ⟨k, hk⟩ : ∃ k, s.kept.length = k := ⟨_, rfl⟩
  have hk7 : k < 8 := by rw [← hk]; exact hdeep
  obtain ⟨k2, hkk⟩ : ∃ k2, k = k2 := ⟨_, rfl⟩
  obtain ⟨x1, hx1⟩ : ∃ x, pushS s m = x := ⟨_, rfl⟩
  have hok1 : okS x1 := by rw [← hx1]; exact ok_push hok m
  obtain ⟨n1, hn1⟩ : ∃ y, x1.now = y := ⟨_, rfl⟩
  have hfl : flg m = n1 := by rw [← hn1, ← hx1]; rfl
  have hpl := push_last s m
  rw [hx1] at hpl
  obtain ⟨j, hj⟩ : ∃ j, x1.kept.length = j + 1 := ⟨x1.kept.length - 1, by have := List.length_pos_iff.2 hpl.1; omega⟩
  have hlast : x1.kept[j]? = some F := by
    have h2 := hpl.2
    rw [hj, Nat.add_sub_cancel, List.getD_eq_getElem?_getD, List.getElem?_eq_getElem (by omega), Option.getD_some] at h2
    rw [List.getElem?_eq_getElem (by omega), h2, hF]
  obtain ⟨x2, hx2⟩ : ∃ x, popS x1 1 = x := ⟨_, rfl⟩
  have hpp := pop_push m hdeep
  rw [hx1, hx2] at hpp
  have hn2 : x2.now = F := by rw [hpp]; exact hF
  have hk2 : x2.kept.length = k2 := by rw [hpp, hk]; exact hkk
  have HSX := Lib.hid (show sameS x2 s = true by rw [hpp]; exact sameS_self s)
  have h8k : k2 ≤ 8 := by omega
  clear hpp hkk
  have HFG : Hid (∀ S W, (∀ k, S k → k < W.heap.size) → Rd W A (is_ l) → Calls Try.prog 10 #[.agg #[.int .i64 now, .slice A n c]] W (StkA S s F k W)) := Lib.hid fun S W hS hR => (flags_any now A l n c W hS hn hR).mono fun _ _ => StkE.at_ hs hF hk
  have HFL : Hid (∀ W, Calls Try.prog 19 #[.int .i64 m] W fun e w' => e = .returned (.int .i64 n1) ∧ Below W.heap.size W w') := Lib.hid fun W => by
    have := rflags_any m W
    rwa [hfl] at this
  have HOK := Lib.hid hok
  have HF := Lib.hid hF
  have HK := Lib.hid hk
  have HX1 := Lib.hid hx1
  have HO1 := Lib.hid hok1
  have HN1 := Lib.hid hn1
  have HJ := Lib.hid hj
  have HLA := Lib.hid hlast
  have HX2 := Lib.hid hx2
  have HN2 := Lib.hid hn2
  have HK2 := Lib.hid hk2
  have HM := Lib.hid hm
  clear hs hok hF hk hx1 hok1 hn1 hfl hpl hj hlast hx2 hn2 hk2 hm hn hdeep
  have k0 := Blk.new w 24 #[.int .i64 now, .slice A n c]
  have hbe : Below w.heap.size w (w.alloc (.cells #[.int .i64 now, .slice A n c] 24)) := (Below.refl _ w).alloc (Nat.le_refl _) _
  have hi := H.invB hv hbe
  go_enter Try.func8, Try.ntmps8
  go_wp2_with fail
  refine (stackAwake H _ hi).mono ?_
  rintro e w1 ⟨rfl, hb1⟩
  have hbe1 := below_step8 hbe hb1 hbe.size
  have q0 := k0.below hb1 k0.lt
  have e0 := q0.cell 0
  have e1 := q0.cell 1
  have hr1 := hr.below hbe1
  clear k0 hbe hb1 hi
  go_wp2_with fail
  refine (HFG.out (fun j => j = w.heap.size) _ (fun j hj => by rw [hj]; exact q0.lt) hr1).mono ?_
  rintro e w2 ⟨B, d, rfl, hkd, hrB, hb2⟩
  have q2 := q0.below hb2 q0.lt
  have hbe2 := below_step8 hbe1 hb2 hbe1.size
  have z0 := q2.frozen 0
  have z1 := q2.frozen 1
  have y0 := q2.cell 0
  have y1 := q2.cell 1
  have q3 : Blk ((w2.setCell ⟨w.heap.size, 0, none⟩ (.int .i64 F)).setCell ⟨w.heap.size, 1, none⟩ (.slice B k d)) w.heap.size 24 #[.int .i64 F, .slice B k d] := (q2.set 0 (.int .i64 F)).set 1 (.slice B k d)
  have hbe3 := (hbe2.setCell (p := ⟨w.heap.size, 0, none⟩) (Nat.le_refl _) (.int .i64 F)).setCell (p := ⟨w.heap.size, 1, none⟩) (Nat.le_refl _) (.slice B k d)
  have hrB3 := ((hrB.set (g := w.heap.size) rfl 0 (.int .i64 F)).set (g := w.heap.size) rfl 1 (.slice B k d)).rd
  have f0 := q3.cell 0
  have f1 := q3.cell 1
  have f0' : (w2.setCell ⟨w.heap.size, 0, none⟩ (.int .i64 F)).cell? ⟨w.heap.size, 0, none⟩ = some (.int .i64 F) := (q2.set 0 (.int .i64 F)).cell 0
  clear HFG q0 e0 e1 hr1 hbe1 hb2 q2 hbe2 hrB
  go_wp2_with fail
  refine (made_any F B k d _).mono ?_
  rintro e w4 ⟨rfl, hb4⟩
  have q4 := (q3.below hb4 q3.lt).alloc (.cells #[.int .i64 F, .slice B k d] 27)
  have q6 := Blk.new w4 27 #[.int .i64 F, .slice B k d]
  have hbe4 := (below_step8 hbe3 hb4 hbe3.size).alloc (below_step8 hbe3 hb4 hbe3.size).size (.cells #[.int .i64 F, .slice B k d] 27)
  have hr4 := (hrB3.below hb4).alloc (.cells #[.int .i64 F, .slice B k d] 27)
  have hi4 := H.invB hv hbe4
  have d0 := q6.cell 0
  have d1 := q6.cell 1
  have HP1 := Lib.hid (H.push_at _ hi4 (no_set _) HOK.out HK.out hkd HM.out (rd_off hr4) HF.out HX1.out HN1.out HJ.out)
  clear z0 z1 y0 y1 f0 f1 f0' q3 hbe3 hrB3 hb4
  go_wp2_with fail
  refine HP1.out.mono ?_
  rintro e w5 ⟨A1, c1, rfl, hc1, hr5, hb5⟩
  obtain ⟨b1, o1, rfl, _, hbl1, hcc1⟩ := hr5.z_at (by rw [HJ.out]; omega)
  have hz5 : w5.cell? ⟨b1, o1 + j, none⟩ = some (.int .i64 F) := by
    have := hcc1 j (by rw [HJ.out]; omega)
    rw [this]
    have h2 := HLA.out
    rw [List.getElem?_eq_getElem (by rw [HJ.out]; omega)] at h2
    rw [Option.some.inj h2]
  have q4b := (q4.below hb5 q4.lt).alloc (.cells #[.int .i64 n1, .slice (some ⟨b1, o1, none⟩) (j + 1) c1] 27)
  have q6b := (q6.below hb5 q6.lt).alloc (.cells #[.int .i64 n1, .slice (some ⟨b1, o1, none⟩) (j + 1) c1] 27)
  have q7b := Blk.new w5 27 #[.int .i64 n1, .slice (some ⟨b1, o1, none⟩) (j + 1) c1]
  have hbe5 := (below_step8 hbe4 hb5 hbe4.size).alloc (below_step8 hbe4 hb5 hbe4.size).size (.cells #[.int .i64 n1, .slice (some ⟨b1, o1, none⟩) (j + 1) c1] 27)
  have hr5B := (hr4.below hb5).alloc (.cells #[.int .i64 n1, .slice (some ⟨b1, o1, none⟩) (j + 1) c1] 27)
  have hr5A := hr5.rd.alloc (.cells #[.int .i64 n1, .slice (some ⟨b1, o1, none⟩) (j + 1) c1] 27)
  have hz5b : (w5.alloc (.cells #[.int .i64 n1, .slice (some ⟨b1, o1, none⟩) (j + 1) c1] 27)).cell? ⟨b1, o1 + j, none⟩ = some (.int .i64 F) := (((Below.refl w5.heap.size w5).alloc (Nat.le_refl _) _).cell (p := ⟨b1, o1 + j, none⟩) hbl1).trans hz5
  have hbl5 : b1 < (w5.alloc (.cells #[.int .i64 n1, .slice (some ⟨b1, o1, none⟩) (j + 1) c1] 27)).heap.size := by rw [World.size_alloc]; omega
  have hi5 := H.invB hv hbe5
  have HP2 := Lib.hid (H.pop_at _ hi5 (no_set _) HO1.out HJ.out hc1 (f := 1) ⟨by decide, by decide⟩ (rd_off hr5A) HN1.out HX2.out HN2.out HK2.out)
  clear d0 d1 q4 q6 hbe4 hr4 hi4 HP1 hb5 hr5 hcc1 hz5
  have d0 := q7b.cell 0
  have d1 := q7b.cell 1
  have gj : (0 : Int) ≤ (j : Int) := by omega
  have gj8 : (j : Int) < 8 := by
    have h8 := HO1.out.2.2
    rw [HJ.out] at h8
    omega
  go_wp2_with fail
  refine HP2.out.mono ?_
  rintro e w6 ⟨A2, c2, rfl, hc2, hr6, hb6⟩
  have q4c := (q4b.below hb6 q4b.lt).alloc (.cells #[.int .i64 F, .slice A2 k2 c2] 27)
  have q6c := (q6b.below hb6 q6b.lt).alloc (.cells #[.int .i64 F, .slice A2 k2 c2] 27)
  have q7c := (q7b.below hb6 q7b.lt).alloc (.cells #[.int .i64 F, .slice A2 k2 c2] 27)
  have q9c := Blk.new w6 27 #[.int .i64 F, .slice A2 k2 c2]
  have hbe6 := (below_step8 hbe5 hb6 hbe5.size).alloc (below_step8 hbe5 hb6 hbe5.size).size (.cells #[.int .i64 F, .slice A2 k2 c2] 27)
  have hr6B := (hr5B.below hb6).alloc (.cells #[.int .i64 F, .slice A2 k2 c2] 27)
  have hr6A := hr6.rd.alloc (.cells #[.int .i64 F, .slice A2 k2 c2] 27)
  have hz6 : (w6.alloc (.cells #[.int .i64 F, .slice A2 k2 c2] 27)).cell? ⟨b1, o1 + j, none⟩ = some (.int .i64 F) := (((Below.refl w6.heap.size w6).alloc (Nat.le_refl _) _).cell (p := ⟨b1, o1 + j, none⟩) (Nat.lt_of_lt_of_le hbl5 hb6.size)).trans ((hb6.cell (p := ⟨b1, o1 + j, none⟩) hbl5).trans hz5b)
  clear d0 d1 q4b q6b q7b hbe5 hr5B hr5A hi5 HP2 hb6 hr6 hz5b hbl5
  have d0 := q4c.cell 0
  have d1 := q4c.cell 1
  have keq : ((k : Int) == 8) = false := by simp; omega
  go_wp2_with fail
  clear d0 d1
  obtain ⟨g6, hg6⟩ : ∃ g, w4.heap.size = g := ⟨_, rfl⟩
  obtain ⟨g7, hg7⟩ : ∃ g, w5.heap.size = g := ⟨_, rfl⟩
  obtain ⟨g9, hg9⟩ : ∃ g, w6.heap.size = g := ⟨_, rfl⟩
  rw [hg6] at q6c
  rw [hg7] at q7c
  rw [hg9] at q9c
  rw [hg6, hg7, hg9]
  obtain ⟨w7, hw7⟩ : ∃ w7, w6.alloc (.cells #[.int .i64 F, .slice A2 k2 c2] 27) = w7 := ⟨_, rfl⟩
  rw [hw7] at q4c q6c q7c q9c hbe6 hr6B hr6A hz6 ⊢
  clear hw7 hg6 hg7 hg9
  have HV : Hid (∀ W, Below w7.heap.size w7 W → Inv W) := Lib.hid fun W hb => H.invB hv (below_step8 hbe6 hb hbe6.size)
  have l20 : ∀ W, Below w7.heap.size w7 W → W.cell? ⟨w.heap.size, 0, none⟩ = some (.int .i64 F) := fun W h => (q4c.below h q4c.lt).cell 0
  have l70 : ∀ W, Below w7.heap.size w7 W → W.cell? ⟨g7, 0, none⟩ = some (.int .i64 n1) := fun W h => (q7c.below h q7c.lt).cell 0
  have l71 : ∀ W, Below w7.heap.size w7 W → W.cell? ⟨g7, 1, none⟩ = some (.slice (some ⟨b1, o1, none⟩) (j + 1) c1) := fun W h => (q7c.below h q7c.lt).cell 1
  have l90 : ∀ W, Below w7.heap.size w7 W → W.cell? ⟨g9, 0, none⟩ = some (.int .i64 F) := fun W h => (q9c.below h q9c.lt).cell 0
  have hb17 : b1 < w7.heap.size := World.block_lt_of_cell? w7 _ hz6
  have lz : ∀ W, Below w7.heap.size w7 W → W.cell? ⟨b1, o1 + j, none⟩ = some (.int .i64 F) := fun W h => (h.cell (p := ⟨b1, o1 + j, none⟩) hb17).trans hz6
  have HR2 : Hid (∀ W, Below w7.heap.size w7 W → Rd W A2 (is_ x2.kept)) := Lib.hid fun W hb => hr6A.below hb
  have HRB : Hid (∀ W, Below w7.heap.size w7 W → Rd W B (is_ s.kept)) := Lib.hid fun W hb => hr6B.below hb
  have l9 : ∀ W, Below w7.heap.size w7 W → Blk W g9 27 #[.int .i64 F, .slice A2 k2 c2] := fun W h => q9c.below h q9c.lt
  have l6 : ∀ W, Below w7.heap.size w7 W → Blk W g6 27 #[.int .i64 F, .slice B k d] := fun W h => q6c.below h q6c.lt
  have HSA : Hid (∀ W, Inv W → Rd W A2 (is_ x2.kept) → Rd W B (is_ s.kept) → Calls Try.prog 20 #[.agg #[.int .i64 F, .slice A2 k2 c2], .agg #[.int .i64 F, .slice B k d]] W fun e w' => e = .returned (.bool true) ∧ Below W.heap.size W w') := Lib.hid fun W hW h1 h2 => H.same_at W hW HK2.out HK.out (by omega) (by omega) h1 h2 HN2.out HF.out HSX.out
  have hst : ∀ f ∈ ([] : List Fact), f.ok := fun f hf => by cases hf
  refine wp_region_told (w1 := w7) (K := []) (ix := 1000) (R0 := fun _ _ _ => True) (R1 := fun _ _ _ => True) [] (⟨#[.agg #[.int .i64 now, .slice A n c], .int .i64 m, .pointer (some ⟨w.heap.size, 0, none⟩), undef, .bool true, .bool true, .pointer (some ⟨g6, 0, none⟩), .pointer (some ⟨g7, 0, none⟩), .int .i64 (j : Int), .pointer (some ⟨g9, 0, none⟩), .bool false, .bool true, .agg #[.int .i64 now, .slice A n c], .agg #[.int .i64 F, .slice B k d], .agg #[.int .i64 F, .slice B k d], .agg #[.int .i64 F, .slice B k d], .agg #[.int .i64 F, .slice B k d], .int .i64 m, .agg #[.int .i64 n1, .slice (some ⟨b1, o1, none⟩) (j + 1) c1], .pointer (some ⟨g7, 1, none⟩), .slice (some ⟨b1, o1, none⟩) (j + 1) c1, .int .i64 ((j : Int) + 1), .int .i64 (j : Int), .int .i64 (j : Int), .bool false, .agg #[.int .i64 n1, .slice (some ⟨b1, o1, none⟩) (j + 1) c1], .agg #[.int .i64 F, .slice A2 k2 c2], .pointer (some ⟨w.heap.size, 1, none⟩), .slice B k d, .int .i64 (k : Int), .bool false, .bool true, .bool true, .pointer (some ⟨g7, 0, none⟩), .int .i64 n1, .int .i64 m, .int .i64 n1, .bool true, .bool true, .bool true, .pointer (some ⟨g7, 1, none⟩), .slice (some ⟨b1, o1, none⟩) (j + 1) c1, .int .i64 (j : Int), .pointer (some ⟨b1, o1 + j, none⟩), .int .i64 F, .pointer (some ⟨w.heap.size, 0, none⟩), .int .i64 F, .bool true, .bool true, .bool true, .pointer (some ⟨g9, 0, none⟩), .int .i64 F, .pointer (some ⟨w.heap.size, 0, none⟩), .int .i64 F, .bool true, .bool true, .bool true, .bool false, .bool false, .agg #[.int .i64 F, .slice A2 k2 c2], .agg #[.int .i64 F, .slice B k d], .bool true, .bool true, .bool true, .bool true, .bool false, .bool true, .bool true, undef, undef, undef, undef, .bool true, .bool true], []⟩) (fun g => ⟨#[.agg #[.int .i64 now, .slice A n c], .int .i64 m, .pointer (some ⟨w.heap.size, 0, none⟩), undef, .bool true, .bool true, .pointer (some ⟨g6, 0, none⟩), .pointer (some ⟨g7, 0, none⟩), .int .i64 (j : Int), .pointer (some ⟨g9, 0, none⟩), .bool false, .bool true, .agg #[.int .i64 now, .slice A n c], .agg #[.int .i64 F, .slice B k d], .agg #[.int .i64 F, .slice B k d], .agg #[.int .i64 F, .slice B k d], .agg #[.int .i64 F, .slice B k d], .int .i64 m, .agg #[.int .i64 n1, .slice (some ⟨b1, o1, none⟩) (j + 1) c1], .pointer (some ⟨g7, 1, none⟩), .slice (some ⟨b1, o1, none⟩) (j + 1) c1, .int .i64 ((j : Int) + 1), .int .i64 (j : Int), .int .i64 (j : Int), .bool false, .agg #[.int .i64 n1, .slice (some ⟨b1, o1, none⟩) (j + 1) c1], .agg #[.int .i64 F, .slice A2 k2 c2], .pointer (some ⟨w.heap.size, 1, none⟩), .slice B k d, .int .i64 (k : Int), .bool false, .bool true, .bool true, .pointer (some ⟨g7, 0, none⟩), .int .i64 n1, .int .i64 m, .int .i64 n1, .bool true, .bool true, .bool true, .pointer (some ⟨g7, 1, none⟩), .slice (some ⟨b1, o1, none⟩) (j + 1) c1, .int .i64 (j : Int), .pointer (some ⟨b1, o1 + j, none⟩), .int .i64 F, .pointer (some ⟨w.heap.size, 0, none⟩), .int .i64 F, .bool true, .bool true, .bool true, .pointer (some ⟨g9, 0, none⟩), .int .i64 F, .pointer (some ⟨w.heap.size, 0, none⟩), .int .i64 F, .bool true, .bool true, .bool true, .bool false, .bool false, .agg #[.int .i64 F, .slice A2 k2 c2], .agg #[.int .i64 F, .slice B k d], .bool true, .bool true, .bool true, .bool true, .bool false, .bool true, .bool true, undef, undef, undef, undef, .bool true, .bool true], []⟩) [.bool true, .bool true, .pointer (some ⟨g7, 0, none⟩), .int .i64 n1, .int .i64 m, .int .i64 n1, .bool true, .bool true, .bool true, .pointer (some ⟨g7, 1, none⟩), .slice (some ⟨b1, o1, none⟩) (j + 1) c1, .int .i64 (j : Int), .pointer (some ⟨b1, o1 + j, none⟩), .int .i64 F, .pointer (some ⟨w.heap.size, 0, none⟩), .int .i64 F, .bool true, .bool true, .bool true, .pointer (some ⟨g9, 0, none⟩), .int .i64 F, .pointer (some ⟨w.heap.size, 0, none⟩), .int .i64 F, .bool true, .bool true, .bool true, .bool false, .bool false, .agg #[.int .i64 F, .slice A2 k2 c2], .agg #[.int .i64 F, .slice B k d], .bool true, .bool true, .bool true, .bool true, .bool false, .bool true, .bool true, undef, undef, undef, undef, .bool true, .bool true, .bool true] (by kernel_rfl) (by kernel_rfl) (by kernel_rfl) (fun g => by kernel_rfl) (by kernel_rfl) (Below.refl _ _).drew (by decide) (by kernel_rfl)
    (goes_cons (goesK_pure (fun _ => .bool true) rfl (by decide) (by decide) (by kernel_rfl) (fun g => by kernel_rfl) rfl (fun g => by kernel_rfl) (fun g w => by kernel_rfl)) 
    (goes_cons (goesK_pure (fun _ => .bool true) rfl (by decide) (by decide) (by kernel_rfl) (fun g => by kernel_rfl) rfl (fun g => by kernel_rfl) (fun g w => by kernel_rfl)) 
    (goes_cons (goesK_pure (fun _ => .pointer (some ⟨g7, 0, none⟩)) rfl (by decide) (by decide) (by kernel_rfl) (fun g => by kernel_rfl) rfl (fun g => by kernel_rfl) (fun g w => by kernel_rfl)) 
    (goes_cons (goesK_cell hst (ahead_none (by decide)) rfl (by decide) (by decide) (by kernel_rfl) (fun g => by kernel_rfl) rfl (fun g => by kernel_rfl) rfl (fun g => by kernel_rfl) l70 (fun w => by kernel_rfl)) 
    (goes_cons (goesK_pure (fun _ => .int .i64 m) rfl (by decide) (by decide) (by kernel_rfl) (fun g => by kernel_rfl) rfl (fun g => by kernel_rfl) (fun g w => by kernel_rfl)) 
    (goes_cons (goesK_call (args := fun g => #[.int .i64 m]) hst (ahead_none (by decide)) rfl (by decide) (by decide) (by kernel_rfl) (fun g => by kernel_rfl) rfl (fun g => by kernel_rfl) (fun g w => by kernel_rfl) (fun g W hW hin => HFL.out W)) 
    (goes_cons (goesK_bin (v := .bool true) (xv := .int .i64 n1) (yv := .int .i64 n1) rfl (by decide) (by decide) (by kernel_rfl) (fun g => by kernel_rfl) rfl (fun g => by kernel_rfl) rfl (fun g => by kernel_rfl) (fun g => by kernel_rfl) (fun w => by go_simp)) 
    (goes_cons (goesK_pure (fun _ => .bool true) rfl (by decide) (by decide) (by kernel_rfl) (fun g => by kernel_rfl) rfl (fun g => by kernel_rfl) (fun g w => by kernel_rfl)) 
    (goes_cons (goesK_pure (fun _ => .bool true) rfl (by decide) (by decide) (by kernel_rfl) (fun g => by kernel_rfl) rfl (fun g => by kernel_rfl) (fun g w => by kernel_rfl)) 
    (goes_cons (goesK_pure (fun _ => .pointer (some ⟨g7, 1, none⟩)) rfl (by decide) (by decide) (by kernel_rfl) (fun g => by kernel_rfl) rfl (fun g => by kernel_rfl) (fun g w => by kernel_rfl)) 
    (goes_cons (goesK_cell hst (ahead_none (by decide)) rfl (by decide) (by decide) (by kernel_rfl) (fun g => by kernel_rfl) rfl (fun g => by kernel_rfl) rfl (fun g => by kernel_rfl) l71 (fun w => by kernel_rfl)) 
    (goes_cons (goesK_pure (fun _ => .int .i64 (j : Int)) rfl (by decide) (by decide) (by kernel_rfl) (fun g => by kernel_rfl) rfl (fun g => by kernel_rfl) (fun g w => by kernel_rfl)) 
    (goes_cons (goesK_index (b := b1) (q := o1) (m := j + 1) (c := c1) (k := j) rfl (by decide) (by decide) (by kernel_rfl) (fun g => by kernel_rfl) rfl (fun g => by kernel_rfl) rfl (fun g => by kernel_rfl) (fun g => by kernel_rfl) (Nat.lt_succ_self j) Try.underlying22 (fun w => by kernel_rfl)) 
    (goes_cons (goesK_cell hst (ahead_none (by decide)) rfl (by decide) (by decide) (by kernel_rfl) (fun g => by kernel_rfl) rfl (fun g => by kernel_rfl) rfl (fun g => by kernel_rfl) lz (fun w => by kernel_rfl)) 
    (goes_cons (goesK_pure (fun _ => .pointer (some ⟨w.heap.size, 0, none⟩)) rfl (by decide) (by decide) (by kernel_rfl) (fun g => by kernel_rfl) rfl (fun g => by kernel_rfl) (fun g w => by kernel_rfl)) 
    (goes_cons (goesK_cell hst (ahead_none (by decide)) rfl (by decide) (by decide) (by kernel_rfl) (fun g => by kernel_rfl) rfl (fun g => by kernel_rfl) rfl (fun g => by kernel_rfl) l20 (fun w => by kernel_rfl)) 
    (goes_cons (goesK_bin (v := .bool true) (xv := .int .i64 F) (yv := .int .i64 F) rfl (by decide) (by decide) (by kernel_rfl) (fun g => by kernel_rfl) rfl (fun g => by kernel_rfl) rfl (fun g => by kernel_rfl) (fun g => by kernel_rfl) (fun w => by go_simp)) 
    (goes_cons (goesK_pure (fun _ => .bool true) rfl (by decide) (by decide) (by kernel_rfl) (fun g => by kernel_rfl) rfl (fun g => by kernel_rfl) (fun g w => by kernel_rfl)) 
    (goes_cons (goesK_pure (fun _ => .bool true) rfl (by decide) (by decide) (by kernel_rfl) (fun g => by kernel_rfl) rfl (fun g => by kernel_rfl) (fun g w => by kernel_rfl)) 
    (goes_cons (goesK_pure (fun _ => .pointer (some ⟨g9, 0, none⟩)) rfl (by decide) (by decide) (by kernel_rfl) (fun g => by kernel_rfl) rfl (fun g => by kernel_rfl) (fun g w => by kernel_rfl)) 
    (goes_cons (goesK_cell hst (ahead_none (by decide)) rfl (by decide) (by decide) (by kernel_rfl) (fun g => by kernel_rfl) rfl (fun g => by kernel_rfl) rfl (fun g => by kernel_rfl) l90 (fun w => by kernel_rfl)) 
    (goes_cons (goesK_pure (fun _ => .pointer (some ⟨w.heap.size, 0, none⟩)) rfl (by decide) (by decide) (by kernel_rfl) (fun g => by kernel_rfl) rfl (fun g => by kernel_rfl) (fun g w => by kernel_rfl)) 
    (goes_cons (goesK_cell hst (ahead_none (by decide)) rfl (by decide) (by decide) (by kernel_rfl) (fun g => by kernel_rfl) rfl (fun g => by kernel_rfl) rfl (fun g => by kernel_rfl) l20 (fun w => by kernel_rfl)) 
    (goes_cons (goesK_bin (v := .bool true) (xv := .int .i64 F) (yv := .int .i64 F) rfl (by decide) (by decide) (by kernel_rfl) (fun g => by kernel_rfl) rfl (fun g => by kernel_rfl) rfl (fun g => by kernel_rfl) (fun g => by kernel_rfl) (fun w => by go_simp)) 
    (goes_cons (goesK_pure (fun _ => .bool true) rfl (by decide) (by decide) (by kernel_rfl) (fun g => by kernel_rfl) rfl (fun g => by kernel_rfl) (fun g w => by kernel_rfl)) 
    (goes_cons (goesK_pure (fun _ => .bool true) rfl (by decide) (by decide) (by kernel_rfl) (fun g => by kernel_rfl) rfl (fun g => by kernel_rfl) (fun g w => by kernel_rfl)) 
    (goes_cons (goesK_pure (fun _ => .bool false) rfl (by decide) (by decide) (by kernel_rfl) (fun g => by kernel_rfl) rfl (fun g => by kernel_rfl) (fun g w => by kernel_rfl)) 
    (goes_cons (goesK_pure (fun _ => .bool false) rfl (by decide) (by decide) (by kernel_rfl) (fun g => by kernel_rfl) rfl (fun g => by kernel_rfl) (fun g w => by kernel_rfl)) 
    (goes_cons (goesK_load hst (ahead_none (by decide)) rfl (by decide) (by decide) (by kernel_rfl) (fun g => by kernel_rfl) rfl (fun g => by kernel_rfl) rfl (fun g => by kernel_rfl) l9 Try.underlying27 rfl (by kernel_rfl)) 
    (goes_cons (goesK_load hst (ahead_none (by decide)) rfl (by decide) (by decide) (by kernel_rfl) (fun g => by kernel_rfl) rfl (fun g => by kernel_rfl) rfl (fun g => by kernel_rfl) l6 Try.underlying27 rfl (by kernel_rfl)) 
    (goes_cons (goesK_call (args := fun g => #[.agg #[.int .i64 F, .slice A2 k2 c2], .agg #[.int .i64 F, .slice B k d]]) hst (ahead_none (by decide)) rfl (by decide) (by decide) (by kernel_rfl) (fun g => by kernel_rfl) rfl (fun g => by kernel_rfl) (fun g w => by kernel_rfl) (fun g W hW hin => HSA.out W (HV.out W hW) (HR2.out W hW) (HRB.out W hW))) 
    (goes_cons (goesK_pure (fun _ => .bool true) rfl (by decide) (by decide) (by kernel_rfl) (fun g => by kernel_rfl) rfl (fun g => by kernel_rfl) (fun g w => by kernel_rfl)) 
    (goes_cons (goesK_pure (fun _ => .bool true) rfl (by decide) (by decide) (by kernel_rfl) (fun g => by kernel_rfl) rfl (fun g => by kernel_rfl) (fun g w => by kernel_rfl)) 
    (goes_cons (goesK_pure (fun _ => .bool true) rfl (by decide) (by decide) (by kernel_rfl) (fun g => by kernel_rfl) rfl (fun g => by kernel_rfl) (fun g w => by kernel_rfl)) 
    (goes_cons (goesK_pure (fun _ => .bool false) rfl (by decide) (by decide) (by kernel_rfl) (fun g => by kernel_rfl) rfl (fun g => by kernel_rfl) (fun g w => by kernel_rfl)) 
    (goes_cons (goesK_pure (fun _ => .bool true) rfl (by decide) (by decide) (by kernel_rfl) (fun g => by kernel_rfl) rfl (fun g => by kernel_rfl) (fun g w => by kernel_rfl)) 
    (goes_cons (goesK_pure (fun _ => .bool true) rfl (by decide) (by decide) (by kernel_rfl) (fun g => by kernel_rfl) rfl (fun g => by kernel_rfl) (fun g w => by kernel_rfl)) 
    (goes_cons (goesK_off rfl (by decide) (by decide) (by kernel_rfl) (fun g => by kernel_rfl) rfl (fun g => by kernel_rfl)) 
    (goes_cons (goesK_off rfl (by decide) (by decide) (by kernel_rfl) (fun g => by kernel_rfl) rfl (fun g => by kernel_rfl)) 
    (goes_cons (goesK_off rfl (by decide) (by decide) (by kernel_rfl) (fun g => by kernel_rfl) rfl (fun g => by kernel_rfl)) 
    (goes_cons (goesK_off rfl (by decide) (by decide) (by kernel_rfl) (fun g => by kernel_rfl) rfl (fun g => by kernel_rfl)) 
    (goes_cons (goesK_pure (fun _ => .bool true) rfl (by decide) (by decide) (by kernel_rfl) (fun g => by kernel_rfl) rfl (fun g => by kernel_rfl) (fun g w => by kernel_rfl)) 
    (goes_cons (goesK_pure (fun _ => .bool true) rfl (by decide) (by decide) (by kernel_rfl) (fun g => by kernel_rfl) rfl (fun g => by kernel_rfl) (fun g w => by kernel_rfl)) 
    (goes_cons (goesK_pure (fun _ => .bool true) rfl (by decide) (by decide) (by kernel_rfl) (fun g => by kernel_rfl) rfl (fun g => by kernel_rfl) (fun g w => by kernel_rfl)) goes_nil)))))))))))))))))))))))))))))))))))))))))))) ?_
  intro g W hW _
  have hbE := below_step8 hbe6 hW hbe6.size
  clear hst
  go_wp2_with fail
  go_ret
  exact ⟨rfl, hbE⟩
theorem stackTop_walk (H : StackC Inv) (now : Int) (A : Option Addr) (l : List Int) (c : Nat) (m : Int) (lo : -9223372036854775808 ≤ m) (hi : m ≤ 9223372036854775807) (w : World) (hr : Rd w A (is_ l)) (hv : Inv w) :
    Calls Try.prog 8 #[stV now A l.length c, .int .i64 m] w fun e w' => e = .returned (.bool true) ∧ Below w.heap.size w w' := by
  by_cases h : (flagsS now l).kept.length = 8
  · exact top_deep H now A l _ c rfl m ⟨lo, hi⟩ w hr hv h
  · exact top_flat H now A l _ c rfl m ⟨lo, hi⟩ w hr hv (by have := (ok_flags now l).2.2; omega)
end
end Go.Proofs.Ytocbkcofmebfmaa
