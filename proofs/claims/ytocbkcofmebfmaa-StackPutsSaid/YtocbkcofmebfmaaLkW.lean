/-
  Layer 8: the walk of StackPops.
-/
import Derived.Test.YtocbkcofmebfmaaLkV
namespace Go.Proofs.Ytocbkcofmebfmaa
open Go.RowKit

section
variable {Inv : World → Prop}
set_option maxRecDepth 100000 in
set_option maxHeartbeats 32000000 in
theorem stackPops_go (H : StackC Inv) (now : Int) (A : Option Addr) (l : List Int) (n c : Nat) (hn : l.length = n) (a b : Int) (a0 : 0 ≤ a) (a1 : a ≤ 255) (b0 : 0 ≤ b) (b1 : b ≤ 255) (w : World) (hr : Rd w A (is_ l)) (hv : Inv w) :
    Calls Try.prog 6 #[.agg #[.int .i64 now, .slice A n c], .int .u8 a, .int .u8 b] w fun e w' => e = .returned (.bool true) ∧ Below w.heap.size w w' := by
  obtain ⟨s, hs⟩ : ∃ s, flagsS now l = s := ⟨_, rfl⟩
  have hok : okS s := by rw [← hs]; exact ok_flags now l
  obtain ⟨F, hF⟩ : ∃ F, s.now = F := ⟨_, rfl⟩
  obtain ⟨k, hk⟩ : ∃ k, s.kept.length = k := ⟨_, rfl⟩
  obtain ⟨x1, hx1⟩ : ∃ x, popS s (a + b) = x := ⟨_, rfl⟩
  have hokx1 : okS x1 := by rw [← hx1]; exact ok_pop hok _
  obtain ⟨n1, hn1⟩ : ∃ y, x1.now = y := ⟨_, rfl⟩
  obtain ⟨k1, hk1⟩ : ∃ y, x1.kept.length = y := ⟨_, rfl⟩
  have h81 : k1 ≤ 8 := by rw [← hk1]; exact hokx1.2.2
  obtain ⟨x2, hx2⟩ : ∃ x, popS s a = x := ⟨_, rfl⟩
  have hokx2 : okS x2 := by rw [← hx2]; exact ok_pop hok _
  obtain ⟨n2, hn2⟩ : ∃ y, x2.now = y := ⟨_, rfl⟩
  obtain ⟨k2, hk2⟩ : ∃ y, x2.kept.length = y := ⟨_, rfl⟩
  have hx3 : popS x2 b = x1 := by
    rw [← hx2, ← hx1]
    show popN b.toNat (popN a.toNat s) = popN (a + b).toNat s
    rw [show (a + b).toNat = a.toNat + b.toNat by omega, popN_add]
  have HOK := Lib.hid hok
  have HF := Lib.hid hF
  have HK := Lib.hid hk
  have HX1 := Lib.hid hx1
  have HN1 := Lib.hid hn1
  have HK1 := Lib.hid hk1
  have HX2 := Lib.hid hx2
  have HO2 := Lib.hid hokx2
  have HN2 := Lib.hid hn2
  have HK2 := Lib.hid hk2
  have HX3 := Lib.hid hx3
  have HFL : Hid (∀ S W, (∀ k, S k → k < W.heap.size) → Rd W A (is_ l) → Calls Try.prog 10 #[.agg #[.int .i64 now, .slice A n c]] W (StkA S s F k W)) := Lib.hid fun S W hS hR => (flags_any now A l n c W hS hn hR).mono fun _ _ => StkE.at_ hs hF hk
  clear hs hok hF hk hx1 hokx1 hn1 hk1 hx2 hokx2 hn2 hk2 hx3 hn
  have k0 := Blk.new w 24 #[.int .i64 now, .slice A n c]
  have hbe : Below w.heap.size w (w.alloc (.cells #[.int .i64 now, .slice A n c] 24)) := (Below.refl _ w).alloc (Nat.le_refl _) _
  have hi := H.invB hv hbe
  go_enter Try.func6, Try.ntmps6
  go_wp2_with fail
  refine (stackAwake H _ hi).mono ?_
  rintro e w1 ⟨rfl, hb1⟩
  have hbe1 := below_step8 hbe hb1 hbe.size
  have q0 := k0.below hb1 k0.lt
  have c0 := q0.cell 0
  have c1 := q0.cell 1
  have hr1 := hr.below hbe1
  clear k0 hbe hb1 hi
  go_wp2_with fail
  refine (HFL.out (fun j => j = w.heap.size) _ (fun j hj => by rw [hj]; exact q0.lt) hr1).mono ?_
  rintro e w2 ⟨B, d, rfl, hkd, hrB, hb2⟩
  have q2 := q0.below hb2 q0.lt
  have hbe2 := below_step8 hbe1 hb2 hbe1.size
  have z0 := q2.frozen 0
  have z1 := q2.frozen 1
  have y0 := q2.cell 0
  have y1 := q2.cell 1
  have q3 : Blk ((w2.setCell ⟨w.heap.size, 0, none⟩ (.int .i64 F)).setCell ⟨w.heap.size, 1, none⟩ (.slice B k d)) w.heap.size 24 #[.int .i64 F, .slice B k d] := (q2.set 0 (.int .i64 F)).set 1 (.slice B k d)
  have hbe3 := (hbe2.setCell (p := ⟨w.heap.size, 0, none⟩) (Nat.le_refl _) (.int .i64 F)).setCell (p := ⟨w.heap.size, 1, none⟩) (Nat.le_refl _) (.slice B k d)
  have hrB3 := ((hrB.set (g := w.heap.size) rfl 0 (.int .i64 F)).set (g := w.heap.size) rfl 1 (.slice B k d)).rd
  have e0 := q3.cell 0
  have e1 := q3.cell 1
  have e0' : (w2.setCell ⟨w.heap.size, 0, none⟩ (.int .i64 F)).cell? ⟨w.heap.size, 0, none⟩ = some (.int .i64 F) := (q2.set 0 (.int .i64 F)).cell 0
  clear HFL q0 c0 c1 hr1 hbe1 hb2 q2 hbe2 hrB
  go_wp2_with fail
  refine (made_any F B k d _).mono ?_
  rintro e w4 ⟨rfl, hb4⟩
  have q8 := Blk.new w4 27 #[.int .i64 F, .slice B k d]
  have hbe4 := (below_step8 hbe3 hb4 hbe3.size).alloc (below_step8 hbe3 hb4 hbe3.size).size (.cells #[.int .i64 F, .slice B k d] 27)
  have hr4 := (hrB3.below hb4).alloc (.cells #[.int .i64 F, .slice B k d] 27)
  have hi4 := H.invB hv hbe4
  have d0 := q8.cell 0
  have d1 := q8.cell 1
  have HP1 := Lib.hid (H.pop_at _ hi4 (no_set _) HOK.out HK.out hkd (f := a + b) ⟨by omega, by omega⟩ (rd_off hr4) HF.out HX1.out HN1.out HK1.out)
  have hwr : IntKind.i64.wrap (a + b) = a + b := by rw [IntKind.wrap_i64]; go_num
  clear z0 z1 y0 y1 e0 e1 e0' q3 hbe3 hrB3 hb4
  go_wp2_with fail
  refine HP1.out.mono ?_
  rintro e w5 ⟨A5, c5, rfl, hc5, hr5, hb5⟩
  have q8b := (q8.below hb5 q8.lt).alloc (.cells #[.int .i64 n1, .slice A5 k1 c5] 27)
  have q9b := Blk.new w5 27 #[.int .i64 n1, .slice A5 k1 c5]
  have hbe5 := (below_step8 hbe4 hb5 hbe4.size).alloc (below_step8 hbe4 hb5 hbe4.size).size (.cells #[.int .i64 n1, .slice A5 k1 c5] 27)
  have hr5B := (hr4.below hb5).alloc (.cells #[.int .i64 n1, .slice A5 k1 c5] 27)
  have hr5A := hr5.rd.alloc (.cells #[.int .i64 n1, .slice A5 k1 c5] 27)
  have hi5 := H.invB hv hbe5
  have HP2 := Lib.hid (H.pop_at _ hi5 (no_set _) HOK.out HK.out hkd (f := a) ⟨by omega, by omega⟩ (rd_off hr5B) HF.out HX2.out HN2.out HK2.out)
  clear d0 d1 q8 hbe4 hr4 hi4 HP1 hb5 hr5
  have d0 := q8b.cell 0
  have d1 := q8b.cell 1
  go_wp2_with fail
  refine HP2.out.mono ?_
  rintro e w6 ⟨A6, c6, rfl, hc6, hr6, hb6⟩
  have q9c := q9b.below hb6 q9b.lt
  have hbe6 := below_step8 hbe5 hb6 hbe5.size
  have hr6A := hr5A.below hb6
  have hi6 := H.invB hv hbe6
  have HP3 := Lib.hid (H.pop_at _ hi6 (no_set _) HO2.out HK2.out hc6 (f := b) ⟨by omega, by omega⟩ hr6 HN2.out HX3.out HN1.out HK1.out)
  clear d0 d1 q8b q9b hbe5 hr5B hr5A hi5 HP2 hb6
  go_wp2_with fail
  refine HP3.out.mono ?_
  rintro e w7 ⟨A7, c7, rfl, hc7, hr7, hb7⟩
  have q9d := (q9c.below hb7 q9c.lt).alloc (.cells #[.int .i64 n1, .slice A7 k1 c7] 27)
  have q10 := Blk.new w7 27 #[.int .i64 n1, .slice A7 k1 c7]
  have hbe7 := (below_step8 hbe6 hb7 hbe6.size).alloc (below_step8 hbe6 hb7 hbe6.size).size (.cells #[.int .i64 n1, .slice A7 k1 c7] 27)
  have hr7A := (hr6A.below hb7).alloc (.cells #[.int .i64 n1, .slice A7 k1 c7] 27)
  have hr7B := hr7.rd.alloc (.cells #[.int .i64 n1, .slice A7 k1 c7] 27)
  have hi7 := H.invB hv hbe7
  have HSA := Lib.hid (H.same_at (a := x1) (b := x1) (n := k1) (m := k1) (c := c5) (d := c7) _ hi7 HK1.out HK1.out (by omega) (by omega) hr7A hr7B HN1.out HN1.out (sameS_self x1))
  clear q9c hbe6 hr6A hi6 HP3 hb7 hr7 hr6
  have d0 := q9d.cell 0
  have d1 := q9d.cell 1
  have f0 := q10.cell 0
  have f1 := q10.cell 1
  go_wp2_with fail
  refine HSA.out.mono ?_
  rintro e w8 ⟨rfl, hb8⟩
  have hbe8 := below_step8 hbe7 hb8 hbe7.size
  go_wp2_with fail
  go_ret
  exact ⟨rfl, hbe8⟩
theorem stackPops_walk (H : StackC Inv) (now : Int) (A : Option Addr) (l : List Int) (c : Nat) (a : Int) (a0 : 0 ≤ a) (a1 : a ≤ 255) (b : Int) (b0 : 0 ≤ b) (b1 : b ≤ 255) (w : World) (hr : Rd w A (is_ l)) (hv : Inv w) :
    Calls Try.prog 6 #[stV now A l.length c, .int .u8 a, .int .u8 b] w fun e w' => e = .returned (.bool true) ∧ Below w.heap.size w w' :=
  stackPops_go H now A l _ c rfl a b a0 a1 b0 b1 w hr hv
end
end Go.Proofs.Ytocbkcofmebfmaa
