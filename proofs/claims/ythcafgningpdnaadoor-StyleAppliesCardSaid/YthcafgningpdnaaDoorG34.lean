/-
  Stage 18, the document's style, walked: apply.
-/
import Derived.Test.YthcafgningpdnaaDoorG16
import Derived.Test.YthcafgningpdnaaDoorG33
import Derived.Deep.RegionWith
import Derived.Deep.Cut
namespace Go.Proofs.YthcafgningpdnaaDoor
open Go.RowKit
set_option maxRecDepth 100000 in
set_option maxHeartbeats 8000000 in
theorem rap_nil (s0 s1 s2 s3 s4 s5 s6 : Bool) (s7 s8 s9 : Int) (A : Option Addr) (p : List Int) (k c : Nat) (hk : p.length = k) (w : World) (hr : Rd w A (is_ p)) (h0 : p = []) :
 Calls Tryd.prog 35 #[.agg #[.bool s0, .bool s1, .bool s2, .bool s3, .bool s4, .bool s5, .bool s6, .int .i64 s7, .int .i64 s8, .int .i64 s9], .slice A k c] w fun e w' => e = .returned (syV (setY ⟨s0, s1, s2, s3, s4, s5, s6, s7, s8, s9⟩ p)) ∧ Below w.heap.size w w' := by
 subst h0
 obtain rfl : k = 0 := by simpa using hk.symm
 rw [show setY ⟨s0, s1, s2, s3, s4, s5, s6, s7, s8, s9⟩ [] = usualY from rfl]
 have k1 := (Blk.new w 23 #[.bool s0, .bool s1, .bool s2, .bool s3, .bool s4, .bool s5, .bool s6, .int .i64 s7, .int .i64 s8, .int .i64 s9]).alloc (.cells #[.bool false, .bool false, .bool false, .bool false, .bool false, .bool false, .bool false, .int .i64 0, .int .i64 0, .int .i64 0] 23)
 have k2 := Blk.new (w.alloc (.cells #[.bool s0, .bool s1, .bool s2, .bool s3, .bool s4, .bool s5, .bool s6, .int .i64 s7, .int .i64 s8, .int .i64 s9] 23)) 23 #[.bool false, .bool false, .bool false, .bool false, .bool false, .bool false, .bool false, .int .i64 0, .int .i64 0, .int .i64 0]
 have HB0 : Below w.heap.size w ((w.alloc (.cells #[.bool s0, .bool s1, .bool s2, .bool s3, .bool s4, .bool s5, .bool s6, .int .i64 s7, .int .i64 s8, .int .i64 s9] 23)).alloc (.cells #[.bool false, .bool false, .bool false, .bool false, .bool false, .bool false, .bool false, .int .i64 0, .int .i64 0, .int .i64 0] 23)) := ((Below.refl _ w).alloc (Nat.le_refl _) _).alloc (by simp) _
 simp only [World.size_alloc] at k2
 go_enter Tryd.func35, Tryd.ntmps35
 go_wp2_with fail
 refine (rusual_any _).mono ?_
 rintro e w3 ⟨rfl, hb3⟩
 have hB3 := HB0.trans (hb3.mono HB0.size)
 have k3 := k2.below hb3 k2.lt
 go_wp2_with ((refine k3.wp_set (syC usualY) rfl rfl rfl rfl _ _ rfl rfl rfl ?_; intro w4 k4 hg4))
 have hB4 := hB3.trans (Fr.below (Fr.of_grown hg4) hB3.size (fun j hj => by injection hj with hj; omega))
 obtain ⟨a0, a1, a2, a3, a4, a5, a6, a7, a8, a9⟩ := Blk.cells10y (s := usualY) k4
 refine bodyPost_ret (v := syV usualY) (by unfold syV usualY at *; simp [results, Tryd.results35, go_sem, a0, a1, a2, a3, a4, a5, a6, a7, a8, a9]) rfl ?_
 exact ⟨rfl, hB4⟩
set_option maxRecDepth 100000 in
set_option maxHeartbeats 8000000 in
theorem rap_zero (s0 s1 s2 s3 s4 s5 s6 : Bool) (s7 s8 s9 : Int) (A : Option Addr) (p : List Int) (k c : Nat) (hk : p.length = k) (w : World) (hr : Rd w A (is_ p)) (h1 : 1 ≤ k) (ha : ∀ a r, p = a :: r → a ≤ 0) :
 Calls Tryd.prog 35 #[.agg #[.bool s0, .bool s1, .bool s2, .bool s3, .bool s4, .bool s5, .bool s6, .int .i64 s7, .int .i64 s8, .int .i64 s9], .slice A k c] w fun e w' => e = .returned (syV (setY ⟨s0, s1, s2, s3, s4, s5, s6, s7, s8, s9⟩ p)) ∧ Below w.heap.size w w' := by
 obtain ⟨a, r, rfl⟩ : ∃ a r, p = a :: r := by
  cases p with
  | nil => simp at hk; omega
  | cons a r => exact ⟨a, r, rfl⟩
 have ha := ha a r rfl
 rw [show setY ⟨s0, s1, s2, s3, s4, s5, s6, s7, s8, s9⟩ (a :: r) = usualY from if_pos ha]
 have k1 := (Blk.new w 23 #[.bool s0, .bool s1, .bool s2, .bool s3, .bool s4, .bool s5, .bool s6, .int .i64 s7, .int .i64 s8, .int .i64 s9]).alloc (.cells #[.bool false, .bool false, .bool false, .bool false, .bool false, .bool false, .bool false, .int .i64 0, .int .i64 0, .int .i64 0] 23)
 have k2 := Blk.new (w.alloc (.cells #[.bool s0, .bool s1, .bool s2, .bool s3, .bool s4, .bool s5, .bool s6, .int .i64 s7, .int .i64 s8, .int .i64 s9] 23)) 23 #[.bool false, .bool false, .bool false, .bool false, .bool false, .bool false, .bool false, .int .i64 0, .int .i64 0, .int .i64 0]
 have HB0 : Below w.heap.size w ((w.alloc (.cells #[.bool s0, .bool s1, .bool s2, .bool s3, .bool s4, .bool s5, .bool s6, .int .i64 s7, .int .i64 s8, .int .i64 s9] 23)).alloc (.cells #[.bool false, .bool false, .bool false, .bool false, .bool false, .bool false, .bool false, .int .i64 0, .int .i64 0, .int .i64 0] 23)) := ((Below.refl _ w).alloc (Nat.le_refl _) _).alloc (by simp) _
 simp only [World.size_alloc] at k2
 obtain ⟨bb, o, rfl, hbb, hcc⟩ := hr.int_at (by simp)
 have c0 : w.cell? ⟨bb, o, none⟩ = some (.int .i64 a) := hcc 0 (by simp)
 have hkp : (0 : Int) < (k : Int) := by omega
 have hka : 0 < k := h1
 have hkz : ¬ ((k : Int) = 0) := by omega
 clear hcc
 go_enter Tryd.func35, Tryd.ntmps35
 go_wp2_with fail
 refine (rusual_any _).mono ?_
 rintro e w3 ⟨rfl, hb3⟩
 have hB3 := HB0.trans (hb3.mono HB0.size)
 have k3 := k2.below hb3 k2.lt
 go_wp2_with ((refine k3.wp_set (syC usualY) rfl rfl rfl rfl _ _ rfl rfl rfl ?_; intro w4 k4 hg4))
 have hB4 := hB3.trans (Fr.below (Fr.of_grown hg4) hB3.size (fun j hj => by injection hj with hj; omega))
 obtain ⟨a0, a1, a2, a3, a4, a5, a6, a7, a8, a9⟩ := Blk.cells10y (s := usualY) k4
 refine bodyPost_ret (v := syV usualY) (by unfold syV usualY at *; simp [results, Tryd.results35, go_sem, a0, a1, a2, a3, a4, a5, a6, a7, a8, a9]) rfl ?_
 exact ⟨rfl, hB4⟩
set_option maxRecDepth 100000 in
set_option maxHeartbeats 8000000 in
theorem rap_4 (s0 s1 s2 s3 s4 s5 s6 : Bool) (s7 s8 s9 : Int) (A : Option Addr) (p : List Int) (k c : Nat) (hk : p.length = k) (w : World) (hr : Rd w A (is_ p)) (h1 : 1 ≤ k) (ha : ∀ a r, p = a :: r → a = 4) :
 Calls Tryd.prog 35 #[.agg #[.bool s0, .bool s1, .bool s2, .bool s3, .bool s4, .bool s5, .bool s6, .int .i64 s7, .int .i64 s8, .int .i64 s9], .slice A k c] w fun e w' => e = .returned (syV (setY ⟨s0, s1, s2, s3, s4, s5, s6, s7, s8, s9⟩ p)) ∧ Below w.heap.size w w' := by
 obtain ⟨a, r, rfl⟩ : ∃ a r, p = a :: r := by
  cases p with
  | nil => simp at hk; omega
  | cons a r => exact ⟨a, r, rfl⟩
 obtain rfl : a = 4 := ha a r rfl
 clear ha
 cases r with
 | nil =>
   have hkk : k = 1 := by simpa using hk.symm
   have hk2 : (k : Int) < 2 := by omega
   rw [show setY ⟨s0, s1, s2, s3, s4, s5, s6, s7, s8, s9⟩ [4] = ⟨s0, s1, s2, s3, s4, s5, s6, 1, s8, s9⟩ from rfl]
   obtain ⟨bb, o, rfl, hbb, hcc⟩ := hr.int_at (by simp)
   have c0 : w.cell? ⟨bb, o, none⟩ = some (.int .i64 4) := hcc 0 (by simp)
   have hkp : (0 : Int) < (k : Int) := by omega
   have hka : 0 < k := h1
   have hkz : ¬ ((k : Int) = 0) := by omega
   clear hcc hkk hk h1
   unfold syV
   simp only
   have HB1 : Below w.heap.size w ((w.alloc (.cells #[.bool s0, .bool s1, .bool s2, .bool s3, .bool s4, .bool s5, .bool s6, .int .i64 1, .int .i64 s8, .int .i64 s9] 23)).alloc (.cells #[.bool s0, .bool s1, .bool s2, .bool s3, .bool s4, .bool s5, .bool s6, .int .i64 1, .int .i64 s8, .int .i64 s9] 23)) := ((Below.refl _ w).alloc (Nat.le_refl _) _).alloc (by simp) _
   go_enter Tryd.func35, Tryd.ntmps35
   go_wp2_with fail
   refine bodyPost_ret (v := .agg #[.bool s0, .bool s1, .bool s2, .bool s3, .bool s4, .bool s5, .bool s6, .int .i64 1, .int .i64 s8, .int .i64 s9]) (by simp [results, Tryd.results35, go_sem]) rfl ?_
   exact ⟨rfl, HB1⟩
 | cons u r =>
   obtain ⟨bb, o, rfl, hbb, hcc⟩ := hr.int_at (by simp)
   have c0 : w.cell? ⟨bb, o, none⟩ = some (.int .i64 4) := hcc 0 (by simp)
   have hkp : (0 : Int) < (k : Int) := by omega
   have hka : 0 < k := h1
   have hkz : ¬ ((k : Int) = 0) := by omega
   have c1 : w.cell? ⟨bb, o + 1, none⟩ = some (.int .i64 u) := hcc 1 (by simp)
   have hk2 : ¬ ((k : Int) < 2) := by simp at hk; omega
   have hk3 : (1 : Int) < (k : Int) := by simp at hk; omega
   have hk4 : 1 < k := by simp at hk; omega
   clear hcc hk hr
   by_cases u0 : 0 ≤ u
   ·by_cases u1 : u ≤ 5
    ·rw [show setY ⟨s0, s1, s2, s3, s4, s5, s6, s7, s8, s9⟩ (4 :: u :: r) = ⟨s0, s1, s2, s3, s4, s5, s6, u, s8, s9⟩ from if_pos ⟨u0, u1⟩]
     unfold syV
     simp only
     have HB1 : Below w.heap.size w ((w.alloc (.cells #[.bool s0, .bool s1, .bool s2, .bool s3, .bool s4, .bool s5, .bool s6, .int .i64 u, .int .i64 s8, .int .i64 s9] 23)).alloc (.cells #[.bool s0, .bool s1, .bool s2, .bool s3, .bool s4, .bool s5, .bool s6, .int .i64 u, .int .i64 s8, .int .i64 s9] 23)) := ((Below.refl _ w).alloc (Nat.le_refl _) _).alloc (by simp) _
     go_enter Tryd.func35, Tryd.ntmps35
     go_wp2_with fail
     refine bodyPost_ret (v := .agg #[.bool s0, .bool s1, .bool s2, .bool s3, .bool s4, .bool s5, .bool s6, .int .i64 u, .int .i64 s8, .int .i64 s9]) (by simp [results, Tryd.results35, go_sem]) rfl ?_
     exact ⟨rfl, HB1⟩
    ·rw [show setY ⟨s0, s1, s2, s3, s4, s5, s6, s7, s8, s9⟩ (4 :: u :: r) = ⟨s0, s1, s2, s3, s4, s5, s6, s7, s8, s9⟩ from if_neg (fun h => u1 h.2)]
     unfold syV
     simp only
     have HB1 : Below w.heap.size w ((w.alloc (.cells #[.bool s0, .bool s1, .bool s2, .bool s3, .bool s4, .bool s5, .bool s6, .int .i64 s7, .int .i64 s8, .int .i64 s9] 23)).alloc (.cells #[.bool s0, .bool s1, .bool s2, .bool s3, .bool s4, .bool s5, .bool s6, .int .i64 s7, .int .i64 s8, .int .i64 s9] 23)) := ((Below.refl _ w).alloc (Nat.le_refl _) _).alloc (by simp) _
     go_enter Tryd.func35, Tryd.ntmps35
     go_wp2_with fail
     refine bodyPost_ret (v := .agg #[.bool s0, .bool s1, .bool s2, .bool s3, .bool s4, .bool s5, .bool s6, .int .i64 s7, .int .i64 s8, .int .i64 s9]) (by simp [results, Tryd.results35, go_sem]) rfl ?_
     exact ⟨rfl, HB1⟩
   ·rw [show setY ⟨s0, s1, s2, s3, s4, s5, s6, s7, s8, s9⟩ (4 :: u :: r) = ⟨s0, s1, s2, s3, s4, s5, s6, s7, s8, s9⟩ from if_neg (fun h => u0 h.1)]
    unfold syV
    simp only
    have HB1 : Below w.heap.size w ((w.alloc (.cells #[.bool s0, .bool s1, .bool s2, .bool s3, .bool s4, .bool s5, .bool s6, .int .i64 s7, .int .i64 s8, .int .i64 s9] 23)).alloc (.cells #[.bool s0, .bool s1, .bool s2, .bool s3, .bool s4, .bool s5, .bool s6, .int .i64 s7, .int .i64 s8, .int .i64 s9] 23)) := ((Below.refl _ w).alloc (Nat.le_refl _) _).alloc (by simp) _
    go_enter Tryd.func35, Tryd.ntmps35
    go_wp2_with fail
    refine bodyPost_ret (v := .agg #[.bool s0, .bool s1, .bool s2, .bool s3, .bool s4, .bool s5, .bool s6, .int .i64 s7, .int .i64 s8, .int .i64 s9]) (by simp [results, Tryd.results35, go_sem]) rfl ?_
    exact ⟨rfl, HB1⟩
end Go.Proofs.YthcafgningpdnaaDoor
