/-
  Stage 18, the landed style, walked: apply.
-/
import Derived.Test.YthcafgningpdnaaDoorG11
import Derived.Test.YthcafgningpdnaaDoorG13
import Derived.Test.YthcafgningpdnaaDoorG16
import Derived.Deep.RegionWith
import Derived.Deep.Cut
namespace Go.Proofs.YthcafgningpdnaaDoor
open Go.RowKit Go.Maps
theorem any_said (a : Int) (p : List Int) (t : Int) : anyL p t = if -1 ≤ partedY (a :: p) then partedY (a :: p) else t := by
 have hb : ∀ n : Int, byteY n = true → 0 ≤ n ∧ n ≤ 255 := fun n h => by unfold byteY at h; simpa using h
 by_cases h2 : p.length = 2
 ·obtain ⟨b, n, rfl⟩ : ∃ b n, p = [b, n] := by
   match p, h2 with
   | [b, n], _ => exact ⟨b, n, rfl⟩
  show (if b = 5 ∧ byteY n = true then n else t) = if -1 ≤ (if b = 5 ∧ byteY n = true then n else -2) then (if b = 5 ∧ byteY n = true then n else -2) else t
  by_cases h : b = 5 ∧ byteY n = true
  ·have := hb n h.2
   rw [if_pos h, if_pos h, if_pos (by omega)]
  ·rw [if_neg h, if_neg h, if_neg (by omega)]
 by_cases h5 : p.length = 5
 ·obtain ⟨b, x, r, g, u, rfl⟩ : ∃ b x r g u, p = [b, x, r, g, u] := by
   match p, h5 with
   | [b, x, r, g, u], _ => exact ⟨b, x, r, g, u, rfl⟩
  show (if b = 2 ∧ byteY r = true ∧ byteY g = true ∧ byteY u = true then 256 + 65536 * r + 256 * g + u else t) = if -1 ≤ (if b = 2 ∧ byteY r = true ∧ byteY g = true ∧ byteY u = true then 256 + 65536 * r + 256 * g + u else -2) then (if b = 2 ∧ byteY r = true ∧ byteY g = true ∧ byteY u = true then 256 + 65536 * r + 256 * g + u else -2) else t
  by_cases h : b = 2 ∧ byteY r = true ∧ byteY g = true ∧ byteY u = true
  ·have := hb r h.2.1
   have := hb g h.2.2.1
   have := hb u h.2.2.2
   rw [if_pos h, if_pos h, if_pos (by omega)]
  ·rw [if_neg h, if_neg h, if_neg (by omega)]
 ·rw [any_len p t h2 h5]
  have : partedY (a :: p) = -2 := by
   unfold partedY
   split
   ·rename_i h; simp at h; obtain ⟨-, rfl⟩ := h; simp at h2
   ·rename_i h; simp at h; obtain ⟨-, rfl⟩ := h; simp at h5
   ·rfl
  rw [this, if_neg (by omega)]
theorem col_said (a base : Int) (p : List Int) (t : Int) : colL (a - base + 30) (a :: p) t = if -1 ≤ saidY (a :: p) a base then saidY (a :: p) a base else t := by
 unfold colL saidY
 by_cases h1 : 0 ≤ a - base ∧ a - base ≤ 7
 ·rw [if_pos (by omega), if_pos h1, if_pos (by omega)]; omega
 by_cases h2 : a - base = 9
 ·rw [if_neg (by omega), if_neg (by omega), if_pos (by omega), if_neg h1, if_pos h2, if_pos (by omega)]
 by_cases h3 : 60 ≤ a - base ∧ a - base ≤ 67
 ·rw [if_neg (by omega), if_pos (by omega), if_neg h1, if_neg h2, if_pos h3, if_pos (by omega)]; omega
 by_cases h4 : a - base = 8
 ·rw [if_neg (by omega), if_neg (by omega), if_neg (by omega), if_pos (by omega), if_neg h1, if_neg h2, if_neg h3, if_pos h4]
  exact any_said a p t
 ·rw [if_neg (by omega), if_neg (by omega), if_neg (by omega), if_neg (by omega), if_neg h1, if_neg h2, if_neg h3, if_neg h4, if_neg (by omega)]
theorem col_small (n : Int) (p : List Int) (t : Int) (h : n < 30) : colL n p t = t := by
 unfold colL
 rw [if_neg (by omega), if_neg (by omega), if_neg (by omega), if_neg (by omega)]
theorem mark_other {n : Int} (h : ¬ ((((((n = 1 ∨ n = 2) ∨ n = 3) ∨ n = 5) ∨ n = 7) ∨ n = 8) ∨ n = 9)) : isMark n = false := by
 unfold isMark
 simp only [Bool.or_eq_false_iff, decide_eq_false_iff_not]
 omega
theorem set_mark (s : Sy) (r : List Int) {a : Int} (h0 : 0 < a) (h1 : a ≤ 9) (h4 : a ≠ 4) : setY s (a :: r) = flagY s a := by
 unfold setY
 simp only
 rw [if_neg (by omega), if_neg h4, said_no (by omega), said_no (by omega)]
 simp
theorem set_und (s : Sy) (r : List Int) : setY s (4 :: r) = { s with under := lineL r s.under } := by
 show undY s (4 :: r) = _
 cases r with
 | nil => rfl
 | cons v r =>
   show (if 0 ≤ v ∧ v ≤ 5 then { s with under := v } else s) = { s with under := if 0 ≤ v ∧ v ≤ 5 then v else s.under }
   split <;> rfl
theorem set_rest (s : Sy) (r : List Int) {a : Int} (h0 : 0 < a) (h4 : a ≠ 4) (hm : ¬ ((((((a = 1 ∨ a = 2) ∨ a = 3) ∨ a = 5) ∨ a = 7) ∨ a = 8) ∨ a = 9)) : setY s (a :: r) = { s with fore := colL a (a :: r) s.fore, back := colL (a - 10) (a :: r) s.back } := by
 have e1 := col_said a 30 r s.fore
 have e2 := col_said a 40 r s.back
 rw [show a - 30 + 30 = a by omega] at e1
 rw [show a - 40 + 30 = a - 10 by omega] at e2
 rw [e1, e2]
 unfold setY
 simp only
 rw [if_neg (by omega), if_neg h4]
 unfold flagY
 rw [if_neg (by omega), if_neg (by omega), if_neg (by omega), if_neg (by omega), if_neg (by omega), if_neg (by omega), if_neg (by omega)]
def ApE (g : Nat) (s : Sy) (w : World) (e : Ending) (w' : World) : Prop := e = .returned (.tuple #[]) ∧ Blk w' g 23 (syC s) ∧ Fr w w' (· = g)
theorem rd_off18 {w w' : World} {g : Nat} {A : Option Addr} {p : List Int} (h : RdOff w (· = g) A (is_ p)) (hf : Fr w w' (· = g)) : RdOff w' (· = g) A (is_ p) := h.fr hf (Wid.refl _ _)
set_option maxRecDepth 100000 in
set_option maxHeartbeats 16000000 in
theorem sap_nil (g : Nat) (s0 s1 s2 s3 s4 s5 s6 : Bool) (u x y : Int) (A : Option Addr) (p : List Int) (k c : Nat) (hk : p.length = k) (hc : k ≤ c) (hin : ∀ n ∈ p, in18 n) (w : World) (hb : Blk w g 23 (syC ⟨s0, s1, s2, s3, s4, s5, s6, u, x, y⟩)) (hr : RdOff w (· = g) A (is_ p)) (h0 : p = []) :
 Calls Tryd.prog 34 #[.pointer (some ⟨g, 0, none⟩), .slice A k c] w (ApE g (setY ⟨s0, s1, s2, s3, s4, s5, s6, u, x, y⟩ p) w) := by
 subst h0
 obtain rfl : k = 0 := by simpa using hk.symm
 have hn : in18 0 := ⟨by decide, by decide⟩
 have hm : in18 (-10) := ⟨by decide, by decide⟩
 rw [show setY ⟨s0, s1, s2, s3, s4, s5, s6, u, x, y⟩ [] = usualY from rfl]
 go_enter Tryd.func34, Tryd.ntmps34
 go_wp2_with fail
 refine (smarks_any g _).mono ?_
 rintro e w1 ⟨b, m, rfl, hlt, hom, hb1⟩
 have hlook := look18 hom hn (mark_no g (mark_other (n := 0) (by omega))).1 (mark_no g (mark_other (n := 0) (by omega))).2
 have k1 := hb.below hb1 hb.lt
 have f1 := Fr.of_below hb1 (· = g)
 clear hom hb1
 have kB := k1
 go_upto_region 11 with ((refine kB.wp_set (syC usualY) rfl rfl rfl rfl _ _ rfl rfl rfl ?_; intro w2 kW hg2))
 have fW := f1.trans (Fr.of_grown hg2) (fun j hj => .inl (by injection hj with hj; exact hj.symm))
 have fW : Fr w w2 (· = g) := fW
 clear kB k1 f1 hg2 hlook
 have rW := (rd_off18 hr fW).rd
 have c8 : w2.cell? ⟨g, 8, none⟩ = some (.int .i64 (-1)) := kW.cell 8
 go_wp2_with fail
 refine (scolourOf_any (0) hn A [] 0 c rfl hc (-1) (by decide) _ rW).mono ?_
 rintro e w4 ⟨rfl, hb4⟩
 have k4 := kW.below hb4 kW.lt
 have f4 := fW.trans (Fr.of_below hb4 (· = g)) (fun j hj => .inl hj)
 clear c8 rW fW kW hb4
 have z8 := k4.frozen 8
 have c8 : w4.cell? ⟨g, 8, none⟩ = some (.int .i64 (-1)) := k4.cell 8
 go_upto_region 12 with (fail)
 have f5 := f4.trans (Fr.setCell w4 g 8 (.int .i64 (colL (0) [] (-1))) (· = g) rfl) (fun j hj => .inl hj)
 have k5 := k4.set 8 (.int .i64 (colL (0) [] (-1)))
 obtain ⟨w5, hw5⟩ : ∃ w5, w4.setCell ⟨g, 8, none⟩ (.int .i64 (colL (0) [] (-1))) = w5 := ⟨_, rfl⟩
 rw [hw5] at f5 k5 ⊢
 clear hw5 k4 f4 c8 z8
 have c9 : w5.cell? ⟨g, 9, none⟩ = some (.int .i64 (-1)) := k5.cell 9
 have r5 := (rd_off18 hr f5).rd
 go_wp2_with fail
 refine (scolourOf_any (-10) hm A [] 0 c rfl hc (-1) (by decide) _ r5).mono ?_
 rintro e w6 ⟨rfl, hb6⟩
 have k6 := k5.below hb6 k5.lt
 have f6 := f5.trans (Fr.of_below hb6 (· = g)) (fun j hj => .inl hj)
 clear c9 r5 f5 k5 hb6
 have z9 := k6.frozen 9
 have c9 : w6.cell? ⟨g, 9, none⟩ = some (.int .i64 (-1)) := k6.cell 9
 have f7 := f6.trans (Fr.setCell w6 g 9 (.int .i64 (colL (-10) [] (-1))) (· = g) rfl) (fun j hj => .inl hj)
 have k7 := k6.set 9 (.int .i64 (colL (-10) [] (-1)))
 go_wp2_with fail
 refine bodyPost_ret (v := .tuple #[]) (by simp [results, Tryd.results34, go_sem]) rfl ?_
 refine ⟨rfl, ?_, f7⟩
 rw [col_small _ _ _ (by decide)] at k7
 exact k7
set_option maxRecDepth 100000 in
set_option maxHeartbeats 16000000 in
theorem sap_zero (g : Nat) (s0 s1 s2 s3 s4 s5 s6 : Bool) (u x y : Int) (A : Option Addr) (p : List Int) (k c : Nat) (hk : p.length = k) (hc : k ≤ c) (hin : ∀ n ∈ p, in18 n) (w : World) (hb : Blk w g 23 (syC ⟨s0, s1, s2, s3, s4, s5, s6, u, x, y⟩)) (hr : RdOff w (· = g) A (is_ p)) (h1 : 1 ≤ k) (ha : ∀ a r, p = a :: r → a ≤ 0) :
 Calls Tryd.prog 34 #[.pointer (some ⟨g, 0, none⟩), .slice A k c] w (ApE g (setY ⟨s0, s1, s2, s3, s4, s5, s6, u, x, y⟩ p) w) := by
 obtain ⟨bb, o, rfl, hbb, hcc⟩ := hr.rd.int_at (by omega)
 obtain ⟨a, r, rfl⟩ : ∃ a r, p = a :: r := by
  cases p with
  | nil => simp at hk; omega
  | cons a r => exact ⟨a, r, rfl⟩
 have c0 : w.cell? ⟨bb, o, none⟩ = some (.int .i64 a) := hcc 0 (by simp)
 have hk1 : 1 ≤ k := h1
 have hkp : (0 : Int) < (k : Int) := by omega
 have hka : 0 < k := h1
 clear hcc
 have ha := ha a r rfl
 have hmx : max 0 a = 0 := by omega
 have hn : in18 0 := ⟨by decide, by decide⟩
 have hm : in18 (-10) := ⟨by decide, by decide⟩
 rw [show setY ⟨s0, s1, s2, s3, s4, s5, s6, u, x, y⟩ (a :: r) = usualY from if_pos ha]
 go_enter Tryd.func34, Tryd.ntmps34
 go_wp2_with fail
 refine (smarks_any g _).mono ?_
 rintro e w1 ⟨b, m, rfl, hlt, hom, hb1⟩
 have hlook := look18 hom hn (mark_no g (mark_other (n := 0) (by omega))).1 (mark_no g (mark_other (n := 0) (by omega))).2
 have k1 := hb.below hb1 hb.lt
 have f1 := Fr.of_below hb1 (· = g)
 clear hom hb1
 have kB := k1
 go_upto_region 11 with ((refine kB.wp_set (syC usualY) rfl rfl rfl rfl _ _ rfl rfl rfl ?_; intro w2 kW hg2))
 have fW := f1.trans (Fr.of_grown hg2) (fun j hj => .inl (by injection hj with hj; exact hj.symm))
 have fW : Fr w w2 (· = g) := fW
 clear kB k1 f1 hg2 hlook
 have rW := (rd_off18 hr fW).rd
 have c8 : w2.cell? ⟨g, 8, none⟩ = some (.int .i64 (-1)) := kW.cell 8
 go_wp2_with fail
 refine (scolourOf_any (0) hn _ (a :: r) k c hk hc (-1) (fun _ => hk1) _ rW).mono ?_
 rintro e w4 ⟨rfl, hb4⟩
 have k4 := kW.below hb4 kW.lt
 have f4 := fW.trans (Fr.of_below hb4 (· = g)) (fun j hj => .inl hj)
 clear c8 rW fW kW hb4
 have z8 := k4.frozen 8
 have c8 : w4.cell? ⟨g, 8, none⟩ = some (.int .i64 (-1)) := k4.cell 8
 go_upto_region 12 with (fail)
 have f5 := f4.trans (Fr.setCell w4 g 8 (.int .i64 (colL (0) (a :: r) (-1))) (· = g) rfl) (fun j hj => .inl hj)
 have k5 := k4.set 8 (.int .i64 (colL (0) (a :: r) (-1)))
 obtain ⟨w5, hw5⟩ : ∃ w5, w4.setCell ⟨g, 8, none⟩ (.int .i64 (colL (0) (a :: r) (-1))) = w5 := ⟨_, rfl⟩
 rw [hw5] at f5 k5 ⊢
 clear hw5 k4 f4 c8 z8
 have c9 : w5.cell? ⟨g, 9, none⟩ = some (.int .i64 (-1)) := k5.cell 9
 have r5 := (rd_off18 hr f5).rd
 go_wp2_with fail
 refine (scolourOf_any (-10) hm _ (a :: r) k c hk hc (-1) (fun _ => hk1) _ r5).mono ?_
 rintro e w6 ⟨rfl, hb6⟩
 have k6 := k5.below hb6 k5.lt
 have f6 := f5.trans (Fr.of_below hb6 (· = g)) (fun j hj => .inl hj)
 clear c9 r5 f5 k5 hb6
 have z9 := k6.frozen 9
 have c9 : w6.cell? ⟨g, 9, none⟩ = some (.int .i64 (-1)) := k6.cell 9
 have f7 := f6.trans (Fr.setCell w6 g 9 (.int .i64 (colL (-10) (a :: r) (-1))) (· = g) rfl) (fun j hj => .inl hj)
 have k7 := k6.set 9 (.int .i64 (colL (-10) (a :: r) (-1)))
 go_wp2_with fail
 refine bodyPost_ret (v := .tuple #[]) (by simp [results, Tryd.results34, go_sem]) rfl ?_
 refine ⟨rfl, ?_, f7⟩
 rw [col_small _ _ _ (by decide)] at k7
 exact k7
set_option maxRecDepth 100000 in
set_option maxHeartbeats 16000000 in
theorem sap_1 (g : Nat) (s0 s1 s2 s3 s4 s5 s6 : Bool) (u x y : Int) (A : Option Addr) (p : List Int) (k c : Nat) (hk : p.length = k) (hc : k ≤ c) (hin : ∀ n ∈ p, in18 n) (w : World) (hb : Blk w g 23 (syC ⟨s0, s1, s2, s3, s4, s5, s6, u, x, y⟩)) (hr : RdOff w (· = g) A (is_ p)) (h1 : 1 ≤ k) (ha : ∀ a r, p = a :: r → a = 1) :
 Calls Tryd.prog 34 #[.pointer (some ⟨g, 0, none⟩), .slice A k c] w (ApE g (setY ⟨s0, s1, s2, s3, s4, s5, s6, u, x, y⟩ p) w) := by
 obtain ⟨bb, o, rfl, hbb, hcc⟩ := hr.rd.int_at (by omega)
 obtain ⟨a, r, rfl⟩ : ∃ a r, p = a :: r := by
  cases p with
  | nil => simp at hk; omega
  | cons a r => exact ⟨a, r, rfl⟩
 have c0 : w.cell? ⟨bb, o, none⟩ = some (.int .i64 a) := hcc 0 (by simp)
 have hk1 : 1 ≤ k := h1
 have hkp : (0 : Int) < (k : Int) := by omega
 have hka : 0 < k := h1
 clear hcc
 obtain rfl : a = 1 := ha a r rfl
 have hmx : max (0 : Int) 1 = 1 := by decide
 have hn : in18 1 := ⟨by decide, by decide⟩
 have hm : in18 (-9) := ⟨by decide, by decide⟩
 rw [set_mark _ r (by decide) (by decide) (by decide)]
 go_enter Tryd.func34, Tryd.ntmps34
 go_wp2_with fail
 refine (smarks_any g _).mono ?_
 rintro e w1 ⟨b, m, rfl, hlt, hom, hb1⟩
 have hlook := look18 hom hn (mark_1 g).1 (mark_1 g).2
 have k1 := hb.below hb1 hb.lt
 have f1 := Fr.of_below hb1 (· = g)
 clear hom hb1
 unfold pB at hlook
 have ci : w1.cell? ⟨g, 0, none⟩ = some (.bool s0) := k1.cell 0
 have zi := k1.frozen 0
 go_upto_region 11 with (fail)
 have fW := f1.trans (Fr.setCell w1 g 0 (.bool true) (· = g) rfl) (fun j hj => .inl hj)
 have kW := k1.set 0 (.bool true)
 obtain ⟨w2, hw2⟩ : ∃ w2, w1.setCell ⟨g, 0, none⟩ (.bool true) = w2 := ⟨_, rfl⟩
 rw [hw2] at fW kW ⊢
 clear hw2 k1 f1 ci zi hlook
 have rW := (rd_off18 hr fW).rd
 have c8 : w2.cell? ⟨g, 8, none⟩ = some (.int .i64 (x)) := kW.cell 8
 go_wp2_with fail
 refine (scolourOf_any (1) hn _ (1 :: r) k c hk hc (x) (fun _ => hk1) _ rW).mono ?_
 rintro e w4 ⟨rfl, hb4⟩
 have k4 := kW.below hb4 kW.lt
 have f4 := fW.trans (Fr.of_below hb4 (· = g)) (fun j hj => .inl hj)
 clear c8 rW fW kW hb4
 have z8 := k4.frozen 8
 have c8 : w4.cell? ⟨g, 8, none⟩ = some (.int .i64 (x)) := k4.cell 8
 go_upto_region 12 with (fail)
 have f5 := f4.trans (Fr.setCell w4 g 8 (.int .i64 (colL (1) (1 :: r) (x))) (· = g) rfl) (fun j hj => .inl hj)
 have k5 := k4.set 8 (.int .i64 (colL (1) (1 :: r) (x)))
 obtain ⟨w5, hw5⟩ : ∃ w5, w4.setCell ⟨g, 8, none⟩ (.int .i64 (colL (1) (1 :: r) (x))) = w5 := ⟨_, rfl⟩
 rw [hw5] at f5 k5 ⊢
 clear hw5 k4 f4 c8 z8
 have c9 : w5.cell? ⟨g, 9, none⟩ = some (.int .i64 (y)) := k5.cell 9
 have r5 := (rd_off18 hr f5).rd
 go_wp2_with fail
 refine (scolourOf_any (-9) hm _ (1 :: r) k c hk hc (y) (fun _ => hk1) _ r5).mono ?_
 rintro e w6 ⟨rfl, hb6⟩
 have k6 := k5.below hb6 k5.lt
 have f6 := f5.trans (Fr.of_below hb6 (· = g)) (fun j hj => .inl hj)
 clear c9 r5 f5 k5 hb6
 have z9 := k6.frozen 9
 have c9 : w6.cell? ⟨g, 9, none⟩ = some (.int .i64 (y)) := k6.cell 9
 have f7 := f6.trans (Fr.setCell w6 g 9 (.int .i64 (colL (-9) (1 :: r) (y))) (· = g) rfl) (fun j hj => .inl hj)
 have k7 := k6.set 9 (.int .i64 (colL (-9) (1 :: r) (y)))
 go_wp2_with fail
 refine bodyPost_ret (v := .tuple #[]) (by simp [results, Tryd.results34, go_sem]) rfl ?_
 refine ⟨rfl, ?_, f7⟩
 rw [col_small _ _ _ (by decide), col_small _ _ _ (by decide)] at k7
 exact k7
set_option maxRecDepth 100000 in
set_option maxHeartbeats 16000000 in
theorem sap_2 (g : Nat) (s0 s1 s2 s3 s4 s5 s6 : Bool) (u x y : Int) (A : Option Addr) (p : List Int) (k c : Nat) (hk : p.length = k) (hc : k ≤ c) (hin : ∀ n ∈ p, in18 n) (w : World) (hb : Blk w g 23 (syC ⟨s0, s1, s2, s3, s4, s5, s6, u, x, y⟩)) (hr : RdOff w (· = g) A (is_ p)) (h1 : 1 ≤ k) (ha : ∀ a r, p = a :: r → a = 2) :
 Calls Tryd.prog 34 #[.pointer (some ⟨g, 0, none⟩), .slice A k c] w (ApE g (setY ⟨s0, s1, s2, s3, s4, s5, s6, u, x, y⟩ p) w) := by
 obtain ⟨bb, o, rfl, hbb, hcc⟩ := hr.rd.int_at (by omega)
 obtain ⟨a, r, rfl⟩ : ∃ a r, p = a :: r := by
  cases p with
  | nil => simp at hk; omega
  | cons a r => exact ⟨a, r, rfl⟩
 have c0 : w.cell? ⟨bb, o, none⟩ = some (.int .i64 a) := hcc 0 (by simp)
 have hk1 : 1 ≤ k := h1
 have hkp : (0 : Int) < (k : Int) := by omega
 have hka : 0 < k := h1
 clear hcc
 obtain rfl : a = 2 := ha a r rfl
 have hmx : max (0 : Int) 2 = 2 := by decide
 have hn : in18 2 := ⟨by decide, by decide⟩
 have hm : in18 (-8) := ⟨by decide, by decide⟩
 rw [set_mark _ r (by decide) (by decide) (by decide)]
 go_enter Tryd.func34, Tryd.ntmps34
 go_wp2_with fail
 refine (smarks_any g _).mono ?_
 rintro e w1 ⟨b, m, rfl, hlt, hom, hb1⟩
 have hlook := look18 hom hn (mark_2 g).1 (mark_2 g).2
 have k1 := hb.below hb1 hb.lt
 have f1 := Fr.of_below hb1 (· = g)
 clear hom hb1
 unfold pB at hlook
 have ci : w1.cell? ⟨g, 1, none⟩ = some (.bool s1) := k1.cell 1
 have zi := k1.frozen 1
 go_upto_region 11 with (fail)
 have fW := f1.trans (Fr.setCell w1 g 1 (.bool true) (· = g) rfl) (fun j hj => .inl hj)
 have kW := k1.set 1 (.bool true)
 obtain ⟨w2, hw2⟩ : ∃ w2, w1.setCell ⟨g, 1, none⟩ (.bool true) = w2 := ⟨_, rfl⟩
 rw [hw2] at fW kW ⊢
 clear hw2 k1 f1 ci zi hlook
 have rW := (rd_off18 hr fW).rd
 have c8 : w2.cell? ⟨g, 8, none⟩ = some (.int .i64 (x)) := kW.cell 8
 go_wp2_with fail
 refine (scolourOf_any (2) hn _ (2 :: r) k c hk hc (x) (fun _ => hk1) _ rW).mono ?_
 rintro e w4 ⟨rfl, hb4⟩
 have k4 := kW.below hb4 kW.lt
 have f4 := fW.trans (Fr.of_below hb4 (· = g)) (fun j hj => .inl hj)
 clear c8 rW fW kW hb4
 have z8 := k4.frozen 8
 have c8 : w4.cell? ⟨g, 8, none⟩ = some (.int .i64 (x)) := k4.cell 8
 go_upto_region 12 with (fail)
 have f5 := f4.trans (Fr.setCell w4 g 8 (.int .i64 (colL (2) (2 :: r) (x))) (· = g) rfl) (fun j hj => .inl hj)
 have k5 := k4.set 8 (.int .i64 (colL (2) (2 :: r) (x)))
 obtain ⟨w5, hw5⟩ : ∃ w5, w4.setCell ⟨g, 8, none⟩ (.int .i64 (colL (2) (2 :: r) (x))) = w5 := ⟨_, rfl⟩
 rw [hw5] at f5 k5 ⊢
 clear hw5 k4 f4 c8 z8
 have c9 : w5.cell? ⟨g, 9, none⟩ = some (.int .i64 (y)) := k5.cell 9
 have r5 := (rd_off18 hr f5).rd
 go_wp2_with fail
 refine (scolourOf_any (-8) hm _ (2 :: r) k c hk hc (y) (fun _ => hk1) _ r5).mono ?_
 rintro e w6 ⟨rfl, hb6⟩
 have k6 := k5.below hb6 k5.lt
 have f6 := f5.trans (Fr.of_below hb6 (· = g)) (fun j hj => .inl hj)
 clear c9 r5 f5 k5 hb6
 have z9 := k6.frozen 9
 have c9 : w6.cell? ⟨g, 9, none⟩ = some (.int .i64 (y)) := k6.cell 9
 have f7 := f6.trans (Fr.setCell w6 g 9 (.int .i64 (colL (-8) (2 :: r) (y))) (· = g) rfl) (fun j hj => .inl hj)
 have k7 := k6.set 9 (.int .i64 (colL (-8) (2 :: r) (y)))
 go_wp2_with fail
 refine bodyPost_ret (v := .tuple #[]) (by simp [results, Tryd.results34, go_sem]) rfl ?_
 refine ⟨rfl, ?_, f7⟩
 rw [col_small _ _ _ (by decide), col_small _ _ _ (by decide)] at k7
 exact k7
set_option maxRecDepth 100000 in
set_option maxHeartbeats 16000000 in
theorem sap_3 (g : Nat) (s0 s1 s2 s3 s4 s5 s6 : Bool) (u x y : Int) (A : Option Addr) (p : List Int) (k c : Nat) (hk : p.length = k) (hc : k ≤ c) (hin : ∀ n ∈ p, in18 n) (w : World) (hb : Blk w g 23 (syC ⟨s0, s1, s2, s3, s4, s5, s6, u, x, y⟩)) (hr : RdOff w (· = g) A (is_ p)) (h1 : 1 ≤ k) (ha : ∀ a r, p = a :: r → a = 3) :
 Calls Tryd.prog 34 #[.pointer (some ⟨g, 0, none⟩), .slice A k c] w (ApE g (setY ⟨s0, s1, s2, s3, s4, s5, s6, u, x, y⟩ p) w) := by
 obtain ⟨bb, o, rfl, hbb, hcc⟩ := hr.rd.int_at (by omega)
 obtain ⟨a, r, rfl⟩ : ∃ a r, p = a :: r := by
  cases p with
  | nil => simp at hk; omega
  | cons a r => exact ⟨a, r, rfl⟩
 have c0 : w.cell? ⟨bb, o, none⟩ = some (.int .i64 a) := hcc 0 (by simp)
 have hk1 : 1 ≤ k := h1
 have hkp : (0 : Int) < (k : Int) := by omega
 have hka : 0 < k := h1
 clear hcc
 obtain rfl : a = 3 := ha a r rfl
 have hmx : max (0 : Int) 3 = 3 := by decide
 have hn : in18 3 := ⟨by decide, by decide⟩
 have hm : in18 (-7) := ⟨by decide, by decide⟩
 rw [set_mark _ r (by decide) (by decide) (by decide)]
 go_enter Tryd.func34, Tryd.ntmps34
 go_wp2_with fail
 refine (smarks_any g _).mono ?_
 rintro e w1 ⟨b, m, rfl, hlt, hom, hb1⟩
 have hlook := look18 hom hn (mark_3 g).1 (mark_3 g).2
 have k1 := hb.below hb1 hb.lt
 have f1 := Fr.of_below hb1 (· = g)
 clear hom hb1
 unfold pB at hlook
 have ci : w1.cell? ⟨g, 2, none⟩ = some (.bool s2) := k1.cell 2
 have zi := k1.frozen 2
 go_upto_region 11 with (fail)
 have fW := f1.trans (Fr.setCell w1 g 2 (.bool true) (· = g) rfl) (fun j hj => .inl hj)
 have kW := k1.set 2 (.bool true)
 obtain ⟨w2, hw2⟩ : ∃ w2, w1.setCell ⟨g, 2, none⟩ (.bool true) = w2 := ⟨_, rfl⟩
 rw [hw2] at fW kW ⊢
 clear hw2 k1 f1 ci zi hlook
 have rW := (rd_off18 hr fW).rd
 have c8 : w2.cell? ⟨g, 8, none⟩ = some (.int .i64 (x)) := kW.cell 8
 go_wp2_with fail
 refine (scolourOf_any (3) hn _ (3 :: r) k c hk hc (x) (fun _ => hk1) _ rW).mono ?_
 rintro e w4 ⟨rfl, hb4⟩
 have k4 := kW.below hb4 kW.lt
 have f4 := fW.trans (Fr.of_below hb4 (· = g)) (fun j hj => .inl hj)
 clear c8 rW fW kW hb4
 have z8 := k4.frozen 8
 have c8 : w4.cell? ⟨g, 8, none⟩ = some (.int .i64 (x)) := k4.cell 8
 go_upto_region 12 with (fail)
 have f5 := f4.trans (Fr.setCell w4 g 8 (.int .i64 (colL (3) (3 :: r) (x))) (· = g) rfl) (fun j hj => .inl hj)
 have k5 := k4.set 8 (.int .i64 (colL (3) (3 :: r) (x)))
 obtain ⟨w5, hw5⟩ : ∃ w5, w4.setCell ⟨g, 8, none⟩ (.int .i64 (colL (3) (3 :: r) (x))) = w5 := ⟨_, rfl⟩
 rw [hw5] at f5 k5 ⊢
 clear hw5 k4 f4 c8 z8
 have c9 : w5.cell? ⟨g, 9, none⟩ = some (.int .i64 (y)) := k5.cell 9
 have r5 := (rd_off18 hr f5).rd
 go_wp2_with fail
 refine (scolourOf_any (-7) hm _ (3 :: r) k c hk hc (y) (fun _ => hk1) _ r5).mono ?_
 rintro e w6 ⟨rfl, hb6⟩
 have k6 := k5.below hb6 k5.lt
 have f6 := f5.trans (Fr.of_below hb6 (· = g)) (fun j hj => .inl hj)
 clear c9 r5 f5 k5 hb6
 have z9 := k6.frozen 9
 have c9 : w6.cell? ⟨g, 9, none⟩ = some (.int .i64 (y)) := k6.cell 9
 have f7 := f6.trans (Fr.setCell w6 g 9 (.int .i64 (colL (-7) (3 :: r) (y))) (· = g) rfl) (fun j hj => .inl hj)
 have k7 := k6.set 9 (.int .i64 (colL (-7) (3 :: r) (y)))
 go_wp2_with fail
 refine bodyPost_ret (v := .tuple #[]) (by simp [results, Tryd.results34, go_sem]) rfl ?_
 refine ⟨rfl, ?_, f7⟩
 rw [col_small _ _ _ (by decide), col_small _ _ _ (by decide)] at k7
 exact k7
set_option maxRecDepth 100000 in
set_option maxHeartbeats 16000000 in
theorem sap_5 (g : Nat) (s0 s1 s2 s3 s4 s5 s6 : Bool) (u x y : Int) (A : Option Addr) (p : List Int) (k c : Nat) (hk : p.length = k) (hc : k ≤ c) (hin : ∀ n ∈ p, in18 n) (w : World) (hb : Blk w g 23 (syC ⟨s0, s1, s2, s3, s4, s5, s6, u, x, y⟩)) (hr : RdOff w (· = g) A (is_ p)) (h1 : 1 ≤ k) (ha : ∀ a r, p = a :: r → a = 5) :
 Calls Tryd.prog 34 #[.pointer (some ⟨g, 0, none⟩), .slice A k c] w (ApE g (setY ⟨s0, s1, s2, s3, s4, s5, s6, u, x, y⟩ p) w) := by
 obtain ⟨bb, o, rfl, hbb, hcc⟩ := hr.rd.int_at (by omega)
 obtain ⟨a, r, rfl⟩ : ∃ a r, p = a :: r := by
  cases p with
  | nil => simp at hk; omega
  | cons a r => exact ⟨a, r, rfl⟩
 have c0 : w.cell? ⟨bb, o, none⟩ = some (.int .i64 a) := hcc 0 (by simp)
 have hk1 : 1 ≤ k := h1
 have hkp : (0 : Int) < (k : Int) := by omega
 have hka : 0 < k := h1
 clear hcc
 obtain rfl : a = 5 := ha a r rfl
 have hmx : max (0 : Int) 5 = 5 := by decide
 have hn : in18 5 := ⟨by decide, by decide⟩
 have hm : in18 (-5) := ⟨by decide, by decide⟩
 rw [set_mark _ r (by decide) (by decide) (by decide)]
 go_enter Tryd.func34, Tryd.ntmps34
 go_wp2_with fail
 refine (smarks_any g _).mono ?_
 rintro e w1 ⟨b, m, rfl, hlt, hom, hb1⟩
 have hlook := look18 hom hn (mark_5 g).1 (mark_5 g).2
 have k1 := hb.below hb1 hb.lt
 have f1 := Fr.of_below hb1 (· = g)
 clear hom hb1
 unfold pB at hlook
 have ci : w1.cell? ⟨g, 3, none⟩ = some (.bool s3) := k1.cell 3
 have zi := k1.frozen 3
 go_upto_region 11 with (fail)
 have fW := f1.trans (Fr.setCell w1 g 3 (.bool true) (· = g) rfl) (fun j hj => .inl hj)
 have kW := k1.set 3 (.bool true)
 obtain ⟨w2, hw2⟩ : ∃ w2, w1.setCell ⟨g, 3, none⟩ (.bool true) = w2 := ⟨_, rfl⟩
 rw [hw2] at fW kW ⊢
 clear hw2 k1 f1 ci zi hlook
 have rW := (rd_off18 hr fW).rd
 have c8 : w2.cell? ⟨g, 8, none⟩ = some (.int .i64 (x)) := kW.cell 8
 go_wp2_with fail
 refine (scolourOf_any (5) hn _ (5 :: r) k c hk hc (x) (fun _ => hk1) _ rW).mono ?_
 rintro e w4 ⟨rfl, hb4⟩
 have k4 := kW.below hb4 kW.lt
 have f4 := fW.trans (Fr.of_below hb4 (· = g)) (fun j hj => .inl hj)
 clear c8 rW fW kW hb4
 have z8 := k4.frozen 8
 have c8 : w4.cell? ⟨g, 8, none⟩ = some (.int .i64 (x)) := k4.cell 8
 go_upto_region 12 with (fail)
 have f5 := f4.trans (Fr.setCell w4 g 8 (.int .i64 (colL (5) (5 :: r) (x))) (· = g) rfl) (fun j hj => .inl hj)
 have k5 := k4.set 8 (.int .i64 (colL (5) (5 :: r) (x)))
 obtain ⟨w5, hw5⟩ : ∃ w5, w4.setCell ⟨g, 8, none⟩ (.int .i64 (colL (5) (5 :: r) (x))) = w5 := ⟨_, rfl⟩
 rw [hw5] at f5 k5 ⊢
 clear hw5 k4 f4 c8 z8
 have c9 : w5.cell? ⟨g, 9, none⟩ = some (.int .i64 (y)) := k5.cell 9
 have r5 := (rd_off18 hr f5).rd
 go_wp2_with fail
 refine (scolourOf_any (-5) hm _ (5 :: r) k c hk hc (y) (fun _ => hk1) _ r5).mono ?_
 rintro e w6 ⟨rfl, hb6⟩
 have k6 := k5.below hb6 k5.lt
 have f6 := f5.trans (Fr.of_below hb6 (· = g)) (fun j hj => .inl hj)
 clear c9 r5 f5 k5 hb6
 have z9 := k6.frozen 9
 have c9 : w6.cell? ⟨g, 9, none⟩ = some (.int .i64 (y)) := k6.cell 9
 have f7 := f6.trans (Fr.setCell w6 g 9 (.int .i64 (colL (-5) (5 :: r) (y))) (· = g) rfl) (fun j hj => .inl hj)
 have k7 := k6.set 9 (.int .i64 (colL (-5) (5 :: r) (y)))
 go_wp2_with fail
 refine bodyPost_ret (v := .tuple #[]) (by simp [results, Tryd.results34, go_sem]) rfl ?_
 refine ⟨rfl, ?_, f7⟩
 rw [col_small _ _ _ (by decide), col_small _ _ _ (by decide)] at k7
 exact k7
set_option maxRecDepth 100000 in
set_option maxHeartbeats 16000000 in
theorem sap_7 (g : Nat) (s0 s1 s2 s3 s4 s5 s6 : Bool) (u x y : Int) (A : Option Addr) (p : List Int) (k c : Nat) (hk : p.length = k) (hc : k ≤ c) (hin : ∀ n ∈ p, in18 n) (w : World) (hb : Blk w g 23 (syC ⟨s0, s1, s2, s3, s4, s5, s6, u, x, y⟩)) (hr : RdOff w (· = g) A (is_ p)) (h1 : 1 ≤ k) (ha : ∀ a r, p = a :: r → a = 7) :
 Calls Tryd.prog 34 #[.pointer (some ⟨g, 0, none⟩), .slice A k c] w (ApE g (setY ⟨s0, s1, s2, s3, s4, s5, s6, u, x, y⟩ p) w) := by
 obtain ⟨bb, o, rfl, hbb, hcc⟩ := hr.rd.int_at (by omega)
 obtain ⟨a, r, rfl⟩ : ∃ a r, p = a :: r := by
  cases p with
  | nil => simp at hk; omega
  | cons a r => exact ⟨a, r, rfl⟩
 have c0 : w.cell? ⟨bb, o, none⟩ = some (.int .i64 a) := hcc 0 (by simp)
 have hk1 : 1 ≤ k := h1
 have hkp : (0 : Int) < (k : Int) := by omega
 have hka : 0 < k := h1
 clear hcc
 obtain rfl : a = 7 := ha a r rfl
 have hmx : max (0 : Int) 7 = 7 := by decide
 have hn : in18 7 := ⟨by decide, by decide⟩
 have hm : in18 (-3) := ⟨by decide, by decide⟩
 rw [set_mark _ r (by decide) (by decide) (by decide)]
 go_enter Tryd.func34, Tryd.ntmps34
 go_wp2_with fail
 refine (smarks_any g _).mono ?_
 rintro e w1 ⟨b, m, rfl, hlt, hom, hb1⟩
 have hlook := look18 hom hn (mark_7 g).1 (mark_7 g).2
 have k1 := hb.below hb1 hb.lt
 have f1 := Fr.of_below hb1 (· = g)
 clear hom hb1
 unfold pB at hlook
 have ci : w1.cell? ⟨g, 4, none⟩ = some (.bool s4) := k1.cell 4
 have zi := k1.frozen 4
 go_upto_region 11 with (fail)
 have fW := f1.trans (Fr.setCell w1 g 4 (.bool true) (· = g) rfl) (fun j hj => .inl hj)
 have kW := k1.set 4 (.bool true)
 obtain ⟨w2, hw2⟩ : ∃ w2, w1.setCell ⟨g, 4, none⟩ (.bool true) = w2 := ⟨_, rfl⟩
 rw [hw2] at fW kW ⊢
 clear hw2 k1 f1 ci zi hlook
 have rW := (rd_off18 hr fW).rd
 have c8 : w2.cell? ⟨g, 8, none⟩ = some (.int .i64 (x)) := kW.cell 8
 go_wp2_with fail
 refine (scolourOf_any (7) hn _ (7 :: r) k c hk hc (x) (fun _ => hk1) _ rW).mono ?_
 rintro e w4 ⟨rfl, hb4⟩
 have k4 := kW.below hb4 kW.lt
 have f4 := fW.trans (Fr.of_below hb4 (· = g)) (fun j hj => .inl hj)
 clear c8 rW fW kW hb4
 have z8 := k4.frozen 8
 have c8 : w4.cell? ⟨g, 8, none⟩ = some (.int .i64 (x)) := k4.cell 8
 go_upto_region 12 with (fail)
 have f5 := f4.trans (Fr.setCell w4 g 8 (.int .i64 (colL (7) (7 :: r) (x))) (· = g) rfl) (fun j hj => .inl hj)
 have k5 := k4.set 8 (.int .i64 (colL (7) (7 :: r) (x)))
 obtain ⟨w5, hw5⟩ : ∃ w5, w4.setCell ⟨g, 8, none⟩ (.int .i64 (colL (7) (7 :: r) (x))) = w5 := ⟨_, rfl⟩
 rw [hw5] at f5 k5 ⊢
 clear hw5 k4 f4 c8 z8
 have c9 : w5.cell? ⟨g, 9, none⟩ = some (.int .i64 (y)) := k5.cell 9
 have r5 := (rd_off18 hr f5).rd
 go_wp2_with fail
 refine (scolourOf_any (-3) hm _ (7 :: r) k c hk hc (y) (fun _ => hk1) _ r5).mono ?_
 rintro e w6 ⟨rfl, hb6⟩
 have k6 := k5.below hb6 k5.lt
 have f6 := f5.trans (Fr.of_below hb6 (· = g)) (fun j hj => .inl hj)
 clear c9 r5 f5 k5 hb6
 have z9 := k6.frozen 9
 have c9 : w6.cell? ⟨g, 9, none⟩ = some (.int .i64 (y)) := k6.cell 9
 have f7 := f6.trans (Fr.setCell w6 g 9 (.int .i64 (colL (-3) (7 :: r) (y))) (· = g) rfl) (fun j hj => .inl hj)
 have k7 := k6.set 9 (.int .i64 (colL (-3) (7 :: r) (y)))
 go_wp2_with fail
 refine bodyPost_ret (v := .tuple #[]) (by simp [results, Tryd.results34, go_sem]) rfl ?_
 refine ⟨rfl, ?_, f7⟩
 rw [col_small _ _ _ (by decide), col_small _ _ _ (by decide)] at k7
 exact k7
set_option maxRecDepth 100000 in
set_option maxHeartbeats 16000000 in
theorem sap_8 (g : Nat) (s0 s1 s2 s3 s4 s5 s6 : Bool) (u x y : Int) (A : Option Addr) (p : List Int) (k c : Nat) (hk : p.length = k) (hc : k ≤ c) (hin : ∀ n ∈ p, in18 n) (w : World) (hb : Blk w g 23 (syC ⟨s0, s1, s2, s3, s4, s5, s6, u, x, y⟩)) (hr : RdOff w (· = g) A (is_ p)) (h1 : 1 ≤ k) (ha : ∀ a r, p = a :: r → a = 8) :
 Calls Tryd.prog 34 #[.pointer (some ⟨g, 0, none⟩), .slice A k c] w (ApE g (setY ⟨s0, s1, s2, s3, s4, s5, s6, u, x, y⟩ p) w) := by
 obtain ⟨bb, o, rfl, hbb, hcc⟩ := hr.rd.int_at (by omega)
 obtain ⟨a, r, rfl⟩ : ∃ a r, p = a :: r := by
  cases p with
  | nil => simp at hk; omega
  | cons a r => exact ⟨a, r, rfl⟩
 have c0 : w.cell? ⟨bb, o, none⟩ = some (.int .i64 a) := hcc 0 (by simp)
 have hk1 : 1 ≤ k := h1
 have hkp : (0 : Int) < (k : Int) := by omega
 have hka : 0 < k := h1
 clear hcc
 obtain rfl : a = 8 := ha a r rfl
 have hmx : max (0 : Int) 8 = 8 := by decide
 have hn : in18 8 := ⟨by decide, by decide⟩
 have hm : in18 (-2) := ⟨by decide, by decide⟩
 rw [set_mark _ r (by decide) (by decide) (by decide)]
 go_enter Tryd.func34, Tryd.ntmps34
 go_wp2_with fail
 refine (smarks_any g _).mono ?_
 rintro e w1 ⟨b, m, rfl, hlt, hom, hb1⟩
 have hlook := look18 hom hn (mark_8 g).1 (mark_8 g).2
 have k1 := hb.below hb1 hb.lt
 have f1 := Fr.of_below hb1 (· = g)
 clear hom hb1
 unfold pB at hlook
 have ci : w1.cell? ⟨g, 5, none⟩ = some (.bool s5) := k1.cell 5
 have zi := k1.frozen 5
 go_upto_region 11 with (fail)
 have fW := f1.trans (Fr.setCell w1 g 5 (.bool true) (· = g) rfl) (fun j hj => .inl hj)
 have kW := k1.set 5 (.bool true)
 obtain ⟨w2, hw2⟩ : ∃ w2, w1.setCell ⟨g, 5, none⟩ (.bool true) = w2 := ⟨_, rfl⟩
 rw [hw2] at fW kW ⊢
 clear hw2 k1 f1 ci zi hlook
 have rW := (rd_off18 hr fW).rd
 have c8 : w2.cell? ⟨g, 8, none⟩ = some (.int .i64 (x)) := kW.cell 8
 go_wp2_with fail
 refine (scolourOf_any (8) hn _ (8 :: r) k c hk hc (x) (fun _ => hk1) _ rW).mono ?_
 rintro e w4 ⟨rfl, hb4⟩
 have k4 := kW.below hb4 kW.lt
 have f4 := fW.trans (Fr.of_below hb4 (· = g)) (fun j hj => .inl hj)
 clear c8 rW fW kW hb4
 have z8 := k4.frozen 8
 have c8 : w4.cell? ⟨g, 8, none⟩ = some (.int .i64 (x)) := k4.cell 8
 go_upto_region 12 with (fail)
 have f5 := f4.trans (Fr.setCell w4 g 8 (.int .i64 (colL (8) (8 :: r) (x))) (· = g) rfl) (fun j hj => .inl hj)
 have k5 := k4.set 8 (.int .i64 (colL (8) (8 :: r) (x)))
 obtain ⟨w5, hw5⟩ : ∃ w5, w4.setCell ⟨g, 8, none⟩ (.int .i64 (colL (8) (8 :: r) (x))) = w5 := ⟨_, rfl⟩
 rw [hw5] at f5 k5 ⊢
 clear hw5 k4 f4 c8 z8
 have c9 : w5.cell? ⟨g, 9, none⟩ = some (.int .i64 (y)) := k5.cell 9
 have r5 := (rd_off18 hr f5).rd
 go_wp2_with fail
 refine (scolourOf_any (-2) hm _ (8 :: r) k c hk hc (y) (fun _ => hk1) _ r5).mono ?_
 rintro e w6 ⟨rfl, hb6⟩
 have k6 := k5.below hb6 k5.lt
 have f6 := f5.trans (Fr.of_below hb6 (· = g)) (fun j hj => .inl hj)
 clear c9 r5 f5 k5 hb6
 have z9 := k6.frozen 9
 have c9 : w6.cell? ⟨g, 9, none⟩ = some (.int .i64 (y)) := k6.cell 9
 have f7 := f6.trans (Fr.setCell w6 g 9 (.int .i64 (colL (-2) (8 :: r) (y))) (· = g) rfl) (fun j hj => .inl hj)
 have k7 := k6.set 9 (.int .i64 (colL (-2) (8 :: r) (y)))
 go_wp2_with fail
 refine bodyPost_ret (v := .tuple #[]) (by simp [results, Tryd.results34, go_sem]) rfl ?_
 refine ⟨rfl, ?_, f7⟩
 rw [col_small _ _ _ (by decide), col_small _ _ _ (by decide)] at k7
 exact k7
set_option maxRecDepth 100000 in
set_option maxHeartbeats 16000000 in
theorem sap_9 (g : Nat) (s0 s1 s2 s3 s4 s5 s6 : Bool) (u x y : Int) (A : Option Addr) (p : List Int) (k c : Nat) (hk : p.length = k) (hc : k ≤ c) (hin : ∀ n ∈ p, in18 n) (w : World) (hb : Blk w g 23 (syC ⟨s0, s1, s2, s3, s4, s5, s6, u, x, y⟩)) (hr : RdOff w (· = g) A (is_ p)) (h1 : 1 ≤ k) (ha : ∀ a r, p = a :: r → a = 9) :
 Calls Tryd.prog 34 #[.pointer (some ⟨g, 0, none⟩), .slice A k c] w (ApE g (setY ⟨s0, s1, s2, s3, s4, s5, s6, u, x, y⟩ p) w) := by
 obtain ⟨bb, o, rfl, hbb, hcc⟩ := hr.rd.int_at (by omega)
 obtain ⟨a, r, rfl⟩ : ∃ a r, p = a :: r := by
  cases p with
  | nil => simp at hk; omega
  | cons a r => exact ⟨a, r, rfl⟩
 have c0 : w.cell? ⟨bb, o, none⟩ = some (.int .i64 a) := hcc 0 (by simp)
 have hk1 : 1 ≤ k := h1
 have hkp : (0 : Int) < (k : Int) := by omega
 have hka : 0 < k := h1
 clear hcc
 obtain rfl : a = 9 := ha a r rfl
 have hmx : max (0 : Int) 9 = 9 := by decide
 have hn : in18 9 := ⟨by decide, by decide⟩
 have hm : in18 (-1) := ⟨by decide, by decide⟩
 rw [set_mark _ r (by decide) (by decide) (by decide)]
 go_enter Tryd.func34, Tryd.ntmps34
 go_wp2_with fail
 refine (smarks_any g _).mono ?_
 rintro e w1 ⟨b, m, rfl, hlt, hom, hb1⟩
 have hlook := look18 hom hn (mark_9 g).1 (mark_9 g).2
 have k1 := hb.below hb1 hb.lt
 have f1 := Fr.of_below hb1 (· = g)
 clear hom hb1
 unfold pB at hlook
 have ci : w1.cell? ⟨g, 6, none⟩ = some (.bool s6) := k1.cell 6
 have zi := k1.frozen 6
 go_upto_region 11 with (fail)
 have fW := f1.trans (Fr.setCell w1 g 6 (.bool true) (· = g) rfl) (fun j hj => .inl hj)
 have kW := k1.set 6 (.bool true)
 obtain ⟨w2, hw2⟩ : ∃ w2, w1.setCell ⟨g, 6, none⟩ (.bool true) = w2 := ⟨_, rfl⟩
 rw [hw2] at fW kW ⊢
 clear hw2 k1 f1 ci zi hlook
 have rW := (rd_off18 hr fW).rd
 have c8 : w2.cell? ⟨g, 8, none⟩ = some (.int .i64 (x)) := kW.cell 8
 go_wp2_with fail
 refine (scolourOf_any (9) hn _ (9 :: r) k c hk hc (x) (fun _ => hk1) _ rW).mono ?_
 rintro e w4 ⟨rfl, hb4⟩
 have k4 := kW.below hb4 kW.lt
 have f4 := fW.trans (Fr.of_below hb4 (· = g)) (fun j hj => .inl hj)
 clear c8 rW fW kW hb4
 have z8 := k4.frozen 8
 have c8 : w4.cell? ⟨g, 8, none⟩ = some (.int .i64 (x)) := k4.cell 8
 go_upto_region 12 with (fail)
 have f5 := f4.trans (Fr.setCell w4 g 8 (.int .i64 (colL (9) (9 :: r) (x))) (· = g) rfl) (fun j hj => .inl hj)
 have k5 := k4.set 8 (.int .i64 (colL (9) (9 :: r) (x)))
 obtain ⟨w5, hw5⟩ : ∃ w5, w4.setCell ⟨g, 8, none⟩ (.int .i64 (colL (9) (9 :: r) (x))) = w5 := ⟨_, rfl⟩
 rw [hw5] at f5 k5 ⊢
 clear hw5 k4 f4 c8 z8
 have c9 : w5.cell? ⟨g, 9, none⟩ = some (.int .i64 (y)) := k5.cell 9
 have r5 := (rd_off18 hr f5).rd
 go_wp2_with fail
 refine (scolourOf_any (-1) hm _ (9 :: r) k c hk hc (y) (fun _ => hk1) _ r5).mono ?_
 rintro e w6 ⟨rfl, hb6⟩
 have k6 := k5.below hb6 k5.lt
 have f6 := f5.trans (Fr.of_below hb6 (· = g)) (fun j hj => .inl hj)
 clear c9 r5 f5 k5 hb6
 have z9 := k6.frozen 9
 have c9 : w6.cell? ⟨g, 9, none⟩ = some (.int .i64 (y)) := k6.cell 9
 have f7 := f6.trans (Fr.setCell w6 g 9 (.int .i64 (colL (-1) (9 :: r) (y))) (· = g) rfl) (fun j hj => .inl hj)
 have k7 := k6.set 9 (.int .i64 (colL (-1) (9 :: r) (y)))
 go_wp2_with fail
 refine bodyPost_ret (v := .tuple #[]) (by simp [results, Tryd.results34, go_sem]) rfl ?_
 refine ⟨rfl, ?_, f7⟩
 rw [col_small _ _ _ (by decide), col_small _ _ _ (by decide)] at k7
 exact k7
set_option maxRecDepth 100000 in
set_option maxHeartbeats 16000000 in
theorem sap_4 (g : Nat) (s0 s1 s2 s3 s4 s5 s6 : Bool) (u x y : Int) (A : Option Addr) (p : List Int) (k c : Nat) (hk : p.length = k) (hc : k ≤ c) (hin : ∀ n ∈ p, in18 n) (w : World) (hb : Blk w g 23 (syC ⟨s0, s1, s2, s3, s4, s5, s6, u, x, y⟩)) (hr : RdOff w (· = g) A (is_ p)) (h1 : 1 ≤ k) (ha : ∀ a r, p = a :: r → a = 4) :
 Calls Tryd.prog 34 #[.pointer (some ⟨g, 0, none⟩), .slice A k c] w (ApE g (setY ⟨s0, s1, s2, s3, s4, s5, s6, u, x, y⟩ p) w) := by
 obtain ⟨bb, o, rfl, hbb, hcc⟩ := hr.rd.int_at (by omega)
 obtain ⟨a, r, rfl⟩ : ∃ a r, p = a :: r := by
  cases p with
  | nil => simp at hk; omega
  | cons a r => exact ⟨a, r, rfl⟩
 have c0 : w.cell? ⟨bb, o, none⟩ = some (.int .i64 a) := hcc 0 (by simp)
 have hk1 : 1 ≤ k := h1
 have hkp : (0 : Int) < (k : Int) := by omega
 have hka : 0 < k := h1
 clear hcc
 obtain rfl : a = 4 := ha a r rfl
 have hmx : max (0 : Int) 4 = 4 := by decide
 have hn : in18 4 := ⟨by decide, by decide⟩
 have hm : in18 (-6) := ⟨by decide, by decide⟩
 rw [set_und]
 obtain ⟨A', hcut, hrd⟩ := cutl_run (P := Tryd.prog) (T := 35) (e := 3) rfl Tryd.underlying35 (fun w => rfl) (some ⟨bb, o, none⟩) k c 1 hk1 hc
 replace hcut : ∀ w : World, (Instr.slice 35 (.slice (some ⟨bb, o, none⟩) k c) (some (.int .i64 1)) none none).run Tryd.prog w = .ok (.slice A' (k - 1) (c - 1)) w := hcut
 have hr' : RdOff w (fun _ => False) A' (is_ r) := hrd (fun _ => False) w (is_ (4 :: r)) (by rw [is_length, hk]) (RdOff.of_rdIn (RdIn.of hr.rd) (Nat.le_refl _) (fun k hk => hk.elim))
 have HK := Lib.hid (show r.length = k - 1 by simp at hk; omega)
 clear hrd
 go_enter Tryd.func34, Tryd.ntmps34
 go_wp2_with fail
 refine (smarks_any g _).mono ?_
 rintro e w1 ⟨b, m, rfl, hlt, hom, hb1⟩
 have hlook := look18 hom hn (mark_no g (mark_other (n := 4) (by omega))).1 (mark_no g (mark_other (n := 4) (by omega))).2
 have k1 := hb.below hb1 hb.lt
 have f1 := Fr.of_below hb1 (· = g)
 have hb1' := hb1
 clear hom hb1
 have c7 : w1.cell? ⟨g, 7, none⟩ = some (.int .i64 u) := k1.cell 7
 have z7 := k1.frozen 7
 have r1 : Rd w1 A' (is_ r) := (hr'.fr (Fr.of_below hb1' (fun _ => False)) (Wid.refl _ _)).rd
 go_upto_region 10 with (fail)
 go_region_with (go_at_call 45; refine (slineOf_any A' r _ _ HK.out u w1.drew r1.drew).mono ?_; rintro e w3 ⟨rfl, hb3⟩; have hb3 : Below w1.heap.size w1 w3 := (Below.refl w1.heap.size w1).drew.trans hb3; have k3 := k1.below hb3 k1.lt; have f3 := f1.trans (Fr.of_below hb3 (· = g)) (fun j hj => .inl hj); have c37 : w3.cell? ⟨g, 7, none⟩ = some (.int .i64 u) := k3.cell 7; have z37 := k3.frozen 7)
 go_upto_region 11 with (fail)
 have fW := f3.trans (Fr.setCell w3 g 7 (.int .i64 (lineL r u)) (· = g) rfl) (fun j hj => .inl hj)
 have kW := k3.set 7 (.int .i64 (lineL r u))
 obtain ⟨w2, hw2⟩ : ∃ w2, w3.setCell ⟨g, 7, none⟩ (.int .i64 (lineL r u)) = w2 := ⟨_, rfl⟩
 rw [hw2] at fW kW ⊢
 clear hw2 k1 f1 k3 f3 c37 z37 c7 z7 hlook
 have rW := (rd_off18 hr fW).rd
 have c8 : w2.cell? ⟨g, 8, none⟩ = some (.int .i64 (x)) := kW.cell 8
 go_wp2_with fail
 refine (scolourOf_any (4) hn _ (4 :: r) k c hk hc (x) (fun _ => hk1) _ rW).mono ?_
 rintro e w4 ⟨rfl, hb4⟩
 have k4 := kW.below hb4 kW.lt
 have f4 := fW.trans (Fr.of_below hb4 (· = g)) (fun j hj => .inl hj)
 clear c8 rW fW kW hb4
 have z8 := k4.frozen 8
 have c8 : w4.cell? ⟨g, 8, none⟩ = some (.int .i64 (x)) := k4.cell 8
 go_upto_region 12 with (fail)
 have f5 := f4.trans (Fr.setCell w4 g 8 (.int .i64 (colL (4) (4 :: r) (x))) (· = g) rfl) (fun j hj => .inl hj)
 have k5 := k4.set 8 (.int .i64 (colL (4) (4 :: r) (x)))
 obtain ⟨w5, hw5⟩ : ∃ w5, w4.setCell ⟨g, 8, none⟩ (.int .i64 (colL (4) (4 :: r) (x))) = w5 := ⟨_, rfl⟩
 rw [hw5] at f5 k5 ⊢
 clear hw5 k4 f4 c8 z8
 have c9 : w5.cell? ⟨g, 9, none⟩ = some (.int .i64 (y)) := k5.cell 9
 have r5 := (rd_off18 hr f5).rd
 go_wp2_with fail
 refine (scolourOf_any (-6) hm _ (4 :: r) k c hk hc (y) (fun _ => hk1) _ r5).mono ?_
 rintro e w6 ⟨rfl, hb6⟩
 have k6 := k5.below hb6 k5.lt
 have f6 := f5.trans (Fr.of_below hb6 (· = g)) (fun j hj => .inl hj)
 clear c9 r5 f5 k5 hb6
 have z9 := k6.frozen 9
 have c9 : w6.cell? ⟨g, 9, none⟩ = some (.int .i64 (y)) := k6.cell 9
 have f7 := f6.trans (Fr.setCell w6 g 9 (.int .i64 (colL (-6) (4 :: r) (y))) (· = g) rfl) (fun j hj => .inl hj)
 have k7 := k6.set 9 (.int .i64 (colL (-6) (4 :: r) (y)))
 go_wp2_with fail
 refine bodyPost_ret (v := .tuple #[]) (by simp [results, Tryd.results34, go_sem]) rfl ?_
 refine ⟨rfl, ?_, f7⟩
 rw [col_small _ _ _ (by decide), col_small _ _ _ (by decide)] at k7
 exact k7
set_option maxRecDepth 100000 in
set_option maxHeartbeats 16000000 in
theorem sap_rest (g : Nat) (s0 s1 s2 s3 s4 s5 s6 : Bool) (u x y : Int) (A : Option Addr) (p : List Int) (k c : Nat) (hk : p.length = k) (hc : k ≤ c) (hin : ∀ n ∈ p, in18 n) (w : World) (hb : Blk w g 23 (syC ⟨s0, s1, s2, s3, s4, s5, s6, u, x, y⟩)) (hr : RdOff w (· = g) A (is_ p)) (h1 : 1 ≤ k) (ha : ∀ a r, p = a :: r → 0 < a ∧ a ≠ 4 ∧ ¬ ((((((a = 1 ∨ a = 2) ∨ a = 3) ∨ a = 5) ∨ a = 7) ∨ a = 8) ∨ a = 9)) :
 Calls Tryd.prog 34 #[.pointer (some ⟨g, 0, none⟩), .slice A k c] w (ApE g (setY ⟨s0, s1, s2, s3, s4, s5, s6, u, x, y⟩ p) w) := by
 obtain ⟨bb, o, rfl, hbb, hcc⟩ := hr.rd.int_at (by omega)
 obtain ⟨a, r, rfl⟩ : ∃ a r, p = a :: r := by
  cases p with
  | nil => simp at hk; omega
  | cons a r => exact ⟨a, r, rfl⟩
 have c0 : w.cell? ⟨bb, o, none⟩ = some (.int .i64 a) := hcc 0 (by simp)
 have hk1 : 1 ≤ k := h1
 have hkp : (0 : Int) < (k : Int) := by omega
 have hka : 0 < k := h1
 clear hcc
 obtain ⟨ha0, ha4, ham⟩ := ha a r rfl
 have hmx : max 0 a = a := by omega
 have hn : in18 a := hin a (by simp)
 have hm : in18 (a - 10) := ⟨by omega, by have := hn.2; omega⟩
 have hwr : IntKind.i64.wrap (a - 10) = a - 10 := by rw [IntKind.wrap_i64]; have := hn.2; omega
 have hz : ¬ (a = 0) := by omega
 rw [set_rest _ r ha0 ha4 ham]
 go_enter Tryd.func34, Tryd.ntmps34
 go_wp2_with fail
 refine (smarks_any g _).mono ?_
 rintro e w1 ⟨b, m, rfl, hlt, hom, hb1⟩
 have hlook := look18 hom hn (mark_no g (mark_other (n := a) ham)).1 (mark_no g (mark_other (n := a) ham)).2
 have k1 := hb.below hb1 hb.lt
 have f1 := Fr.of_below hb1 (· = g)
 clear hom hb1
 go_upto_region 11 with (fail)
 have fW := f1
 have kW := k1
 clear k1 f1 hlook
 have rW := (rd_off18 hr fW).rd
 have c8 : w1.cell? ⟨g, 8, none⟩ = some (.int .i64 (x)) := kW.cell 8
 go_wp2_with fail
 refine (scolourOf_any (a) hn _ (a :: r) k c hk hc (x) (fun _ => hk1) _ rW).mono ?_
 rintro e w4 ⟨rfl, hb4⟩
 have k4 := kW.below hb4 kW.lt
 have f4 := fW.trans (Fr.of_below hb4 (· = g)) (fun j hj => .inl hj)
 clear c8 rW fW kW hb4
 have z8 := k4.frozen 8
 have c8 : w4.cell? ⟨g, 8, none⟩ = some (.int .i64 (x)) := k4.cell 8
 go_upto_region 12 with (fail)
 have f5 := f4.trans (Fr.setCell w4 g 8 (.int .i64 (colL (a) (a :: r) (x))) (· = g) rfl) (fun j hj => .inl hj)
 have k5 := k4.set 8 (.int .i64 (colL (a) (a :: r) (x)))
 obtain ⟨w5, hw5⟩ : ∃ w5, w4.setCell ⟨g, 8, none⟩ (.int .i64 (colL (a) (a :: r) (x))) = w5 := ⟨_, rfl⟩
 rw [hw5] at f5 k5 ⊢
 clear hw5 k4 f4 c8 z8
 have c9 : w5.cell? ⟨g, 9, none⟩ = some (.int .i64 (y)) := k5.cell 9
 have r5 := (rd_off18 hr f5).rd
 go_wp2_with fail
 refine (scolourOf_any (a - 10) hm _ (a :: r) k c hk hc (y) (fun _ => hk1) _ r5).mono ?_
 rintro e w6 ⟨rfl, hb6⟩
 have k6 := k5.below hb6 k5.lt
 have f6 := f5.trans (Fr.of_below hb6 (· = g)) (fun j hj => .inl hj)
 clear c9 r5 f5 k5 hb6
 have z9 := k6.frozen 9
 have c9 : w6.cell? ⟨g, 9, none⟩ = some (.int .i64 (y)) := k6.cell 9
 have f7 := f6.trans (Fr.setCell w6 g 9 (.int .i64 (colL (a - 10) (a :: r) (y))) (· = g) rfl) (fun j hj => .inl hj)
 have k7 := k6.set 9 (.int .i64 (colL (a - 10) (a :: r) (y)))
 go_wp2_with fail
 refine bodyPost_ret (v := .tuple #[]) (by simp [results, Tryd.results34, go_sem]) rfl ?_
 refine ⟨rfl, ?_, f7⟩
 exact k7
theorem sapply_any (g : Nat) (s : Sy) (A : Option Addr) (p : List Int) (k c : Nat) (hk : p.length = k) (hc : k ≤ c) (hin : ∀ n ∈ p, in18 n) (w : World) (hb : Blk w g 23 (syC s)) (hr : RdOff w (· = g) A (is_ p)) :
 Calls Tryd.prog 34 #[.pointer (some ⟨g, 0, none⟩), .slice A k c] w (ApE g (setY s p) w) := by
 obtain ⟨s0, s1, s2, s3, s4, s5, s6, u, x, y⟩ := s
 by_cases h0 : p = []
 ·exact sap_nil g s0 s1 s2 s3 s4 s5 s6 u x y A p k c hk hc hin w hb hr h0
 obtain ⟨a, r, rfl⟩ : ∃ a r, p = a :: r := by
  cases p with
  | nil => exact absurd rfl h0
  | cons a r => exact ⟨a, r, rfl⟩
 have h1 : 1 ≤ k := by simp at hk; omega
 have key : ∀ {Q : Int → Prop}, Q a → ∀ a' r', a :: r = a' :: r' → Q a' := fun h a' r' e => by injection e with e1 e2; rw [← e1]; exact h
 by_cases ha : a ≤ 0
 ·exact sap_zero g s0 s1 s2 s3 s4 s5 s6 u x y A _ k c hk hc hin w hb hr h1 (key (Q := fun a => a ≤ 0) ha)
 by_cases h11 : a = 1
 ·exact sap_1 g s0 s1 s2 s3 s4 s5 s6 u x y A _ k c hk hc hin w hb hr h1 (key (Q := fun a => a = 1) h11)
 by_cases h12 : a = 2
 ·exact sap_2 g s0 s1 s2 s3 s4 s5 s6 u x y A _ k c hk hc hin w hb hr h1 (key (Q := fun a => a = 2) h12)
 by_cases h13 : a = 3
 ·exact sap_3 g s0 s1 s2 s3 s4 s5 s6 u x y A _ k c hk hc hin w hb hr h1 (key (Q := fun a => a = 3) h13)
 by_cases h14 : a = 4
 ·exact sap_4 g s0 s1 s2 s3 s4 s5 s6 u x y A _ k c hk hc hin w hb hr h1 (key (Q := fun a => a = 4) h14)
 by_cases h15 : a = 5
 ·exact sap_5 g s0 s1 s2 s3 s4 s5 s6 u x y A _ k c hk hc hin w hb hr h1 (key (Q := fun a => a = 5) h15)
 by_cases h17 : a = 7
 ·exact sap_7 g s0 s1 s2 s3 s4 s5 s6 u x y A _ k c hk hc hin w hb hr h1 (key (Q := fun a => a = 7) h17)
 by_cases h18 : a = 8
 ·exact sap_8 g s0 s1 s2 s3 s4 s5 s6 u x y A _ k c hk hc hin w hb hr h1 (key (Q := fun a => a = 8) h18)
 by_cases h19 : a = 9
 ·exact sap_9 g s0 s1 s2 s3 s4 s5 s6 u x y A _ k c hk hc hin w hb hr h1 (key (Q := fun a => a = 9) h19)
 exact sap_rest g s0 s1 s2 s3 s4 s5 s6 u x y A _ k c hk hc hin w hb hr h1 (key (Q := fun a => 0 < a ∧ a ≠ 4 ∧ ¬ ((((((a = 1 ∨ a = 2) ∨ a = 3) ∨ a = 5) ∨ a = 7) ∨ a = 8) ∨ a = 9)) ⟨by omega, h14, by omega⟩)
end Go.Proofs.YthcafgningpdnaaDoor
