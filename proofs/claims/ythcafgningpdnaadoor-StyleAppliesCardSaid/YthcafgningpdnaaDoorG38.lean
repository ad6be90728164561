/-
  Stage 18, the document's style, walked: apply whole; Apply.
-/
import Derived.Test.YthcafgningpdnaaDoorG36
import Derived.Test.YthcafgningpdnaaDoorG37
namespace Go.Proofs.YthcafgningpdnaaDoor
open Go.RowKit
theorem rapply18_any (s : Sy) (A : Option Addr) (p : List Int) (k c : Nat) (hk : p.length = k) (hin : ∀ n ∈ p, in18 n) (w : World) (hr : Rd w A (is_ p)) : Calls Tryd.prog 35 #[syV s, .slice A k c] w fun e w' => e = .returned (syV (setY s p)) ∧ Below w.heap.size w w' := by
 obtain ⟨s0, s1, s2, s3, s4, s5, s6, s7, s8, s9⟩ := s
 by_cases h0 : p = []
 ·exact rap_nil s0 s1 s2 s3 s4 s5 s6 s7 s8 s9 A p k c hk w hr h0
 obtain ⟨a, r, rfl⟩ : ∃ a r, p = a :: r := by
  cases p with
  | nil => exact absurd rfl h0
  | cons a r => exact ⟨a, r, rfl⟩
 have h1 : 1 ≤ k := by simp at hk; omega
 have key : ∀ {Q : Int → Prop}, Q a → ∀ a' r', a :: r = a' :: r' → Q a' := fun h a' r' e => by injection e with e1 e2; rw [← e1]; exact h
 by_cases ha : a ≤ 0
 ·exact rap_zero s0 s1 s2 s3 s4 s5 s6 s7 s8 s9 A _ k c hk w hr h1 (key (Q := fun a => a ≤ 0) ha)
 by_cases h4 : a = 4
 ·exact rap_4 s0 s1 s2 s3 s4 s5 s6 s7 s8 s9 A _ k c hk w hr h1 (key (Q := fun a => a = 4) h4)
 exact rap_rest s0 s1 s2 s3 s4 s5 s6 s7 s8 s9 A _ k c hk w hr h1 (key (Q := fun a => 0 < a ∧ a ≠ 4 ∧ a ≤ 9223372036854775807) ⟨by omega, h4, (hin a (by simp)).2⟩)
set_option maxRecDepth 100000 in
set_option maxHeartbeats 8000000 in
theorem rApply18_any (s : Sy) (A : Option Addr) (l : List (List Int)) (n c : Nat) (hn : l.length = n) (hln : n ≤ 4294967296) (w : World) (hl : LsIn w A l) :
 Calls Tryd.prog 19 #[syV s, .slice A n c] w fun e w' => e = .returned (syV (applyY s l)) ∧ Below w.heap.size w w' := by
 obtain ⟨g, hg⟩ : ∃ g, w.heap.size = g := ⟨_, rfl⟩
 have kB := Blk.new w 23 (syC s)
 have HB := (Below.refl w.heap.size w).alloc (Nat.le_refl _) (.cells (syC s) 23)
 have kB2 := kB.alloc (.cells (syC zeroY) 23)
 have kR := Blk.new (w.alloc (.cells (syC s) 23)) 23 (syC zeroY)
 have HB2 := HB.alloc HB.size (.cells (syC zeroY) 23)
 have hgs : (w.alloc (.cells (syC s) 23)).heap.size = g + 1 := by rw [← hg]; simp
 rw [hgs] at kR
 rw [hg] at kB2
 have HG := Lib.hid hg
 have HN := Lib.hid hn
 clear hn HB kB hgs
 go_enter Tryd.func19, Tryd.ntmps19
 go_upto_region 1 with (fail)
 clear hg
 obtain ⟨w2, hw2⟩ : ∃ w2, (w.alloc (.cells (syC s) 23)).alloc (.cells (syC zeroY) 23) = w2 := ⟨_, rfl⟩
 rw [hw2] at kB2 kR HB2
 refine Eq.mp (congrArg (fun W => Code.wp Tryd.prog _ _ _ W) hw2.symm) ?_
 clear hw2
 go_wp2_with fail
 go_loopw [5] (fun z wr => ∃ i : Nat, i ≤ n ∧ z = .int .i64 i ∧ Blk wr g 23 (syC (applyY s (l.take i))) ∧ Blk wr (g + 1) 23 (syC zeroY) ∧ Below w.heap.size w wr) (fun z _ => n - (intOf z).toNat)
 case atStart => exact ⟨0, Nat.zero_le _, rfl, kB2, kR, HB2⟩
 case round =>
  obtain ⟨i, hi, rfl, k1, k2, hbw⟩ := hrel
  clear kB2 kR HB2
  by_cases hlt : i < n
  ·have t1 : (i : Int) < (n : Int) := by omega
   have t0 : (0 : Int) ≤ (i : Int) := by omega
   have t2 : IntKind.i64.wrap ((i : Int) + 1) = (i : Int) + 1 := by rw [IntKind.wrap_i64]; omega
   have hii : i < l.length := by have := HN.out; omega
   obtain ⟨b, o, rfl, hbb, hc⟩ := hl.rd (by omega)
   obtain ⟨A', c', hc', hcell, hr'⟩ := hc i hii
   have hcell' := (hbw.cell (p := ⟨b, o + i, none⟩) hbb).trans hcell
   have HS := Lib.hid (apply_snoc s hii)
   have HNR : Hid (∀ n ∈ l[i], in18 n) := Lib.hid fun n hn => hl.nr _ (List.getElem_mem hii) n hn
   obtain ⟨p, hp⟩ : ∃ p, l[i] = p := ⟨_, rfl⟩
   rw [hp] at HS HNR hc' hcell' hr'
   replace hr' := hr'.below hbw
   obtain ⟨k, hk⟩ : ∃ k, p.length = k := ⟨_, rfl⟩
   rw [hk] at hc' hcell'
   have hgs : g ≤ wr.heap.size := by have := hbw.size; have := HG.out; omega
   have hap := rapply18_any (applyY s (l.take i)) A' p k c' hk HNR.out wr.drew hr'.drew
   rw [← HS.out] at hap
   obtain ⟨s1, hs1⟩ : ∃ s1, applyY s (l.take i) = s1 := ⟨_, rfl⟩
   obtain ⟨s2, hs2⟩ : ∃ s2, applyY s (l.take (i + 1)) = s2 := ⟨_, rfl⟩
   rw [hs1] at hap k1
   rw [hs2] at hap
   have HS2 := Lib.hid hs2
   clear hc hcell hr' hp hk HS hs1 hs2 HNR hc'
   obtain ⟨a0, a1, a2, a3, a4, a5, a6, a7, a8, a9⟩ := Blk.cells10y k1
   obtain ⟨x0, x1, x2, x3, x4, x5, x6, x7, x8, x9⟩ := s1
   obtain ⟨z0, z1, z2, z3, z4, z5, z6, z7, z8, z9⟩ := s2
   unfold syV at hap
   simp only at hap a0 a1 a2 a3 a4 a5 a6 a7 a8 a9
   go_upto_region 4 with (fail)
   go_region_with (go_at_call 35; refine hap.mono ?_; rintro e w9 ⟨rfl, hb9⟩; have hb9 : Below wr.heap.size wr w9 := (Below.refl _ _).drew.trans hb9; have k9 := k1.below hb9 k1.lt; have k92 := k2.below hb9 k2.lt; have hB9 := hbw.trans (hb9.mono hbw.size); have zz0 := k9.frozen 0; have zz1 := k9.frozen 1; have zz2 := k9.frozen 2; have zz3 := k9.frozen 3; have zz4 := k9.frozen 4; have zz5 := k9.frozen 5; have zz6 := k9.frozen 6; have zz7 := k9.frozen 7; have zz8 := k9.frozen 8; have zz9 := k9.frozen 9; have y0 : w9.cell? ⟨g, 0, none⟩ = some (.bool x0) := k9.cell 0; have y1 : w9.cell? ⟨g, 1, none⟩ = some (.bool x1) := k9.cell 1; have y2 : w9.cell? ⟨g, 2, none⟩ = some (.bool x2) := k9.cell 2; have y3 : w9.cell? ⟨g, 3, none⟩ = some (.bool x3) := k9.cell 3; have y4 : w9.cell? ⟨g, 4, none⟩ = some (.bool x4) := k9.cell 4; have y5 : w9.cell? ⟨g, 5, none⟩ = some (.bool x5) := k9.cell 5; have y6 : w9.cell? ⟨g, 6, none⟩ = some (.bool x6) := k9.cell 6; have y7 : w9.cell? ⟨g, 7, none⟩ = some (.int .i64 x7) := k9.cell 7; have y8 : w9.cell? ⟨g, 8, none⟩ = some (.int .i64 x8) := k9.cell 8; have y9 : w9.cell? ⟨g, 9, none⟩ = some (.int .i64 x9) := k9.cell 9)
   all_goals
    have kr := k9.set10 (.bool z0) (.bool z1) (.bool z2) (.bool z3) (.bool z4) (.bool z5) (.bool z6) (.int .i64 z7) (.int .i64 z8) (.int .i64 z9)
    have kr2 := k92.far10 (b := g) (by omega) (.bool z0) (.bool z1) (.bool z2) (.bool z3) (.bool z4) (.bool z5) (.bool z6) (.int .i64 z7) (.int .i64 z8) (.int .i64 z9)
    have hBr := below_set10 hB9 (g := g) (Nat.le_of_eq HG.out) (.bool z0) (.bool z1) (.bool z2) (.bool z3) (.bool z4) (.bool z5) (.bool z6) (.int .i64 z7) (.int .i64 z8) (.int .i64 z9)
    clear y0 y1 y2 y3 y4 y5 y6 y7 y8 y9 zz0 zz1 zz2 zz3 zz4 zz5 zz6 zz7 zz8 zz9 a0 a1 a2 a3 a4 a5 a6 a7 a8 a9 hcell' hap
    go_wp2_with fail
    go_roundw
    case rel => exact ⟨i + 1, by omega, by go_num, by rw [HS2.out]; exact kr, kr2, hBr⟩
    case measure => simp [intOf]; omega
  ·have t1 : ¬ ((i : Int) < (n : Int)) := by omega
   have hX : applyY s (l.take i) = applyY s l := by rw [List.take_of_length_le (by have := HN.out; omega)]
   rw [hX] at k1
   clear hX
   obtain ⟨s', hs'⟩ : ∃ s', applyY s l = s' := ⟨_, rfl⟩
   have HX := Lib.hid hs'
   rw [hs'] at k1
   clear hs'
   obtain ⟨a0, a1, a2, a3, a4, a5, a6, a7, a8, a9⟩ := Blk.cells10y k1
   go_wp2_with ((refine k2.wp_set (syC s') rfl rfl rfl rfl _ _ rfl rfl rfl ?_; intro w5 k5 hg5))
   have hB5 := hbw.trans (Fr.below (Fr.of_grown hg5) hbw.size (fun k hk => by injection hk with hk; have := HG.out; omega))
   clear a0 a1 a2 a3 a4 a5 a6 a7 a8 a9
   obtain ⟨a0, a1, a2, a3, a4, a5, a6, a7, a8, a9⟩ := Blk.cells10y k5
   refine bodyPost_ret (v := syV s') (by unfold syV; simp [results, Tryd.results19, go_sem, a0, a1, a2, a3, a4, a5, a6, a7, a8, a9]) rfl ?_
   exact ⟨by rw [HX.out], hB5⟩
end Go.Proofs.YthcafgningpdnaaDoor
