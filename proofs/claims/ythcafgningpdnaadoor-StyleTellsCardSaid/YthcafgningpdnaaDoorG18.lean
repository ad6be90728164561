/-
  Stage 18, the landed style, walked: Apply.
-/
import Derived.Test.YthcafgningpdnaaDoorG17
namespace Go.Proofs.YthcafgningpdnaaDoor
open Go.RowKit
def zeroY : Sy := ⟨false, false, false, false, false, false, false, 0, 0, 0⟩
theorem apply_snoc {l : List (List Int)} {i : Nat} (s : Sy) (h : i < l.length) : applyY s (l.take (i + 1)) = setY (applyY s (l.take i)) l[i] := by
 rw [List.take_add_one, List.getElem?_eq_getElem h, apply_app]
 rfl
set_option maxRecDepth 100000 in
set_option maxHeartbeats 8000000 in
theorem sApply_any (s : Sy) (A : Option Addr) (l : List (List Int)) (n c : Nat) (hn : l.length = n) (hln : n ≤ 4294967296) (w : World) (hl : LsIn w A l) :
 Calls Tryd.prog 18 #[syV s, .slice A n c] w fun e w' => e = .returned (syV (applyY s l)) ∧ Below w.heap.size w w' := by
 obtain ⟨g, hg⟩ : ∃ g, w.heap.size = g := ⟨_, rfl⟩
 have kB := Blk.new w 23 (syC s)
 have HB := (Below.refl w.heap.size w).alloc (Nat.le_refl _) (.cells (syC s) 23)
 have kB2 := kB.alloc (.cells (syC zeroY) 23)
 have kR := Blk.new (w.alloc (.cells (syC s) 23)) 23 (syC zeroY)
 have HB2 := HB.alloc HB.size (.cells (syC zeroY) 23)
 have hgs : (w.alloc (.cells (syC s) 23)).heap.size = g + 1 := by rw [← hg]; simp
 rw [hgs] at kR
 rw [hg] at kB2
 have HG := Lib.hid hg
 have HN := Lib.hid hn
 clear hn HB kB hgs
 go_enter Tryd.func18, Tryd.ntmps18
 go_upto_region 1 with (fail)
 clear hg
 obtain ⟨w2, hw2⟩ : ∃ w2, (w.alloc (.cells (syC s) 23)).alloc (.cells (syC zeroY) 23) = w2 := ⟨_, rfl⟩
 rw [hw2] at kB2 kR HB2
 refine Eq.mp (congrArg (fun W => Code.wp Tryd.prog _ _ _ W) hw2.symm) ?_
 clear hw2
 go_wp2_with fail
 go_loopw [9] (fun z wr => ∃ i : Nat, i ≤ n ∧ z = .int .i64 i ∧ Blk wr g 23 (syC (applyY s (l.take i))) ∧ Blk wr (g + 1) 23 (syC zeroY) ∧ Below w.heap.size w wr) (fun z _ => n - (intOf z).toNat)
 case atStart => exact ⟨0, Nat.zero_le _, rfl, kB2, kR, HB2⟩
 case round =>
  obtain ⟨i, hi, rfl, k1, k2, hbw⟩ := hrel
  clear kB2 kR HB2
  by_cases hlt : i < n
  ·have t1 : (i : Int) < (n : Int) := by omega
   have t0 : (0 : Int) ≤ (i : Int) := by omega
   have t2 : IntKind.i64.wrap ((i : Int) + 1) = (i : Int) + 1 := by rw [IntKind.wrap_i64]; omega
   have hii : i < l.length := by have := HN.out; omega
   obtain ⟨b, o, rfl, hbb, hc⟩ := hl.rd (by omega)
   obtain ⟨A', c', hc', hcell, hr'⟩ := hc i hii
   have hcell' := (hbw.cell (p := ⟨b, o + i, none⟩) hbb).trans hcell
   have HS := Lib.hid (apply_snoc s hii)
   have HNR : Hid (∀ n ∈ l[i], in18 n) := Lib.hid fun n hn => hl.nr _ (List.getElem_mem hii) n hn
   obtain ⟨p, hp⟩ : ∃ p, l[i] = p := ⟨_, rfl⟩
   rw [hp] at HS HNR hc' hcell' hr'
   have hro : RdOff wr (· = g) A' (is_ p) := RdOff.of_rdIn ((RdIn.of hr').below hbw) hbw.size (fun k hk => by rw [hk]; exact Nat.le_of_eq HG.out)
   obtain ⟨k, hk⟩ : ∃ k, p.length = k := ⟨_, rfl⟩
   rw [hk] at hc' hcell'
   have HK := Lib.hid hk
   clear hc hcell hr' hp hk
   go_wp2_with fail
   refine (sapply_any g _ A' p k c' HK.out hc' HNR.out wr k1 hro).mono ?_
   rintro e w4 ⟨rfl, k4, f4⟩
   have k5 := k2.fr f4 (by omega)
   have hB4 := hbw.trans (f4.below (B := w.heap.size) hbw.size (fun k hk => by rw [hk]; exact Nat.le_of_eq HG.out))
   rw [← HS.out] at k4
   clear k1 k2 hro hcell' hbw f4
   go_wp2_with fail
   go_roundw
   case rel => exact ⟨i + 1, by omega, by go_num, k4, k5, hB4⟩
   case measure => simp [intOf]; omega
  ·have t1 : ¬ ((i : Int) < (n : Int)) := by omega
   have hX : applyY s (l.take i) = applyY s l := by rw [List.take_of_length_le (by have := HN.out; omega)]
   rw [hX] at k1
   clear hX
   obtain ⟨s', hs'⟩ : ∃ s', applyY s l = s' := ⟨_, rfl⟩
   have HX := Lib.hid hs'
   rw [hs'] at k1
   clear hs'
   obtain ⟨a0, a1, a2, a3, a4, a5, a6, a7, a8, a9⟩ := Blk.cells10y k1
   go_wp2_with ((refine k2.wp_set (syC s') rfl rfl rfl rfl _ _ rfl rfl rfl ?_; intro w5 k5 hg5))
   have hB5 := hbw.trans (Fr.below (Fr.of_grown hg5) hbw.size (fun k hk => by injection hk with hk; have := HG.out; omega))
   clear a0 a1 a2 a3 a4 a5 a6 a7 a8 a9
   obtain ⟨a0, a1, a2, a3, a4, a5, a6, a7, a8, a9⟩ := Blk.cells10y k5
   refine bodyPost_ret (v := syV s') (by unfold syV; simp [results, Tryd.results18, go_sem, a0, a1, a2, a3, a4, a5, a6, a7, a8, a9]) rfl ?_
   exact ⟨by rw [HX.out], hB5⟩
end Go.Proofs.YthcafgningpdnaaDoor
