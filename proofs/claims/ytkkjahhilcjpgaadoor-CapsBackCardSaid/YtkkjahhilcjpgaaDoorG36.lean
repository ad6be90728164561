/-
  Layer 3, walked: the document's Same; when all in two sequences is the same. (For layers that don't load the program's own Same.)
-/
import Derived.Test.YtkkjahhilcjpgaaDoorG04
import Derived.Test.YtkkjahhilcjpgaaDoorG15
import Derived.Test.YtkkjahhilcjpgaaDoorG16
import Derived.Deep.QuietTactic
import Derived.BigQuiet
import Derived.Deep.RegionWith
namespace Go.Proofs.YtkkjahhilcjpgaaDoor
open Go.RowKit
set_option maxRecDepth 100000 in
set_option maxHeartbeats 8000000 in
theorem rsame_any (s t : Sq) (A B : Option Addr) (c d : Nat) (q : Bool) (w : World) (hq : sameB s t = q) (hl : s.params.length ≤ 4294967296) (hl2 : t.params.length ≤ 4294967296) (hp : ∀ p ∈ s.params, p.length ≤ 4294967296) (hp2 : ∀ p ∈ t.params, p.length ≤ 4294967296) (hra : RdP w A s.params) (hrb : RdP w B t.params) :
 Calls Tryd.prog 11 #[sqV s A c, sqV t B d] w fun e w' => e = .returned (.bool q) ∧ Below w.heap.size w w' := by
 have hB : ∀ (x y : Obj), Below w.heap.size w ((w.alloc x).alloc y) := fun x y => ((Below.refl _ w).alloc (Nat.le_refl _) _).alloc (by simp) _
 obtain ⟨k, pv, ps, it, f, dd⟩ := s
 obtain ⟨k', pv', ps', it', f', dd'⟩ := t
 have HQ := Lib.hid hq
 have HP := Lib.hid hp
 have HP2 := Lib.hid hp2
 clear hq hp hp2
 dsimp only at hl hl2 hra hrb HP HP2
 unfold sqV
 dsimp only
 by_cases h1 : k = k'
 ·subst h1
  by_cases h2 : pv = pv'
  ·subst h2
   by_cases h4 : it = it'
   ·subst h4
    by_cases h5 : f = f'
    ·subst h5
     by_cases h6 : dd = dd'
     ·subst h6
      have HD := Lib.hid (show decide (ps = ps') = q by rw [← HQ.out]; simp [sameB])
      obtain ⟨n, hn⟩ : ∃ n, ps.length = n := ⟨_, rfl⟩
      obtain ⟨m, hm⟩ : ∃ m, ps'.length = m := ⟨_, rfl⟩
      have HN := Lib.hid hn
      have HM := Lib.hid hm
      rw [hn] at hl ⊢
      rw [hm] at hl2 ⊢
      clear hn hm
      by_cases hlen : n = m
      ·subst hlen
       have hb0 := hB (.cells #[.int .i64 k, .int .u8 (pv.toNat : Int), .slice A n c, .string ⟨it.toArray⟩, .int .u8 (f.toNat : Int), .string ⟨dd.toArray⟩] 28) (.cells #[.int .i64 k, .int .u8 (pv.toNat : Int), .slice B n d, .string ⟨it.toArray⟩, .int .u8 (f.toNat : Int), .string ⟨dd.toArray⟩] 28)
       have hq1 := (Blk.new w 28 #[.int .i64 k, .int .u8 (pv.toNat : Int), .slice A n c, .string ⟨it.toArray⟩, .int .u8 (f.toNat : Int), .string ⟨dd.toArray⟩]).alloc (.cells #[.int .i64 k, .int .u8 (pv.toNat : Int), .slice B n d, .string ⟨it.toArray⟩, .int .u8 (f.toNat : Int), .string ⟨dd.toArray⟩] 28)
       have hq2 := Blk.new (w.alloc (.cells #[.int .i64 k, .int .u8 (pv.toNat : Int), .slice A n c, .string ⟨it.toArray⟩, .int .u8 (f.toNat : Int), .string ⟨dd.toArray⟩] 28)) 28 #[.int .i64 k, .int .u8 (pv.toNat : Int), .slice B n d, .string ⟨it.toArray⟩, .int .u8 (f.toNat : Int), .string ⟨dd.toArray⟩]
       rw [World.size_alloc] at hq2
       go_enter Tryd.func11, Tryd.ntmps11
       go_wp2_with fail
       generalize (w.alloc (.cells #[.int .i64 k, .int .u8 (pv.toNat : Int), .slice A n c, .string ⟨it.toArray⟩, .int .u8 (f.toNat : Int), .string ⟨dd.toArray⟩] 28)).alloc (.cells #[.int .i64 k, .int .u8 (pv.toNat : Int), .slice B n d, .string ⟨it.toArray⟩, .int .u8 (f.toNat : Int), .string ⟨dd.toArray⟩] 28) = W0 at *
       have hbW := Below.refl W0.heap.size W0
       go_loopw [5] (fun i wr => ∃ j : Nat, j ≤ n ∧ i = .int .i64 j ∧ ps.take j = ps'.take j ∧ Below W0.heap.size W0 wr) (fun i _ => n - (intOf i).toNat)
       case atStart => exact ⟨0, Nat.zero_le _, rfl, rfl, hbW⟩
       case round =>
        obtain ⟨j, hj, rfl, hab, hbw⟩ := hrel
        have HAB := Lib.hid hab
        clear hab hbW
        have q1 := hq1.below hbw hq1.lt
        have q2 := hq2.below hbw hq2.lt
        have hbt := hb0.trans (hbw.mono hb0.size)
        obtain ⟨_, _, c2, _, _, _⟩ := Blk.cells6 q1
        obtain ⟨_, _, d2, _, _, _⟩ := Blk.cells6 q2
        by_cases hlt : j < n
        ·have hka : j < ps.length := by rw [HN.out]; exact hlt
         have hkb : j < ps'.length := by rw [HM.out]; exact hlt
         obtain ⟨p, o, hA, hpb, hc⟩ := (hra.below hbt) (by omega)
         obtain ⟨p2, o2, hA2, hpb2, hc2⟩ := (hrb.below hbt) (by omega)
         cases hA
         cases hA2
         obtain ⟨A1, c1, hck, hr1⟩ := hc j hka
         obtain ⟨A2, c3, hdk, hr2⟩ := hc2 j hkb
         have h1l := HP.out _ (List.getElem_mem hka)
         have h2l := HP2.out _ (List.getElem_mem hkb)
         obtain ⟨x, hx⟩ : ∃ x, ps[j]'hka = x := ⟨_, rfl⟩
         obtain ⟨y, hy⟩ : ∃ y, ps'[j]'hkb = y := ⟨_, rfl⟩
         rw [hx] at hck hr1 h1l
         rw [hy] at hdk hr2 h2l
         have HX := Lib.hid hx
         have HY := Lib.hid hy
         clear hx hy hc hc2
         obtain ⟨nx, hnx⟩ : ∃ nx, x.length = nx := ⟨_, rfl⟩
         obtain ⟨ny, hny⟩ : ∃ ny, y.length = ny := ⟨_, rfl⟩
         rw [hnx] at hck h1l
         rw [hny] at hdk h2l
         have HNX := Lib.hid hnx
         have HNY := Lib.hid hny
         clear hnx hny
         cases he : decide (x = y) with
         | true =>
           have HE := Lib.hid he
           have H := Lib.hid (show ps.take (j + 1) = ps'.take (j + 1) by rw [List.take_succ_eq_append_getElem hka, List.take_succ_eq_append_getElem hkb, HAB.out, HX.out, HY.out, of_decide_eq_true he])
           clear he
           go_wp2_with fail
           go_region_with (go_at_call 21; refine (ints_at A1 A2 nx ny c1 c3 x y true _ HNX.out HNY.out HE.out h1l h2l hr1.drew hr2.drew).mono ?_; rintro e w2 ⟨rfl, hb2⟩)
           all_goals
            go_wp2_with fail
            go_roundw
            case rel => exact ⟨j + 1, by omega, by go_num, H.out, (by first | exact hbw.drew.trans (hb2.mono hbw.size) | exact (hbw.trans (hb2.mono hbw.size)))⟩
            case measure => simp [intOf]; omega
         | false =>
           have HE := Lib.hid he
           have E := Lib.hid (show false = q by
            rw [← HD.out]
            refine (decide_eq_false (fun e => of_decide_eq_false he ?_)).symm
            subst e
            exact HX.out.symm.trans HY.out)
           clear he
           go_wp2_with fail
           go_region_with (go_at_call 21; refine (ints_at A1 A2 nx ny c1 c3 x y false _ HNX.out HNY.out HE.out h1l h2l hr1.drew hr2.drew).mono ?_; rintro e w2 ⟨rfl, hb2⟩)
           all_goals
            go_wp2_with fail
            go_ret
            exact ⟨ret_b E.out, hbt.drew.trans (hb2.mono hbt.size)⟩
        ·have E := Lib.hid (show true = q by
          rw [← HD.out]
          refine (decide_eq_true ?_).symm
          have h1 := HAB.out
          rw [List.take_of_length_le (by rw [HN.out]; omega), List.take_of_length_le (by rw [HM.out]; omega)] at h1
          exact h1)
         go_wp2_with fail
         go_ret
         exact ⟨ret_b E.out, hbt⟩
      ·have E := Lib.hid (show false = q by
        rw [← HD.out]
        refine (decide_eq_false (fun e => hlen ?_)).symm
        rw [← HN.out, ← HM.out, e])
       have t1 : ((n : Int) == (m : Int)) = false := beq_false_of_ne (by omega)
       have t2 : ((n : Int) != (m : Int)) = true := by simp [bne, t1]
       clear hlen
       go_enter Tryd.func11, Tryd.ntmps11
       go_wp2_with fail
       go_ret
       exact ⟨ret_b E.out, hB _ _⟩
     ·have HF := Lib.hid (show false = q by rw [← HQ.out]; simp [sameB, h6])
      go_enter Tryd.func11, Tryd.ntmps11
      go_wp2_with fail
      go_ret
      exact ⟨ret_b HF.out, hB _ _⟩
    ·have HF := Lib.hid (show false = q by rw [← HQ.out]; simp [sameB, h5])
     obtain ⟨n2, n3⟩ := byte_ne h5
     clear h5
     go_enter Tryd.func11, Tryd.ntmps11
     go_wp2_with fail
     go_ret
     exact ⟨ret_b HF.out, hB _ _⟩
   ·have HF := Lib.hid (show false = q by rw [← HQ.out]; simp [sameB, h4])
    go_enter Tryd.func11, Tryd.ntmps11
    go_wp2_with fail
    go_ret
    exact ⟨ret_b HF.out, hB _ _⟩
  ·have HF := Lib.hid (show false = q by rw [← HQ.out]; simp [sameB, h2])
   obtain ⟨n2, n3⟩ := byte_ne h2
   clear h2
   go_enter Tryd.func11, Tryd.ntmps11
   go_wp2_with fail
   go_ret
   exact ⟨ret_b HF.out, hB _ _⟩
 ·have HF := Lib.hid (show false = q by rw [← HQ.out]; simp [sameB, h1])
  have n2 : (k == k') = false := beq_false_of_ne h1
  have n3 : (k != k') = true := by simp [bne, n2]
  clear h1
  go_enter Tryd.func11, Tryd.ntmps11
  go_wp2_with fail
  go_ret
  exact ⟨ret_b HF.out, hB _ _⟩
end Go.Proofs.YtkkjahhilcjpgaaDoor
