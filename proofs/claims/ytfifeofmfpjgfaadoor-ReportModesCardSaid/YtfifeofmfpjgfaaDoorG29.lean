/-
  Stage 19, the landed report, walked: what the settings tell. Layer 3, walked: the document's Same; when all in two sequences is the same. (For layers that don't load the program's own Same.)
-/
import Derived.Test.YtfifeofmfpjgfaaDoorG08
import Derived.Test.YtfifeofmfpjgfaaDoorG12
import Derived.Test.YtfifeofmfpjgfaaDoorG17
import Derived.Test.YtfifeofmfpjgfaaDoorG23
import Derived.Test.YtfifeofmfpjgfaaDoorG28
import Derived.Deep.QuietTactic
import Derived.BigQuiet
import Derived.Deep.RegionWith
namespace Go.Proofs.YtfifeofmfpjgfaaDoor
open Go.RowKit
theorem facts_two (a b : Int) : factsL [a, b] = twoR a b := by simp [factsL, twoR, Lib.join]
theorem facts_one (a : Int) : factsL [a] = textL (factR a) := by simp [factsL, Lib.join]
theorem facts_lev : factsL [62, 1] = [54, 50, 59, 49] := by decide +kernel
theorem cat19 {L M : List UInt8} (h : L.length + M.length ≤ 9223372036854775807) (W : World) : (Op.stringOp .add ⟨L.toArray⟩ ⟨M.toArray⟩).run Tryd.prog W = .ok (.string ⟨(L ++ M).toArray⟩) W := by
 have hsum : (⟨L.toArray⟩ : ByteArray).size + (⟨M.toArray⟩ : ByteArray).size ≤ 9223372036854775807 := h
 have := run_string_add_sum (P := Tryd.prog) W _ _ hsum
 simpa [ByteArray.mk_append_mk] using this
def TelE (T : List UInt8) (w : World) (e : Ending) (w' : World) : Prop := e = .returned (.string ⟨T.toArray⟩) ∧ Below w.heap.size w w'
set_option maxRecDepth 100000 in
set_option maxHeartbeats 16000000 in
theorem pset1_any {g : Nat} {s : Sc} {w : World} (hk : Blk w g 25 (scC s)) (ht : Tab w) : Calls Tryd.prog 46 #[.pointer (some ⟨g, 0, none⟩)] w (TelE (twoR s.top s.bottom ++ [114]) w) := by
 obtain ⟨T, hT⟩ : ∃ T, twoR s.top s.bottom = T := ⟨_, rfl⟩
 have hL : T.length ≤ 140737488355328 := by rw [← hT]; have := two_len s.top s.bottom; omega
 have hF : factsL [s.top, s.bottom] = T := by rw [← hT]; exact facts_two _ _
 rw [show (twoR s.top s.bottom ++ [114]) = T ++ [114] by rw [hT]]
 have HL := Lib.hid hL
 have HF := Lib.hid hF
 clear hL hF hT
 obtain ⟨s0, s1, s2, s3, s4, s5, s6, s7, s8, ⟨s9, s10, s11, s12, s13, s14, s15, s16, s17, s18⟩⟩ := s
 unfold scC at hk
 simp only at hk HF
 have c4 : w.cell? ⟨g, 4, none⟩ = some (.int .i64 s4) := hk.cell 4
 have c5 : w.cell? ⟨g, 5, none⟩ = some (.int .i64 s5) := hk.cell 5
 have hr : Rd (w.alloc (.cells #[.int .i64 s4, .int .i64 s5] 3)) (some ⟨w.heap.size, 0, none⟩) (is_ [s4, s5]) := Rd.block (heap_alloc_new w _) (by simp [is_])
 have hB := (Below.refl w.heap.size w).alloc (Nat.le_refl _) (.cells #[.int .i64 s4, .int .i64 s5] 3)
 go_enter Tryd.func46, Tryd.ntmps46
 go_wp2_with fail
 refine (pfacts_any _ [s4, s5] 2 2 T rfl HF.out (by decide) HL.out _ (ht.below hB) hr).mono ?_
 rintro e w3 ⟨rfl, hb3⟩
 have hB3 := hB.trans (hb3.mono hB.size)
 have hcs := cat19 (L := T) (M := [114]) (by have := HL.out; simp; omega)
 go_wp2_with fail
 go_ret
 exact ⟨rfl, hB3⟩
set_option maxRecDepth 100000 in
set_option maxHeartbeats 16000000 in
theorem pset2_any {g : Nat} {s : Sc} {w : World} (hk : Blk w g 25 (scC s)) (ht : Tab w) : Calls Tryd.prog 48 #[.pointer (some ⟨g, 0, none⟩)] w (TelE (twoR s.left s.right ++ [115]) w) := by
 obtain ⟨T, hT⟩ : ∃ T, twoR s.left s.right = T := ⟨_, rfl⟩
 have hL : T.length ≤ 140737488355328 := by rw [← hT]; have := two_len s.left s.right; omega
 have hF : factsL [s.left, s.right] = T := by rw [← hT]; exact facts_two _ _
 rw [show (twoR s.left s.right ++ [115]) = T ++ [115] by rw [hT]]
 have HL := Lib.hid hL
 have HF := Lib.hid hF
 clear hL hF hT
 obtain ⟨s0, s1, s2, s3, s4, s5, s6, s7, s8, ⟨s9, s10, s11, s12, s13, s14, s15, s16, s17, s18⟩⟩ := s
 unfold scC at hk
 simp only at hk HF
 have c6 : w.cell? ⟨g, 6, none⟩ = some (.int .i64 s6) := hk.cell 6
 have c7 : w.cell? ⟨g, 7, none⟩ = some (.int .i64 s7) := hk.cell 7
 have hr : Rd (w.alloc (.cells #[.int .i64 s6, .int .i64 s7] 3)) (some ⟨w.heap.size, 0, none⟩) (is_ [s6, s7]) := Rd.block (heap_alloc_new w _) (by simp [is_])
 have hB := (Below.refl w.heap.size w).alloc (Nat.le_refl _) (.cells #[.int .i64 s6, .int .i64 s7] 3)
 go_enter Tryd.func48, Tryd.ntmps48
 go_wp2_with fail
 refine (pfacts_any _ [s6, s7] 2 2 T rfl HF.out (by decide) HL.out _ (ht.below hB) hr).mono ?_
 rintro e w3 ⟨rfl, hb3⟩
 have hB3 := hB.trans (hb3.mono hB.size)
 have hcs := cat19 (L := T) (M := [115]) (by have := HL.out; simp; omega)
 go_wp2_with fail
 go_ret
 exact ⟨rfl, hB3⟩
set_option maxRecDepth 100000 in
set_option maxHeartbeats 16000000 in
theorem pset3_any {g : Nat} {s : Sc} {w : World} (hk : Blk w g 25 (scC s)) (ht : Tab w) : Calls Tryd.prog 49 #[.pointer (some ⟨g, 0, none⟩)] w (TelE (textL (factR s.shape) ++ [32, 113]) w) := by
 obtain ⟨T, hT⟩ : ∃ T, textL (factR s.shape) = T := ⟨_, rfl⟩
 have hL : T.length ≤ 140737488355328 := by rw [← hT]; have := fact_text s.shape; omega
 have hF : factsL [s.shape] = T := by rw [← hT]; exact facts_one _
 rw [show (textL (factR s.shape) ++ [32, 113]) = T ++ [32, 113] by rw [hT]]
 have HL := Lib.hid hL
 have HF := Lib.hid hF
 clear hL hF hT
 obtain ⟨s0, s1, s2, s3, s4, s5, s6, s7, s8, ⟨s9, s10, s11, s12, s13, s14, s15, s16, s17, s18⟩⟩ := s
 unfold scC at hk
 simp only at hk HF
 have c8 : w.cell? ⟨g, 8, none⟩ = some (.int .i64 s8) := hk.cell 8
 have hr : Rd (w.alloc (.cells #[.int .i64 s8] 3)) (some ⟨w.heap.size, 0, none⟩) (is_ [s8]) := Rd.block (heap_alloc_new w _) (by simp [is_])
 have hB := (Below.refl w.heap.size w).alloc (Nat.le_refl _) (.cells #[.int .i64 s8] 3)
 go_enter Tryd.func49, Tryd.ntmps49
 go_wp2_with fail
 refine (pfacts_any _ [s8] 1 1 T rfl HF.out (by decide) HL.out _ (ht.below hB) hr).mono ?_
 rintro e w3 ⟨rfl, hb3⟩
 have hB3 := hB.trans (hb3.mono hB.size)
 have hcs := cat19 (L := T) (M := [32, 113]) (by have := HL.out; simp; omega)
 go_wp2_with fail
 go_ret
 exact ⟨rfl, hB3⟩
set_option maxRecDepth 100000 in
set_option maxHeartbeats 16000000 in
theorem pset4_any {w : World} (ht : Tab w) : Calls Tryd.prog 50 #[] w (TelE (([54, 50, 59, 49] : List UInt8) ++ [34, 112]) w) := by
 obtain ⟨T, hT⟩ : ∃ T, ([54, 50, 59, 49] : List UInt8) = T := ⟨_, rfl⟩
 have hL : T.length ≤ 140737488355328 := by rw [← hT]; decide
 have hF : factsL [62, 1] = T := by rw [← hT]; exact facts_lev
 rw [show (([54, 50, 59, 49] : List UInt8) ++ [34, 112]) = T ++ [34, 112] by rw [hT]]
 have HL := Lib.hid hL
 have HF := Lib.hid hF
 clear hL hF hT
 have hr : Rd (w.alloc (.cells #[.int .i64 62, .int .i64 1] 3)) (some ⟨w.heap.size, 0, none⟩) (is_ [62, 1]) := Rd.block (heap_alloc_new w _) (by simp [is_])
 have hB := (Below.refl w.heap.size w).alloc (Nat.le_refl _) (.cells #[.int .i64 62, .int .i64 1] 3)
 go_enter Tryd.func50, Tryd.ntmps50
 go_wp2_with fail
 refine (pfacts_any _ [62, 1] 2 2 T rfl HF.out (by decide) HL.out _ (ht.below hB) hr).mono ?_
 rintro e w3 ⟨rfl, hb3⟩
 have hB3 := hB.trans (hb3.mono hB.size)
 have hcs := cat19 (L := T) (M := [34, 112]) (by have := HL.out; simp; omega)
 go_wp2_with fail
 go_ret
 exact ⟨rfl, hB3⟩
set_option maxRecDepth 100000 in
set_option maxHeartbeats 16000000 in
theorem pset5_any {g : Nat} {s : Sc} {w : World} (hk : Blk w g 25 (scC s)) (hin : okSy s.style) (ht : Tab w) : Calls Tryd.prog 52 #[.pointer (some ⟨g, 0, none⟩)] w (TelE (parL (parY s.style) ++ [109]) w) := by
 obtain ⟨T, hT⟩ : ∃ T, parL (parY s.style) = T := ⟨_, rfl⟩
 obtain ⟨m, hm⟩ : ∃ m, (parY s.style).length = m := ⟨_, rfl⟩
 obtain ⟨PL, hPL⟩ : ∃ x, parY s.style = x := ⟨_, rfl⟩
 have HP : Hid (∀ W, Calls Tryd.prog 54 #[syV s.style] W fun e w' => ∃ A c, e = .returned (.slice A m c) ∧ LsIn w' A PL ∧ Below W.heap.size W w') := Lib.hid fun W => by
  refine (sParams_f s.style hin W).mono ?_
  rintro e w' ⟨v, rfl, ⟨A, c, rfl, hl⟩, hb⟩
  rw [hm, hPL] at *
  exact ⟨A, c, rfl, hl, hb⟩
 have HT : Hid (∀ (W : World) (A : Option Addr) (c : Nat), Below w.heap.size w W → LsIn W A PL → Calls Tryd.prog 53 #[.slice A m c] W fun e w' => e = .returned (.string ⟨T.toArray⟩) ∧ Below W.heap.size W w') := Lib.hid fun W A c hW hl => by
  rw [← hPL] at hl
  have h := sText_par s.style A c W (ht.below hW) hl
  rw [hT, hm] at h
  exact h
 rw [show parL (parY s.style) ++ [109] = T ++ [109] by rw [hT]]
 have HL := Lib.hid (show T.length ≤ 140737488355328 by rw [← hT]; exact (par_lens s.style).2.2)
 clear hT hm hPL hin ht
 obtain ⟨s0, s1, s2, s3, s4, s5, s6, s7, s8, ⟨s9, s10, s11, s12, s13, s14, s15, s16, s17, s18⟩⟩ := s
 unfold scC at hk
 unfold syV at HP
 simp only at hk HP
 have c9 : w.cell? ⟨g, 9, none⟩ = some (.bool s9) := hk.cell 9
 have c10 : w.cell? ⟨g, 10, none⟩ = some (.bool s10) := hk.cell 10
 have c11 : w.cell? ⟨g, 11, none⟩ = some (.bool s11) := hk.cell 11
 have c12 : w.cell? ⟨g, 12, none⟩ = some (.bool s12) := hk.cell 12
 have c13 : w.cell? ⟨g, 13, none⟩ = some (.bool s13) := hk.cell 13
 have c14 : w.cell? ⟨g, 14, none⟩ = some (.bool s14) := hk.cell 14
 have c15 : w.cell? ⟨g, 15, none⟩ = some (.bool s15) := hk.cell 15
 have c16 : w.cell? ⟨g, 16, none⟩ = some (.int .i64 s16) := hk.cell 16
 have c17 : w.cell? ⟨g, 17, none⟩ = some (.int .i64 s17) := hk.cell 17
 have c18 : w.cell? ⟨g, 18, none⟩ = some (.int .i64 s18) := hk.cell 18
 go_enter Tryd.func52, Tryd.ntmps52
 go_wp2_with fail
 refine (HP.out _).mono ?_
 rintro e w2 ⟨A2, c2, rfl, hl2, hb2⟩
 clear c9 c10 c11 c12 c13 c14 c15 c16 c17 c18
 go_wp2_with fail
 refine (HT.out _ A2 c2 hb2 hl2).mono ?_
 rintro e w3 ⟨rfl, hb3⟩
 have hB3 := hb2.trans (hb3.mono hb2.size)
 have hcs := cat19 (L := T) (M := [109]) (by have := HL.out; simp; omega)
 go_wp2_with fail
 go_ret
 exact ⟨rfl, hB3⟩
set_option maxRecDepth 100000 in
set_option maxHeartbeats 8000000 in
theorem rsame_any (s t : Sq) (A B : Option Addr) (c d : Nat) (q : Bool) (w : World) (hq : sameB s t = q) (hl : s.params.length ≤ 4294967296) (hl2 : t.params.length ≤ 4294967296) (hp : ∀ p ∈ s.params, p.length ≤ 4294967296) (hp2 : ∀ p ∈ t.params, p.length ≤ 4294967296) (hra : RdP w A s.params) (hrb : RdP w B t.params) :
 Calls Tryd.prog 10 #[sqV s A c, sqV t B d] w fun e w' => e = .returned (.bool q) ∧ Below w.heap.size w w' := by
 have hB : ∀ (x y : Obj), Below w.heap.size w ((w.alloc x).alloc y) := fun x y => ((Below.refl _ w).alloc (Nat.le_refl _) _).alloc (by simp) _
 obtain ⟨k, pv, ps, it, f, dd⟩ := s
 obtain ⟨k', pv', ps', it', f', dd'⟩ := t
 have HQ := Lib.hid hq
 have HP := Lib.hid hp
 have HP2 := Lib.hid hp2
 clear hq hp hp2
 dsimp only at hl hl2 hra hrb HP HP2
 unfold sqV
 dsimp only
 by_cases h1 : k = k'
 ·subst h1
  by_cases h2 : pv = pv'
  ·subst h2
   by_cases h4 : it = it'
   ·subst h4
    by_cases h5 : f = f'
    ·subst h5
     by_cases h6 : dd = dd'
     ·subst h6
      have HD := Lib.hid (show decide (ps = ps') = q by rw [← HQ.out]; simp [sameB])
      obtain ⟨n, hn⟩ : ∃ n, ps.length = n := ⟨_, rfl⟩
      obtain ⟨m, hm⟩ : ∃ m, ps'.length = m := ⟨_, rfl⟩
      have HN := Lib.hid hn
      have HM := Lib.hid hm
      rw [hn] at hl ⊢
      rw [hm] at hl2 ⊢
      clear hn hm
      by_cases hlen : n = m
      ·subst hlen
       have hb0 := hB (.cells #[.int .i64 k, .int .u8 (pv.toNat : Int), .slice A n c, .string ⟨it.toArray⟩, .int .u8 (f.toNat : Int), .string ⟨dd.toArray⟩] 30) (.cells #[.int .i64 k, .int .u8 (pv.toNat : Int), .slice B n d, .string ⟨it.toArray⟩, .int .u8 (f.toNat : Int), .string ⟨dd.toArray⟩] 30)
       have hq1 := (Blk.new w 30 #[.int .i64 k, .int .u8 (pv.toNat : Int), .slice A n c, .string ⟨it.toArray⟩, .int .u8 (f.toNat : Int), .string ⟨dd.toArray⟩]).alloc (.cells #[.int .i64 k, .int .u8 (pv.toNat : Int), .slice B n d, .string ⟨it.toArray⟩, .int .u8 (f.toNat : Int), .string ⟨dd.toArray⟩] 30)
       have hq2 := Blk.new (w.alloc (.cells #[.int .i64 k, .int .u8 (pv.toNat : Int), .slice A n c, .string ⟨it.toArray⟩, .int .u8 (f.toNat : Int), .string ⟨dd.toArray⟩] 30)) 30 #[.int .i64 k, .int .u8 (pv.toNat : Int), .slice B n d, .string ⟨it.toArray⟩, .int .u8 (f.toNat : Int), .string ⟨dd.toArray⟩]
       rw [World.size_alloc] at hq2
       go_enter Tryd.func10, Tryd.ntmps10
       go_wp2_with fail
       generalize (w.alloc (.cells #[.int .i64 k, .int .u8 (pv.toNat : Int), .slice A n c, .string ⟨it.toArray⟩, .int .u8 (f.toNat : Int), .string ⟨dd.toArray⟩] 30)).alloc (.cells #[.int .i64 k, .int .u8 (pv.toNat : Int), .slice B n d, .string ⟨it.toArray⟩, .int .u8 (f.toNat : Int), .string ⟨dd.toArray⟩] 30) = W0 at *
       have hbW := Below.refl W0.heap.size W0
       go_loopw [5] (fun i wr => ∃ j : Nat, j ≤ n ∧ i = .int .i64 j ∧ ps.take j = ps'.take j ∧ Below W0.heap.size W0 wr) (fun i _ => n - (intOf i).toNat)
       case atStart => exact ⟨0, Nat.zero_le _, rfl, rfl, hbW⟩
       case round =>
        obtain ⟨j, hj, rfl, hab, hbw⟩ := hrel
        have HAB := Lib.hid hab
        clear hab hbW
        have q1 := hq1.below hbw hq1.lt
        have q2 := hq2.below hbw hq2.lt
        have hbt := hb0.trans (hbw.mono hb0.size)
        obtain ⟨_, _, c2, _, _, _⟩ := Blk.cells6 q1
        obtain ⟨_, _, d2, _, _, _⟩ := Blk.cells6 q2
        by_cases hlt : j < n
        ·have hka : j < ps.length := by rw [HN.out]; exact hlt
         have hkb : j < ps'.length := by rw [HM.out]; exact hlt
         obtain ⟨p, o, hA, hpb, hc⟩ := (hra.below hbt) (by omega)
         obtain ⟨p2, o2, hA2, hpb2, hc2⟩ := (hrb.below hbt) (by omega)
         cases hA
         cases hA2
         obtain ⟨A1, c1, hck, hr1⟩ := hc j hka
         obtain ⟨A2, c3, hdk, hr2⟩ := hc2 j hkb
         have h1l := HP.out _ (List.getElem_mem hka)
         have h2l := HP2.out _ (List.getElem_mem hkb)
         obtain ⟨x, hx⟩ : ∃ x, ps[j]'hka = x := ⟨_, rfl⟩
         obtain ⟨y, hy⟩ : ∃ y, ps'[j]'hkb = y := ⟨_, rfl⟩
         rw [hx] at hck hr1 h1l
         rw [hy] at hdk hr2 h2l
         have HX := Lib.hid hx
         have HY := Lib.hid hy
         clear hx hy hc hc2
         obtain ⟨nx, hnx⟩ : ∃ nx, x.length = nx := ⟨_, rfl⟩
         obtain ⟨ny, hny⟩ : ∃ ny, y.length = ny := ⟨_, rfl⟩
         rw [hnx] at hck h1l
         rw [hny] at hdk h2l
         have HNX := Lib.hid hnx
         have HNY := Lib.hid hny
         clear hnx hny
         cases he : decide (x = y) with
         | true =>
           have HE := Lib.hid he
           have H := Lib.hid (show ps.take (j + 1) = ps'.take (j + 1) by rw [List.take_succ_eq_append_getElem hka, List.take_succ_eq_append_getElem hkb, HAB.out, HX.out, HY.out, of_decide_eq_true he])
           clear he
           go_wp2_with fail
           go_region_with (go_at_call 28; refine (ints_at A1 A2 nx ny c1 c3 x y true _ HNX.out HNY.out HE.out h1l h2l hr1.drew hr2.drew).mono ?_; rintro e w2 ⟨rfl, hb2⟩)
           all_goals
            go_wp2_with fail
            go_roundw
            case rel => exact ⟨j + 1, by omega, by go_num, H.out, (by first | exact hbw.drew.trans (hb2.mono hbw.size) | exact (hbw.trans (hb2.mono hbw.size)))⟩
            case measure => simp [intOf]; omega
         | false =>
           have HE := Lib.hid he
           have E := Lib.hid (show false = q by
            rw [← HD.out]
            refine (decide_eq_false (fun e => of_decide_eq_false he ?_)).symm
            subst e
            exact HX.out.symm.trans HY.out)
           clear he
           go_wp2_with fail
           go_region_with (go_at_call 28; refine (ints_at A1 A2 nx ny c1 c3 x y false _ HNX.out HNY.out HE.out h1l h2l hr1.drew hr2.drew).mono ?_; rintro e w2 ⟨rfl, hb2⟩)
           all_goals
            go_wp2_with fail
            go_ret
            exact ⟨ret_b E.out, hbt.drew.trans (hb2.mono hbt.size)⟩
        ·have E := Lib.hid (show true = q by
          rw [← HD.out]
          refine (decide_eq_true ?_).symm
          have h1 := HAB.out
          rw [List.take_of_length_le (by rw [HN.out]; omega), List.take_of_length_le (by rw [HM.out]; omega)] at h1
          exact h1)
         go_wp2_with fail
         go_ret
         exact ⟨ret_b E.out, hbt⟩
      ·have E := Lib.hid (show false = q by
        rw [← HD.out]
        refine (decide_eq_false (fun e => hlen ?_)).symm
        rw [← HN.out, ← HM.out, e])
       have t1 : ((n : Int) == (m : Int)) = false := beq_false_of_ne (by omega)
       have t2 : ((n : Int) != (m : Int)) = true := by simp [bne, t1]
       clear hlen
       go_enter Tryd.func10, Tryd.ntmps10
       go_wp2_with fail
       go_ret
       exact ⟨ret_b E.out, hB _ _⟩
     ·have HF := Lib.hid (show false = q by rw [← HQ.out]; simp [sameB, h6])
      go_enter Tryd.func10, Tryd.ntmps10
      go_wp2_with fail
      go_ret
      exact ⟨ret_b HF.out, hB _ _⟩
    ·have HF := Lib.hid (show false = q by rw [← HQ.out]; simp [sameB, h5])
     obtain ⟨n2, n3⟩ := byte_ne h5
     clear h5
     go_enter Tryd.func10, Tryd.ntmps10
     go_wp2_with fail
     go_ret
     exact ⟨ret_b HF.out, hB _ _⟩
   ·have HF := Lib.hid (show false = q by rw [← HQ.out]; simp [sameB, h4])
    go_enter Tryd.func10, Tryd.ntmps10
    go_wp2_with fail
    go_ret
    exact ⟨ret_b HF.out, hB _ _⟩
  ·have HF := Lib.hid (show false = q by rw [← HQ.out]; simp [sameB, h2])
   obtain ⟨n2, n3⟩ := byte_ne h2
   clear h2
   go_enter Tryd.func10, Tryd.ntmps10
   go_wp2_with fail
   go_ret
   exact ⟨ret_b HF.out, hB _ _⟩
 ·have HF := Lib.hid (show false = q by rw [← HQ.out]; simp [sameB, h1])
  have n2 : (k == k') = false := beq_false_of_ne h1
  have n3 : (k != k') = true := by simp [bne, n2]
  clear h1
  go_enter Tryd.func10, Tryd.ntmps10
  go_wp2_with fail
  go_ret
  exact ⟨ret_b HF.out, hB _ _⟩
end Go.Proofs.YtfifeofmfpjgfaaDoor
