/-
  Layer 3: the walk of the law WirePuts.
-/
import Derived.Test.YtmmbfidnbdckmaaDoorWpC
import Derived.Deep.Cut
import Derived.Laws.MakeOwn
namespace Go.Proofs.YtmmbfidnbdckmaaDoor
open Go.RowKit

/-- The document's Put, whatever it tells. -/
theorem rputE_any (s : Sq) (A : Option Addr) (c : Nat) (m : Int) (T : List UInt8) (w : World) (hm : mayS s = m) (hT : putE s = T) (hp : s.params.length ≤ 4294967296) (hi : s.inter.length ≤ 4294967296) (hr : RdP w A s.params) :
    Calls Tryd.prog 12 #[sqV s A c] w (PutE m T w) := by
  subst hT
  subst hm
  by_cases h : mayS s = 0
  · refine (wput_yes s A c w h hr).mono ?_
    rintro e w' ⟨⟨A', c', rfl, h1, h2⟩, hb⟩
    rw [putE_0 h, h]
    exact ⟨⟨A', c', rfl, h1, h2⟩, hb⟩
  · refine (wput_no s A c _ w rfl h hp hi hr).mono ?_
    rintro e w' ⟨rfl, hb⟩
    rw [putE_no h]
    exact ⟨⟨none, 0, rfl, Nat.le_refl _, Rd.nil _ _⟩, hb⟩
theorem pputE2_any (s : Sq) (A : Option Addr) (c : Nat) (m : Int) (T : List UInt8) (w : World) (hm : mayS s = m) (hT : putE s = T) (hp : s.params.length ≤ 4294967296) (hpp : ∀ p ∈ s.params, p.length ≤ 4294967296) (hi : s.inter.length ≤ 4294967296) (ht : Tab w) (hr : RdP w A s.params) :
    Calls Tryd.prog 11 #[sqV s A c] w (PutE m T w) := by
  subst hT
  subst hm
  by_cases h : mayS s = 0
  · refine (pput_yes s A c w h ht hr).mono ?_
    rintro e w' ⟨⟨A', c', rfl, h1, h2⟩, hb⟩
    rw [putE_0 h, h]
    exact ⟨⟨A', c', rfl, h1, h2⟩, hb⟩
  · refine (pput_no s A c _ w rfl h hp hpp hi hr).mono ?_
    rintro e w' ⟨rfl, hb⟩
    rw [putE_no h]
    exact ⟨⟨none, 0, rfl, Nat.le_refl _, Rd.nil _ _⟩, hb⟩
theorem made_zero (N : Nat) : (madeCells (Value.int .u8 0).cells (N * 1)).toList = bs (List.replicate N 0) := by
  apply List.ext_getElem
  · rw [Array.length_toList, size_madeCells, bs_length, List.length_replicate, Nat.mul_one]
  · intro i h1 h2
    simp [madeCells, bs, B8, Value.cells, Nat.mod_one]
theorem make_zero (i0 : TypeInfo) (hi : Tryd.prog.info? 5 = some i0) (hz0 : i0.zero = some (.int .u8 0)) (hz1 : i0.size = 1) (hz2 : i0.bytes = 1) :
    ∃ (X : World → World) (Z : List UInt8), Z.length = 4097 ∧ ∀ W : World, (Instr.makeSlice 27 (.int .i64 4097) (.int .i64 4097)).run Tryd.prog W = .ok (.slice (some ⟨W.heap.size, 0, none⟩) 4097 4097) (X W) ∧ Rd (X W) (some ⟨W.heap.size, 0, none⟩) (bs Z) ∧ Below W.heap.size W (X W) := by
  obtain ⟨N, hN⟩ : ∃ N : Nat, N = 4097 := ⟨_, rfl⟩
  have h : ∀ W : World, ∃ w', (Instr.makeSlice 27 (.int .i64 4097) (.int .i64 4097)).run Tryd.prog W = .ok (.slice (some ⟨W.heap.size, 0, none⟩) 4097 4097) w' ∧ Rd w' (some ⟨W.heap.size, 0, none⟩) (bs (List.replicate N 0)) ∧ Below W.heap.size W w' := fun W => by
    obtain ⟨w', h1, h2, h3⟩ := run_make_full (P := Tryd.prog) (w := W) W.heap.size 27 5 i0 (.int .u8 0) 1 Tryd.underlying27 hi hz0 hz1 .i64 .i64 N (by rw [hz2]; omega) (by simp only [maxLen]; omega) (Nat.le_refl _)
    have h4 := Rd.own h2
    rw [made_zero] at h4
    rw [hN] at h1
    exact ⟨w', h1, h4, (Below.refl _ W).grown h3 (Nat.le_refl _) (by simp)⟩
  obtain ⟨X, hX⟩ : ∃ X : World → World, ∀ W, (Instr.makeSlice 27 (.int .i64 4097) (.int .i64 4097)).run Tryd.prog W = .ok (.slice (some ⟨W.heap.size, 0, none⟩) 4097 4097) (X W) ∧ Rd (X W) (some ⟨W.heap.size, 0, none⟩) (bs (List.replicate N 0)) ∧ Below W.heap.size W (X W) := ⟨fun W => (h W).choose, fun W => (h W).choose_spec⟩
  exact ⟨X, List.replicate N 0, by rw [List.length_replicate, hN], hX⟩
theorem Bx1.put {w W : World} {s : Sq} {A : Option Addr} {c : Nat} (h : Bx1 w W s A c) (d : List UInt8) : Bx1 w (W.setCell ⟨w.heap.size, 5, none⟩ (.string ⟨d.toArray⟩)) ⟨s.kind, s.priv, s.params, s.inter, s.final, d⟩ A c :=
  ⟨h.sq1.set 5 (.string ⟨d.toArray⟩), h.be.setCell (p := ⟨w.heap.size, 5, none⟩) (Nat.le_refl _) _⟩

set_option maxRecDepth 100000 in
set_option maxHeartbeats 16000000 in
theorem wirePuts_walk (s : Sq) (A : Option Addr) (c : Nat) (b : Bool) (w : World) (hs : SqIn w s A c) (htab : Tab w) :
    Calls Tryd.prog 3 #[sqV s A c, .bool b] w fun e w' => e = .returned (.bool true) ∧ Below w.heap.size w w' := by
  obtain ⟨i0, hi, hz0, hz1, hz2⟩ : ∃ i, Tryd.prog.info? 5 = some i ∧ i.zero = some (.int .u8 0) ∧ i.size = 1 ∧ i.bytes = 1 := ⟨_, rfl, rfl, rfl, rfl⟩
  have T0 : Bx1 w (w.alloc (.cells #[.int .i64 s.kind, .int .u8 (s.priv.toNat : Int), .slice A s.params.length c, .string ⟨s.inter.toArray⟩, .int .u8 (s.final.toNat : Int), .string ⟨s.data.toArray⟩] 24)) s A c := Bx1.new w s A c
  have hsp := hs.rd
  have hsn := hs.np
  clear hs
  unfold sqV
  go_enter Tryd.func3, Tryd.ntmps3
  go_wp2_with fail
  refine (awake_any _ (htab.below T0.be)).mono ?_
  rintro e w1 ⟨rfl, hb⟩
  have T1 := T0.next hb
  clear T0 hb
  obtain ⟨a0, a1, a2, a3, a4, a5⟩ := T1.cells
  cases hf1 : fewB s with
  | false =>
    have HF1 := Lib.hid hf1
    clear hf1
    go_wp2_with fail
    refine (few_any s A c false _ HF1.out hsn (hsp.below T1.be)).mono ?_
    rintro e w2 ⟨rfl, hb⟩
    go_wp2_with fail
    go_ret
    exact ⟨rfl, (T1.next hb).be⟩
  | true =>
    have HF1 := Lib.hid hf1
    clear hf1
    go_wp2_with fail
    refine (few_any s A c true _ HF1.out hsn (hsp.below T1.be)).mono ?_
    rintro e w2 ⟨rfl, hb⟩
    have T2 := T1.next hb
    clear T1 hb
    clear a0 a1 a2 a3 a4 a5
    obtain ⟨l1, l2, l3⟩ := few_len HF1.out
    have hd := (few_parts HF1.out).2.2.2
    have HL2 := Lib.hid l2
    clear l2
    cases b with
    | true =>
      have z5 := T2.sq1.frozen 5
      obtain ⟨a0, a1, a2, a3, a4, a5⟩ := T2.cells
      obtain ⟨XM, Z, hzl, hXM⟩ := make_zero i0 hi hz0 hz1 hz2
      have hmk := fun W => (hXM W).1
      have HX := Lib.hid (fun W => (hXM W).2)
      clear hXM
      have hbX : Below w2.heap.size w2 (XM w2.drew) := (Below.refl _ _).drew.trans (HX.out w2.drew).2
      have TX := T2.next hbX
      obtain ⟨x0, x1, x2, x3, x4, x5⟩ := TX.cells
      have y5 := TX.sq1.frozen 5
      have hcvX : (convert 27 9 (.slice (some ⟨w2.heap.size, 0, none⟩) 4097 4097)).run Tryd.prog (XM w2.drew) = .ok (.string ⟨Z.toArray⟩) (XM w2.drew) := conv_str (P := Tryd.prog) Tryd.underlying27 Tryd.underlying5 (c := 4097) (n := 4097) hzl (HX.out w2.drew).1 9 Tryd.underlying9
      have hcat : (⟨s.data.toArray⟩ : ByteArray) ++ (⟨Z.toArray⟩ : ByteArray) = ⟨(s.data ++ Z).toArray⟩ := str_cat s.data Z _ rfl
      have HZL := Lib.hid hzl
      have hzb : Z.length ≤ 4097 := by omega
      clear hzl
      go_wp2_with fail
      go_region
      have T2' := TX.put (s.data ++ Z)
      have hd2 : (s.data ++ Z).length ≤ 4294967296 := by rw [List.length_append]; omega
      obtain ⟨D, hD⟩ : ∃ D, s.data ++ Z = D := ⟨_, rfl⟩
      rw [hD] at T2' hd2 ⊢
      clear x0 x1 x2 x3 x4 x5 y5 hcvX hcat HZL hzb hmk HX TX hbX a0 a1 a2 a3 a4 a5 z5 hd T2 hD
      generalize (XM w2.drew).setCell ⟨w.heap.size, 5, none⟩ (.string ⟨D.toArray⟩) = w3 at *
      clear HF1
      obtain ⟨k, pv, ps, it, fi, dt⟩ := s
      dsimp only at *
      obtain ⟨a0, a1, a2, a3, a4, a5⟩ := T2'.cells
      obtain ⟨m, hm⟩ : ∃ m, mayS ⟨k, pv, ps, it, fi, D⟩ = m := ⟨_, rfl⟩
      obtain ⟨P, hP⟩ : ∃ P, putE ⟨k, pv, ps, it, fi, D⟩ = P := ⟨_, rfl⟩
      have HM := Lib.hid hm
      have HP := Lib.hid hP
      have hp1 := putE_len ⟨k, pv, ps, it, fi, D⟩
      rw [hP] at hp1
      clear hm hP
      go_wp2_with fail
      refine (pputE2_any ⟨k, pv, ps, it, fi, D⟩ A c m P _ HM.out HP.out l1 HL2.out l3 (htab.below T2'.be) (hsp.below T2'.be)).mono ?_
      rintro e w5 ⟨⟨A1, c1, rfl, hc1, hr1⟩, hb⟩
      obtain ⟨n1, hn1⟩ : ∃ n, P.length = n := ⟨_, rfl⟩
      have HN1 := Lib.hid hn1
      rw [hn1] at hp1 hc1 ⊢
      have T5 := T2'.next hb
      clear T2' hb hn1
      clear a0 a1 a2 a3 a4 a5
      obtain ⟨a0, a1, a2, a3, a4, a5⟩ := T5.cells
      go_wp2_with fail
      refine (rputE_any ⟨k, pv, ps, it, fi, D⟩ A c m P _ HM.out HP.out l1 l3 (hsp.below T5.be)).mono ?_
      rintro e W6 ⟨⟨A2, c2, rfl, hc2, hr2⟩, hb⟩
      rw [HN1.out] at hc2 ⊢
      have T6 := T5.next hb
      have hr16 := hr1.below hb
      clear T5 hb hr1
      clear a0 a1 a2 a3 a4 a5
      obtain ⟨a0, a1, a2, a3, a4, a5⟩ := T6.cells
      have hltB : w.heap.size < W6.heap.size := T6.sq1.lt
      have HS : Hid (∀ W, Below W6.heap.size W6 W → Below W6.heap.size W6 W ∧ W.cell? ⟨w.heap.size, 0, none⟩ = some (.int .i64 k) ∧ W.cell? ⟨w.heap.size, 1, none⟩ = some (.int .u8 (pv.toNat : Int)) ∧ W.cell? ⟨w.heap.size, 2, none⟩ = some (.slice A ps.length c) ∧ W.cell? ⟨w.heap.size, 3, none⟩ = some (.string ⟨it.toArray⟩) ∧ W.cell? ⟨w.heap.size, 4, none⟩ = some (.int .u8 (fi.toNat : Int)) ∧ W.cell? ⟨w.heap.size, 5, none⟩ = some (.string ⟨D.toArray⟩)) := Lib.hid fun W hb => ⟨hb, (hb.cell (p := ⟨w.heap.size, 0, none⟩) hltB).trans a0, (hb.cell (p := ⟨w.heap.size, 1, none⟩) hltB).trans a1, (hb.cell (p := ⟨w.heap.size, 2, none⟩) hltB).trans a2, (hb.cell (p := ⟨w.heap.size, 3, none⟩) hltB).trans a3, (hb.cell (p := ⟨w.heap.size, 4, none⟩) hltB).trans a4, (hb.cell (p := ⟨w.heap.size, 5, none⟩) hltB).trans a5⟩
      have HRD : Hid (∀ W, Below W6.heap.size W6 W → RdP W A ps) := Lib.hid fun W hb => hsp.below (T6.be.trans (hb.mono T6.be.size))
      have hcv1 : ∀ W, Below W6.heap.size W6 W → (convert 27 9 (.slice A1 n1 c1)).run Tryd.prog W = .ok (.string ⟨P.toArray⟩) W := fun W hb => conv_str Tryd.underlying27 Tryd.underlying5 HN1.out (hr16.below hb) _ Tryd.underlying9
      have hcv2 : ∀ W, Below W6.heap.size W6 W → (convert 27 9 (.slice A2 n1 c2)).run Tryd.prog W = .ok (.string ⟨P.toArray⟩) W := fun W hb => conv_str Tryd.underlying27 Tryd.underlying5 HN1.out (hr2.below hb) _ Tryd.underlying9
      have hbe := T6.be
      clear a0 a1 a2 a3 a4 a5
      clear T6
      go_wp2_with fail
      go_region_held (fun w' => Below W6.heap.size W6 w' ∧ w'.cell? ⟨w.heap.size, 0, none⟩ = some (.int .i64 k) ∧ w'.cell? ⟨w.heap.size, 1, none⟩ = some (.int .u8 (pv.toNat : Int)) ∧ w'.cell? ⟨w.heap.size, 2, none⟩ = some (.slice A ps.length c) ∧ w'.cell? ⟨w.heap.size, 3, none⟩ = some (.string ⟨it.toArray⟩) ∧ w'.cell? ⟨w.heap.size, 4, none⟩ = some (.int .u8 (fi.toNat : Int)) ∧ w'.cell? ⟨w.heap.size, 5, none⟩ = some (.string ⟨D.toArray⟩))
        (first | exact HS.out _ (Below.refl _ _).drew | assumption | exact HS.out _ (Below.trans (And.left (by assumption)) (hb6.mono (Below.size (And.left (by assumption))))))
        (first
          | (go_at_call 13; refine (pmay_any ⟨k, pv, ps, it, fi, D⟩ A c m _ HM.out l1 HL2.out l3 (HRD.out _ (And.left (by assumption)))).mono ?_; rintro e w6 ⟨rfl, hb6⟩)
          | (go_at_call 14; refine (may_any ⟨k, pv, ps, it, fi, D⟩ A c m _ HM.out l1 l3 (HRD.out _ (And.left (by assumption)))).mono ?_; rintro e w6 ⟨rfl, hb6⟩))
      all_goals
        go_wp2
        go_ret
        exact ⟨rfl, hbe.trans (Below.mono (And.left (by assumption)) hbe.size)⟩
    | false =>
      clear hd
      obtain ⟨a0, a1, a2, a3, a4, a5⟩ := T2.cells
      obtain ⟨m, hm⟩ : ∃ m, mayS s = m := ⟨_, rfl⟩
      obtain ⟨P, hP⟩ : ∃ P, putE s = P := ⟨_, rfl⟩
      have HM := Lib.hid hm
      have HP := Lib.hid hP
      have hp1 := putE_len s
      rw [hP] at hp1
      clear hm hP
      go_wp2_with fail
      refine (pputE2_any s A c m P _ HM.out HP.out l1 HL2.out l3 (htab.below T2.be) (hsp.below T2.be)).mono ?_
      rintro e w5 ⟨⟨A1, c1, rfl, hc1, hr1⟩, hb⟩
      obtain ⟨n1, hn1⟩ : ∃ n, P.length = n := ⟨_, rfl⟩
      have HN1 := Lib.hid hn1
      rw [hn1] at hp1 hc1 ⊢
      have T5 := T2.next hb
      clear T2 hb hn1
      clear a0 a1 a2 a3 a4 a5
      obtain ⟨a0, a1, a2, a3, a4, a5⟩ := T5.cells
      go_wp2_with fail
      refine (rputE_any s A c m P _ HM.out HP.out l1 l3 (hsp.below T5.be)).mono ?_
      rintro e W6 ⟨⟨A2, c2, rfl, hc2, hr2⟩, hb⟩
      rw [HN1.out] at hc2 ⊢
      have T6 := T5.next hb
      have hr16 := hr1.below hb
      clear T5 hb hr1
      clear a0 a1 a2 a3 a4 a5
      obtain ⟨a0, a1, a2, a3, a4, a5⟩ := T6.cells
      have hltB : w.heap.size < W6.heap.size := T6.sq1.lt
      have HS : Hid (∀ W, Below W6.heap.size W6 W → Below W6.heap.size W6 W ∧ W.cell? ⟨w.heap.size, 0, none⟩ = some (.int .i64 s.kind) ∧ W.cell? ⟨w.heap.size, 1, none⟩ = some (.int .u8 (s.priv.toNat : Int)) ∧ W.cell? ⟨w.heap.size, 2, none⟩ = some (.slice A s.params.length c) ∧ W.cell? ⟨w.heap.size, 3, none⟩ = some (.string ⟨s.inter.toArray⟩) ∧ W.cell? ⟨w.heap.size, 4, none⟩ = some (.int .u8 (s.final.toNat : Int)) ∧ W.cell? ⟨w.heap.size, 5, none⟩ = some (.string ⟨s.data.toArray⟩)) := Lib.hid fun W hb => ⟨hb, (hb.cell (p := ⟨w.heap.size, 0, none⟩) hltB).trans a0, (hb.cell (p := ⟨w.heap.size, 1, none⟩) hltB).trans a1, (hb.cell (p := ⟨w.heap.size, 2, none⟩) hltB).trans a2, (hb.cell (p := ⟨w.heap.size, 3, none⟩) hltB).trans a3, (hb.cell (p := ⟨w.heap.size, 4, none⟩) hltB).trans a4, (hb.cell (p := ⟨w.heap.size, 5, none⟩) hltB).trans a5⟩
      have HRD : Hid (∀ W, Below W6.heap.size W6 W → RdP W A s.params) := Lib.hid fun W hb => hsp.below (T6.be.trans (hb.mono T6.be.size))
      have hcv1 : ∀ W, Below W6.heap.size W6 W → (convert 27 9 (.slice A1 n1 c1)).run Tryd.prog W = .ok (.string ⟨P.toArray⟩) W := fun W hb => conv_str Tryd.underlying27 Tryd.underlying5 HN1.out (hr16.below hb) _ Tryd.underlying9
      have hcv2 : ∀ W, Below W6.heap.size W6 W → (convert 27 9 (.slice A2 n1 c2)).run Tryd.prog W = .ok (.string ⟨P.toArray⟩) W := fun W hb => conv_str Tryd.underlying27 Tryd.underlying5 HN1.out (hr2.below hb) _ Tryd.underlying9
      have hbe := T6.be
      clear a0 a1 a2 a3 a4 a5
      clear T6
      go_wp2_with fail
      go_region_held (fun w' => Below W6.heap.size W6 w' ∧ w'.cell? ⟨w.heap.size, 0, none⟩ = some (.int .i64 s.kind) ∧ w'.cell? ⟨w.heap.size, 1, none⟩ = some (.int .u8 (s.priv.toNat : Int)) ∧ w'.cell? ⟨w.heap.size, 2, none⟩ = some (.slice A s.params.length c) ∧ w'.cell? ⟨w.heap.size, 3, none⟩ = some (.string ⟨s.inter.toArray⟩) ∧ w'.cell? ⟨w.heap.size, 4, none⟩ = some (.int .u8 (s.final.toNat : Int)) ∧ w'.cell? ⟨w.heap.size, 5, none⟩ = some (.string ⟨s.data.toArray⟩))
        (first | exact HS.out _ (Below.refl _ _).drew | assumption | exact HS.out _ (Below.trans (And.left (by assumption)) (hb6.mono (Below.size (And.left (by assumption))))))
        (first
          | (go_at_call 13; refine (pmay_any s A c m _ HM.out l1 HL2.out l3 (HRD.out _ (And.left (by assumption)))).mono ?_; rintro e w6 ⟨rfl, hb6⟩)
          | (go_at_call 14; refine (may_any s A c m _ HM.out l1 l3 (HRD.out _ (And.left (by assumption)))).mono ?_; rintro e w6 ⟨rfl, hb6⟩))
      all_goals
        go_wp2
        go_ret
        exact ⟨rfl, hbe.trans (Below.mono (And.left (by assumption)) hbe.size)⟩
end Go.Proofs.YtmmbfidnbdckmaaDoor
