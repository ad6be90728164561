/-
  Cut out of RepM: what names no function of any dump. Stage 18, the document's style, walked: colour, May, within, Usual, flag.
  Cut out of RsyA. The document's numbers in figures, walked. (For layers that don't load layer 1's own texts.) Cut out of ModB: what names no function of any dump. In a drawn region: a struct loaded out of the midst of a known block.
-/
import Derived.Test.YtfifeofmfpjgfaaDoorG01
import Derived.Test.YtfifeofmfpjgfaaDoorG03
import Derived.Test.YtfifeofmfpjgfaaDoorG04
import Derived.Test.YtfifeofmfpjgfaaDoorG07
import Derived.Test.YtfifeofmfpjgfaaDoorG08
import Derived.Test.YtfifeofmfpjgfaaDoorG09
import Derived.Test.YtfifeofmfpjgfaaDoorG12
import Derived.RegionCalls
import Derived.Deep.RegionWith
namespace Go.Proofs.YtfifeofmfpjgfaaDoor
theorem rpart_len : ∀ (p : List Int), (∀ n ∈ p, -1 ≤ n ∧ n ≤ 1114111) → (partL p).length ≤ 22 * p.length
 | [], _ => Nat.zero_le _
 | [n], h => by
   have := textL_length n (by have := (h n (by simp)).2; omega)
   show (textL n).length ≤ _
   simp
   omega
 | n :: m :: p, h => by
   have h1 := textL_length n (by have := (h n (by simp)).2; omega)
   have h2 := rpart_len (m :: p) (fun x hx => h x (List.mem_cons_of_mem _ hx))
   show (textL n ++ (58 :: partL (m :: p))).length ≤ _
   simp only [List.length_append, List.length_cons] at h2 ⊢
   omega
theorem parl_len : ∀ (l : List (List Int)), (∀ p ∈ l, pOk p) → (parL l).length ≤ 177 * l.length
 | [], _ => Nat.zero_le _
 | [p], h => by
   obtain ⟨⟨_, h8⟩, hn⟩ := h p (by simp)
   have := rpart_len p hn
   show (partL p).length ≤ _
   simp
   omega
 | p :: q :: l, h => by
   obtain ⟨⟨_, h8⟩, hn⟩ := h p (by simp)
   have h1 := rpart_len p hn
   have h2 := parl_len (q :: l) (fun x hx => h x (List.mem_cons_of_mem _ hx))
   show (partL p ++ (59 :: parL (q :: l))).length ≤ _
   simp only [List.length_append, List.length_cons] at h2 ⊢
   omega
end Go.Proofs.YtfifeofmfpjgfaaDoor
namespace Go.Proofs.YtfifeofmfpjgfaaDoor
open Go.RowKit
theorem rcolour_any (n : Int) (q : Bool) (hq : colY n = q) (w : World) : Calls Tryd.prog 44 #[.int .i64 n] w fun e w' => e = .returned (.bool q) ∧ Below w.heap.size w w' := by
 unfold colY at hq
 by_cases h : -1 ≤ n
 ·rw [decide_eq_true h, Bool.true_and] at hq
  have HQ := Lib.hid hq
  clear hq
  go_enter Tryd.func44, Tryd.ntmps44
  go_wp2_with fail
  go_ret
  exact ⟨ret_bq HQ.out, Below.refl _ _⟩
 ·rw [decide_eq_false h, Bool.false_and] at hq
  subst hq
  go_enter Tryd.func44, Tryd.ntmps44
  go_wp2_with fail
  go_ret
  exact ⟨rfl, Below.refl _ _⟩
set_option maxRecDepth 100000 in
set_option maxHeartbeats 8000000 in
theorem rmay18_any (s : Sy) (q : Bool) (hq : mayY s = q) (w : World) : Calls Tryd.prog 26 #[syV s] w fun e w' => e = .returned (.bool q) ∧ Below w.heap.size w w' := by
 obtain ⟨s0, s1, s2, s3, s4, s5, s6, u, x, y⟩ := s
 obtain ⟨q2, h2⟩ : ∃ q, colY x = q := ⟨_, rfl⟩
 obtain ⟨q3, h3⟩ : ∃ q, colY y = q := ⟨_, rfl⟩
 unfold mayY at hq
 simp only [h2, h3] at hq
 have H2 := Lib.hid h2
 have H3 := Lib.hid h3
 clear h2 h3
 unfold syV
 simp only
 have k0 := Blk.new w 23 #[.bool s0, .bool s1, .bool s2, .bool s3, .bool s4, .bool s5, .bool s6, .int .i64 u, .int .i64 x, .int .i64 y]
 have HB0 : Below w.heap.size w (w.alloc (.cells #[.bool s0, .bool s1, .bool s2, .bool s3, .bool s4, .bool s5, .bool s6, .int .i64 u, .int .i64 x, .int .i64 y] 23)) := (Below.refl _ w).alloc (Nat.le_refl _) _
 have c7 := k0.cell 7
 have c8 := k0.cell 8
 by_cases g0 : 0 ≤ u
 ·by_cases g1 : u ≤ 5
  ·rw [decide_eq_true g0, decide_eq_true g1, Bool.true_and, Bool.true_and] at hq
   subst hq
   go_enter Tryd.func26, Tryd.ntmps26
   go_wp2_with fail
   refine (rcolour_any x q2 H2.out _).mono ?_
   rintro e w2 ⟨rfl, hb2⟩
   have hB2 := HB0.trans (hb2.mono HB0.size)
   have k2 := k0.below hb2 k0.lt
   clear c7 c8
   have c9 := k2.cell 9
   cases q2 with
   | false =>
     go_wp2_with fail
     go_ret
     exact ⟨rfl, hB2⟩
   | true =>
     go_wp2_with fail
     refine (rcolour_any y q3 H3.out _).mono ?_
     rintro e w3 ⟨rfl, hb3⟩
     have hB3 := hB2.trans (hb3.mono hB2.size)
     go_wp2_with fail
     go_ret
     exact ⟨rfl, hB3⟩
  ·rw [decide_eq_true g0, decide_eq_false g1, Bool.and_false, Bool.false_and, Bool.false_and] at hq
   subst hq
   go_enter Tryd.func26, Tryd.ntmps26
   go_wp2_with fail
   go_ret
   exact ⟨rfl, HB0⟩
 ·rw [decide_eq_false g0, Bool.false_and, Bool.false_and, Bool.false_and] at hq
  subst hq
  go_enter Tryd.func26, Tryd.ntmps26
  go_wp2_with fail
  go_ret
  exact ⟨rfl, HB0⟩
set_option maxHeartbeats 1000000 in
theorem rtext_any (k : Nat) : ∀ (n : Int) (w : World), n < k → n ≤ 9223372036854775807 → -9223372036854775808 ≤ n →
 Calls Tryd.prog 58 #[.int .i64 n] w fun e w' => e = .returned (.string ⟨(textL n).toArray⟩) ∧ Below w.heap.size w w' := by
 induction k with
 | zero =>
   intro n w hk h1 h0
   have hn : n < 0 := by omega
   have HE := Lib.hid (textL_neg n hn)
   go_enter Tryd.func58, Tryd.ntmps58
   go_wp2_with fail
   go_ret
   exact ⟨ret_s HE.out.symm, Below.refl _ _⟩
 | succ k ih =>
   intro n w hk h1 h0
   have IH := Lib.hid ih
   clear ih
   by_cases hn : n < 0
   ·have HE := Lib.hid (textL_neg n hn)
    go_enter Tryd.func58, Tryd.ntmps58
    go_wp2_with fail
    go_ret
    exact ⟨ret_s HE.out.symm, Below.refl _ _⟩
   ·by_cases h10 : n < 10
    ·have HE := Lib.hid (textL_small n (by omega) h10)
     have hcv := conv_one (P := Tryd.prog) Tryd.underlying48 Tryd.underlying5 Tryd.underlying9 (48 + n) (by omega) (by omega)
     go_enter Tryd.func58, Tryd.ntmps58
     go_wp2_with fail
     go_ret
     exact ⟨ret_s (by rw [HE.out, show (48 + n).toNat = 48 + n.toNat by omega]), (Below.refl _ _).alloc (Nat.le_refl _) _⟩
    ·have HE := Lib.hid (textL_big n (by omega))
     have hcv := conv_one (P := Tryd.prog) Tryd.underlying48 Tryd.underlying5 Tryd.underlying9 (48 + n % 10) (by omega) (by omega)
     go_enter Tryd.func58, Tryd.ntmps58
     go_wp2_with fail
     have b1 : n / 10 < k := by omega
     have b2 : n / 10 ≤ 9223372036854775807 := by omega
     have b4 := textL_length (n / 10) b2
     have b3 : -9223372036854775808 ≤ n / 10 := by omega
     have e1 : IntKind.i64.wrap (n.tdiv 10) = n / 10 := by
      rw [Int.tdiv_eq_ediv_of_nonneg (by omega)]; exact IntWalk.i64_in _ (by omega)
     have e2 : n.tmod 10 = n % 10 := Int.tmod_eq_emod_of_nonneg (by omega)
     have e3 : IntKind.i64.wrap (48 + n % 10) = 48 + n % 10 := IntWalk.i64_in _ (by omega)
     have e4 : IntKind.u8.wrap (48 + n % 10) = 48 + n % 10 := by rw [IntKind.wrap_u8]; omega
     go_region_with (first | (go_at_call 58; refine (IH.out (n / 10) _ b1 b2 b3).mono ?_; rintro e w' ⟨rfl, hb⟩; obtain ⟨hbc, hbf⟩ := below_cells hb))
     all_goals clear e1 e2 e3 e4
     all_goals go_wp2
     all_goals go_ret
     all_goals refine ⟨ret_s (q := textL n) (by rw [HE.out, show (48 + n % 10).toNat = 48 + (n % 10).toNat by omega]), ?_⟩
     all_goals first
      | exact ((Below.refl _ w).drew.trans hb).alloc hb.size _
      | exact (((Below.refl _ w).alloc (Nat.le_refl _) _).drew).trans (hb.mono (by simp))
section
section
variable {w w' : World} {g : Nat} {t : TypeId} {p0 p1 p2 p3 p4 p5 p6 p7 p8 p9 : Value}
theorem Blk.cells10 (h : Blk w g t #[p0, p1, p2, p3, p4, p5, p6, p7, p8, p9]) :
 w.cell? ⟨g, 0, none⟩ = some p0 ∧ w.cell? ⟨g, 1, none⟩ = some p1 ∧ w.cell? ⟨g, 2, none⟩ = some p2 ∧ w.cell? ⟨g, 3, none⟩ = some p3 ∧ w.cell? ⟨g, 4, none⟩ = some p4 ∧ w.cell? ⟨g, 5, none⟩ = some p5 ∧ w.cell? ⟨g, 6, none⟩ = some p6 ∧ w.cell? ⟨g, 7, none⟩ = some p7 ∧ w.cell? ⟨g, 8, none⟩ = some p8 ∧ w.cell? ⟨g, 9, none⟩ = some p9 :=
 ⟨h.cell 0, h.cell 1, h.cell 2, h.cell 3, h.cell 4, h.cell 5, h.cell 6, h.cell 7, h.cell 8, h.cell 9⟩
theorem Blk.set10 (h : Blk w g t #[p0, p1, p2, p3, p4, p5, p6, p7, p8, p9]) (x0 x1 x2 x3 x4 x5 x6 x7 x8 x9 : Value) : Blk ((((((((((w.setCell ⟨g, 0, none⟩ x0).setCell ⟨g, 1, none⟩ x1).setCell ⟨g, 2, none⟩ x2).setCell ⟨g, 3, none⟩ x3).setCell ⟨g, 4, none⟩ x4).setCell ⟨g, 5, none⟩ x5).setCell ⟨g, 6, none⟩ x6).setCell ⟨g, 7, none⟩ x7).setCell ⟨g, 8, none⟩ x8).setCell ⟨g, 9, none⟩ x9) g t #[x0, x1, x2, x3, x4, x5, x6, x7, x8, x9] := by
 have h0 : Blk _ g t #[x0, p1, p2, p3, p4, p5, p6, p7, p8, p9] := h.set 0 x0
 have h1 : Blk _ g t #[x0, x1, p2, p3, p4, p5, p6, p7, p8, p9] := h0.set 1 x1
 have h2 : Blk _ g t #[x0, x1, x2, p3, p4, p5, p6, p7, p8, p9] := h1.set 2 x2
 have h3 : Blk _ g t #[x0, x1, x2, x3, p4, p5, p6, p7, p8, p9] := h2.set 3 x3
 have h4 : Blk _ g t #[x0, x1, x2, x3, x4, p5, p6, p7, p8, p9] := h3.set 4 x4
 have h5 : Blk _ g t #[x0, x1, x2, x3, x4, x5, p6, p7, p8, p9] := h4.set 5 x5
 have h6 : Blk _ g t #[x0, x1, x2, x3, x4, x5, x6, p7, p8, p9] := h5.set 6 x6
 have h7 : Blk _ g t #[x0, x1, x2, x3, x4, x5, x6, x7, p8, p9] := h6.set 7 x7
 have h8 : Blk _ g t #[x0, x1, x2, x3, x4, x5, x6, x7, x8, p9] := h7.set 8 x8
 exact h8.set 9 x9
theorem below_set10 {B : Nat} {a : World} (h : Below B a w) (hB : B ≤ g) (x0 x1 x2 x3 x4 x5 x6 x7 x8 x9 : Value) : Below B a ((((((((((w.setCell ⟨g, 0, none⟩ x0).setCell ⟨g, 1, none⟩ x1).setCell ⟨g, 2, none⟩ x2).setCell ⟨g, 3, none⟩ x3).setCell ⟨g, 4, none⟩ x4).setCell ⟨g, 5, none⟩ x5).setCell ⟨g, 6, none⟩ x6).setCell ⟨g, 7, none⟩ x7).setCell ⟨g, 8, none⟩ x8).setCell ⟨g, 9, none⟩ x9) :=
 ((((((((((h.setCell (p := ⟨g, 0, none⟩) hB x0).setCell (p := ⟨g, 1, none⟩) hB x1).setCell (p := ⟨g, 2, none⟩) hB x2).setCell (p := ⟨g, 3, none⟩) hB x3).setCell (p := ⟨g, 4, none⟩) hB x4).setCell (p := ⟨g, 5, none⟩) hB x5).setCell (p := ⟨g, 6, none⟩) hB x6).setCell (p := ⟨g, 7, none⟩) hB x7).setCell (p := ⟨g, 8, none⟩) hB x8).setCell (p := ⟨g, 9, none⟩) hB x9)
end
end
section
section
variable {P : Program} {ops : Array Oper} {md : Region.Mode} {w1 : World} {K : List Fact} {ix iz : Nat} {R0 R1 : (Tmp → Value) → World → World → Prop} {aF : (Tmp → Value) → Act} {i : Nat} {o : Oper}
theorem goesK_mid {t : TypeId} {x : Operand} {b q : Nat} {es : Array Value} {td : TypeDesc} (hst : ∀ f ∈ K, f.ok) (hah : Ahead md ops ix i) (hio : ops[i]? = some o) (hx : i ≠ ix) (hz : i ≠ iz) (hni : (K.all fun f => f.i != i) = true) (hw : ∀ g, Region.wanted o (yielded ops (aF g).tmps) = true) {d0 : Tmp} (h0 : o.dst = some d0) (hd : ∀ g, (aF g).tmps[d0]? = some (.agg es)) (ho : o.op = .load t x) (hxv : ∀ g, (aF g).eval x = .pointer (some ⟨b, q, none⟩)) (hk : ∀ w, Below w1.heap.size w1 w → w.rangeAt b q es.toList) (hu : P.underlying t = some td) (hrw : td.isRow = true) (hi : (P.info? t).map (·.size) = some es.size) :
 GoesM P md ops aF (SK md ops w1 K ix iz R0 R1) i o :=
 goesK_val (.agg es) hst hah hio hx hz hni hw h0 hd fun g w hb => by
  unfold execOp
  simp only [ho, hxv, Instr.loadAt, Instr.sureAddr, Sem.run_bind, Sem.run_pure, Result.andThen_ok, run_loadVar_mid w b q t es.toList td (hk w hb) hu hrw (by rw [hi]; simp)]
end
end
end Go.Proofs.YtfifeofmfpjgfaaDoor
