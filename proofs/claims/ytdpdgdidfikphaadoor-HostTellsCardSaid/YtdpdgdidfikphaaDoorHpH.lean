/-
  Layer 5: the landed parser takes a byte of parameters: the walk.
-/
import Derived.Test.YtdpdgdidfikphaaDoorHpG
import Derived.IntWalk
namespace Go.Proofs.YtdpdgdidfikphaaDoor
open Go.RowKit

set_option maxRecDepth 100000 in
set_option maxHeartbeats 16000000 in
theorem param_any {w : World} {S : Nat → Prop} {g base : Nat} {b : PB} {vp vd : Value} {r : Nat → Value} (h : BoxP w S g base b vp vd r) (c : UInt8) (hc0 : 48 ≤ c.toNat) (hc1 : c.toNat < 60) (htab : ∀ w', Below base w w' → Tab w') :
    Calls Tryd.prog 47 #[.pointer (some ⟨g, 0, none⟩), .int .u8 (c.toNat : Int)] w (MvE S g base (paramP b c) (.tuple #[]) w) := by
  have hfit := h.fit.param c hc0
  have c3 : w.cell? ⟨g, 3, none⟩ = some vp := h.box.cell 3
  have c4 : w.cell? ⟨g, 4, none⟩ = some (.string ⟨b.inter.toArray⟩) := h.box.cell 4
  have c8 : w.cell? ⟨g, 8, none⟩ = some (.bool b.spoilt) := h.box.cell 8
  have z3 := h.box.frozen 3
  have z8 := h.box.frozen 8
  cases hi : b.inter with
  | cons x it =>
    have E := Lib.hid (show paramP b c = { b with spoilt := true } from if_pos (by rw [hi]; simp))
    have hP := Lib.hid (BoxP.put h 8 (.bool true) (b' := { b with spoilt := true }) rfl rfl rfl ⟨h.fit.how, h.fit.np, h.fit.nq, h.fit.ni, h.fit.nd⟩)
    have hF := h.frS 8 (.bool true)
    rw [hi] at c4
    clear hi hfit
    go_enter Tryd.func47, Tryd.ntmps47
    go_wp2_with fail
    go_end0
    rw [E.out]
    exact MvE.put hP.out hF
  | nil =>
    rw [hi] at c4
    obtain ⟨d, o, m, e, h1, h2, h3, h4, h5, h6⟩ := ful_parts h.fit.np h.fit.nq
    have hlo := h.lo
    have base_ : base ≤ w.heap.size := Nat.le_trans (h.lo _ h.sg) (Nat.le_of_lt (h.hi _ h.sg))
    have HI := Lib.hid hi
    have HFit := Lib.hid hfit
    have HTab := Lib.hid htab
    obtain ⟨A, cv, hv, _⟩ := h.par.row.form
    rw [hv] at c3
    obtain ⟨p, hpl⟩ : ∃ p : Nat, b.pars.length = p := ⟨_, rfl⟩
    rw [hpl] at c3
    clear hfit hi htab hv
    have phase : (p = 0 ∧ ∃ S2 vp2 r2, BoxP (((w.alloc (.cells #[.int .i64 (-1)] 3)).alloc (.cells #[.slice (some ⟨w.heap.size, 0, none⟩) 1 1] 39)).setCell ⟨g, 3, none⟩ (.slice (some ⟨w.heap.size + 1, 0, none⟩) 1 1)) S2 g base { b with pars := d ++ [o ++ [m]] } vp2 vd r2 ∧ Wid w S S2 ∧ Fr w (((w.alloc (.cells #[.int .i64 (-1)] 3)).alloc (.cells #[.slice (some ⟨w.heap.size, 0, none⟩) 1 1] 39)).setCell ⟨g, 3, none⟩ (.slice (some ⟨w.heap.size + 1, 0, none⟩) 1 1)) S) ∨
        (((p : Int) == 0) = false ∧ ∃ S2 vp2 r2, BoxP w S2 g base { b with pars := d ++ [o ++ [m]] } vp2 vd r2 ∧ Wid w S S2 ∧ Fr w w S) := by
      rw [← hpl]
      cases hp : b.pars with
      | nil =>
        left
        refine ⟨rfl, ?_⟩
        have e0 : d ++ [o ++ [m]] = [[-1]] := by rw [← e, hp]; rfl
        rw [e0]
        obtain ⟨S2, hB, hW, hF⟩ := h.first
        exact ⟨S2, _, _, hB, hW, hF⟩
      | cons q ps =>
        right
        have e0 : d ++ [o ++ [m]] = b.pars := by rw [← e]; exact if_neg (by rw [hp]; simp)
        rw [e0]
        refine ⟨beq_false_of_ne (by simp; omega), S, vp, r, h, Wid.refl _ _, Fr.refl _ _⟩
    have c3' : ((w.alloc (.cells #[.int .i64 (-1)] 3)).alloc (.cells #[.slice (some ⟨w.heap.size, 0, none⟩) 1 1] 39)).cell? ⟨g, 3, none⟩ = some vp := ((h.box.alloc (.cells #[.int .i64 (-1)] 3)).alloc (.cells #[.slice (some ⟨w.heap.size, 0, none⟩) 1 1] 39)).cell 3
    have z3' := ((h.box.alloc (.cells #[.int .i64 (-1)] 3)).alloc (.cells #[.slice (some ⟨w.heap.size, 0, none⟩) 1 1] 39)).frozen 3
    clear h hpl
    go_enter Tryd.func47, Tryd.ntmps47
    rcases phase with ⟨rfl, S2, vp2, r2, hB, hW, hF⟩ | ⟨tp, S2, vp2, r2, hB, hW, hF⟩
    case' inl =>
      have HB := Lib.hid hB
      have HW := Lib.hid hW
      have HF := Lib.hid hF
      clear hB hW hF
      go_upto_region 4 with (fail)
      have hB := HB.out
      have hW := HW.out
      have hF := HF.out
      obtain ⟨w2, hw2⟩ : ∃ w2, ((w.alloc (.cells #[.int .i64 (-1)] 3)).alloc (.cells #[.slice (some ⟨w.heap.size, 0, none⟩) 1 1] 39)).setCell ⟨g, 3, none⟩ (.slice (some ⟨w.heap.size + 1, 0, none⟩) 1 1) = w2 := ⟨_, rfl⟩
      rw [hw2] at hB hF ⊢
      clear HB HW HF hw2 c3' z3'
    case' inr =>
      clear c3' z3'
      have HB := Lib.hid hB
      have HW := Lib.hid hW
      have HF := Lib.hid hF
      clear hB hW hF
      go_upto_region 4 with (fail)
      have hB := HB.out
      have hW := HW.out
      have hF := HF.out
      obtain ⟨w2, rfl⟩ : ∃ w2, w2 = w := ⟨_, rfl⟩
      clear HB HW HF tp
    all_goals
      have htab2 : Hid (∀ w', Below base w2 w' → Tab w') := Lib.hid fun w' hb => HTab.out w' ((hF.below base_ hlo).trans hb)
      have base2 : base ≤ w2.heap.size := Nat.le_trans base_ hF.size
      obtain ⟨P, X, cp, cx, T⟩ := hB.tail rfl
      have hX0 : (r2 d.length).ownBlock = some X := by rw [T.hr]; rfl
      have hP0 : vp2.ownBlock = some P := by rw [T.hv]; rfl
      have d3 : w2.cell? ⟨g, 3, none⟩ = some vp2 := hB.box.cell 3
      rw [T.hv] at d3
      have d8 : w2.cell? ⟨g, 8, none⟩ = some (.bool b.spoilt) := hB.box.cell 8
      have y8 := hB.box.frozen 8
      have y3 := hB.box.frozen 3
      have dr := T.cr
      have dx := T.cx_
      have yr := T.zr
      have yx := T.zx
      rw [e, List.length_append, List.length_singleton] at h1
      obtain ⟨k, hk⟩ : ∃ k, d.length = k := ⟨_, rfl⟩
      obtain ⟨j, hj⟩ : ∃ j, o.length = j := ⟨_, rfl⟩
      obtain ⟨n, hn⟩ : ∃ n, d.length + 1 = n := ⟨_, rfl⟩
      obtain ⟨q, hq⟩ : ∃ q, o.length + 1 = q := ⟨_, rfl⟩
      rw [hn] at d3 h1
      rw [hq] at dr
      rw [hk] at dr yr
      rw [hj] at dx yx
      have wn : IntKind.i64.wrap ((n : Int) - 1) = (k : Int) := by rw [IntWalk.i64_in _ (by omega)]; omega
      have wq : IntKind.i64.wrap ((q : Int) - 1) = (j : Int) := by rw [IntWalk.i64_in _ (by omega)]; omega
      have kn : (k : Int) < (n : Int) := by omega
      have jq : (j : Int) < (q : Int) := by omega
      have HE := Lib.hid e
      have HHD := Lib.hid hB
      have HK := Lib.hid hk
      have HJ := Lib.hid hj
      have HT := Lib.hid T
      have HW := Lib.hid hW
      have HFr := Lib.hid hF
      have HX0 := Lib.hid hX0
      have HP0 := Lib.hid hP0
      clear c3 c4 c8 z3 z8 e hk hj T hW hF hX0 hP0
      by_cases a1 : c.toNat < 58
      · have E := Lib.hid (show paramP b c = { b with pars := d ++ [o ++ [rd 65535 m c]] } by
          unfold paramP
          rw [if_neg (by rw [HI.out]; simp), if_pos a1, HE.out, last_snoc]
          simp)
        have fitE := HFit.out
        rw [E.out] at fitE
        have HF5 := Lib.hid fitE
        have tD : isD c = true := (isD_iff c).2 ⟨hc0, by omega⟩
        clear fitE hB
        go_wp2_with fail
        refine (longer_any m c _ tD h5 h6 (htab2.out w2 (Below.refl _ _))).mono ?_
        rintro e' w3 ⟨rfl, hb3⟩
        have hX := World.block_lt_of_cell? w2 _ dx
        have dx3 := (hb3.cell (p := ⟨X, j, none⟩) hX).trans dx
        have yx3 := (hb3.frozen (p := ⟨X, j, none⟩) hX).trans yx
        go_wp2_with fail
        go_end0
        rw [E.out]
        have := HHD.out.figure (d := d) (o := o) (m := m) rfl HT.out.hr hb3 (rd 65535 m c) HF5.out
        rw [HJ.out] at this
        exact MvE.after HW.out HFr.out (MvE.put this.1 this.2)
      · obtain ⟨i0, hi0, hz0, hz1, hz2⟩ := int_parts
        obtain ⟨j0, hj0, hy0, hy1, hy2⟩ := ints_parts
        have t1 : decide ((c.toNat : Int) < 58) = false := by simp; omega
        by_cases a2 : c.toNat = 58 ∧ q < 8
        · have E := Lib.hid (show paramP b c = { b with pars := d ++ [o ++ [m] ++ [-1]] } by
            unfold paramP
            rw [if_neg (by rw [HI.out]; simp), if_neg a1, HE.out, last_snoc, if_pos ⟨a2.1, by rw [List.length_append, List.length_singleton, hq]; exact a2.2⟩]
            simp)
          have fitE := HFit.out
          rw [E.out] at fitE
          have HF5 := Lib.hid fitE
          obtain ⟨a3, a4⟩ := a2
          have t2 : ((c.toNat : Int) == 58) = true := by rw [a3]; rfl
          have t3 : decide ((q : Int) < 8) = true := by simp; omega
          have own2 : Own w2 base 3 1 (.slice (some ⟨X, 0, none⟩) q cx) q (is_ (o ++ [m])) := by
            have := HHD.out.par.one d.length (o ++ [m]) (by simp)
            rw [HT.out.hr, List.length_append, List.length_singleton, hq] at this
            exact this
          have hPl : P < w2.heap.size := World.block_lt_of_cell? w2 _ dr
          have hgP : g ≠ P := fun e => HHD.out.no_row (by rw [HP0.out, e])
          have hgX : g ≠ X := fun e => HHD.out.no_one d.length (by simp) (by rw [HX0.out, e])
          have hPX : P ≠ X := fun e => HHD.out.par.row.ne (HHD.out.par.one d.length (o ++ [m]) (by simp)) (by decide) P HP0.out (by rw [HX0.out, e])
          have ownA := (own2.alloc (.cells #[.int .i64 (-1)] 3)).drew
          have rdA : Rd ((w2.alloc (.cells #[.int .i64 (-1)] 3)).drew) (some ⟨w2.heap.size, 0, none⟩) (is_ [-1]) := (Rd.block (heap_alloc_new w2 (.cells #[.int .i64 (-1)] 3)) rfl).drew
          have hPl2 : P < ((w2.alloc (.cells #[.int .i64 (-1)] 3)).drew).heap.size := by (show P < (w2.alloc _).heap.size); simp; omega
          have hXP : some P ≠ (Value.slice (some ⟨X, 0, none⟩) q cx).ownBlock := fun e => hPX (by have e' : some P = some X := e; injection e')
          have one1 : ∀ u ∈ is_ [-1], u.oneCell' = true := ints_one [-1]
          have h63 : q + 1 ≤ maxLen := by simp only [maxLen]; omega
          have hlim : (q + 1) * 8 ≤ 140737488355328 := by omega
          have hbs : base ≤ ((w2.alloc (.cells #[.int .i64 (-1)] 3)).drew).heap.size := by (show base ≤ (w2.alloc _).heap.size); simp; omega
          have d3d : w2.drew.cell? ⟨g, 3, none⟩ = some (.slice (some ⟨P, 0, none⟩) n cp) := d3
          have bxA := (HHD.out.box.alloc (.cells #[.int .i64 (-1)] 3))
          have bxAd : Blk ((w2.alloc (.cells #[.int .i64 (-1)] 3)).drew) g 42 (parC { b with pars := d ++ [o ++ [m]] } vp2 vd) := bxA
          have d3A : ((w2.alloc (.cells #[.int .i64 (-1)] 3)).drew).cell? ⟨g, 3, none⟩ = some (.slice (some ⟨P, 0, none⟩) n cp) := by
            have := bxA.cell 3
            rw [HT.out.hv] at this
            rw [← hn]
            exact this
          clear fitE hB hj0 hy0 hy1 hy2
          have hg25 : ∀ w5, ((w2.alloc (.cells #[.int .i64 (-1)] 3)).drew).grownBy w5 (Value.slice (some ⟨X, 0, none⟩) q cx).ownBlock → w2.grownBy w5 (r2 d.length).ownBlock := fun w5 hg5 => by
            rw [HT.out.hr]
            exact grown_trans (grown_below _ ((Below.refl _ w2).alloc (Nat.le_refl _) _).drew) hg5
          go_upto_region 10 with (fail)
          go_region_law (refine step_appB _ rfl (.tmp 76) (.tmp 77) 39 rfl base 3 i0 _ 1 8 Tryd.underlying39 hi0 hz0 hz1 hz2 rfl Nat.one_pos (.slice (some ⟨X, 0, none⟩) q cx) q (is_ (o ++ [m])) (by simp [Act.eval]) ownA (some ⟨w2.heap.size, 0, none⟩) 1 1 (is_ [-1]) (by simp [Act.eval]) rfl rdA one1 h63 hlim hbs ?_; intro v5 w5 own5 hg5 hk5; obtain ⟨A5, c5, rfl, hf5⟩ := own5.form; clear hf5; have bx5 := bxAd.grown hg5 (fun e => hgX (by injection e with e; exact e.symm)); have d35 : w5.cell? ⟨g, 3, none⟩ = some (.slice (some ⟨P, 0, none⟩) n cp) := (bx5.cell 3).trans (by rw [← hn, ← HT.out.hv]; rfl); have eP : w5.heap[P]? = w2.heap[P]? := (hg5.block P hPl2 hXP).trans (Below.heap_alloc w2 _ P hPl); have dr5 := (World.cell?_of_block (w := w2) (a := ⟨P, k, none⟩) eP).trans dr; have yr5 := (World.frozen?_of_block (w := w2) (a := ⟨P, k, none⟩) eP).trans yr)
          all_goals
            go_wp2_with fail
            go_end0
            rw [E.out]
            rw [← hq] at own5
            have own6 : Own w5 base 3 1 (.slice A5 (q + 1) c5) (o.length + 1 + 1) (is_ (o ++ [m] ++ [-1])) := by
              rw [← hq]
              have e6 : is_ (o ++ [m] ++ [-1]) = is_ (o ++ [m]) ++ is_ [-1] := by simp [is_]
              rw [e6]
              exact own5
            have hk6 : ∀ y, (Value.slice A5 (q + 1) c5).ownBlock = some y → (r2 d.length).ownBlock = some y ∨ w2.heap.size ≤ y := fun y hy => by
              rw [HX0.out]
              rcases hk5 y hy with h | h
              · exact .inl h
              · right
                have : (w2.alloc (.cells #[.int .i64 (-1)] 3)).heap.size ≤ y := h
                simp at this; omega
            obtain ⟨S', r', hB', hW', hF'⟩ := HHD.out.part (d := d) (o := o) (m := m) rfl HT.out.hv (hg25 w5 hg5) own6 hk6 HF5.out
            rw [HK.out] at hB' hF'
            exact MvE.after HW.out HFr.out ⟨rfl, S', ⟨_, _, _, hB'⟩, hW', hF'⟩
        · have e1 : (lastP (d ++ [o ++ [m]])).length = q := by rw [last_snoc, List.length_append, List.length_singleton, hq]
          have e2 : (d ++ [o ++ [m]]).length = n := by rw [List.length_append, List.length_singleton, hn]
          by_cases a3 : c.toNat = 59 ∧ n < 16
          · have E := Lib.hid (show paramP b c = { b with pars := (d ++ [o ++ [m]]) ++ [[-1]] } by
              unfold paramP
              rw [if_neg (by rw [HI.out]; simp), if_neg a1, HE.out, e1, if_neg a2, e2, if_pos a3])
            have fitE := HFit.out
            rw [E.out] at fitE
            have HF5 := Lib.hid fitE
            obtain ⟨a4, a5⟩ := a3
            have t2 : ((c.toNat : Int) == 58) = false := by rw [a4]; rfl
            have t4 : ((c.toNat : Int) == 59) = true := by rw [a4]; rfl
            have t5 : decide ((n : Int) < 16) = true := by simp; omega
            obtain ⟨wA, hwA⟩ : ∃ wA, w2.alloc (.cells #[.int .i64 (-1)] 3) = wA := ⟨_, rfl⟩
            obtain ⟨wB, hwB⟩ : ∃ wB, wA.alloc (.cells #[.slice (some ⟨w2.heap.size, 0, none⟩) 1 1] 39) = wB := ⟨_, rfl⟩
            have sA : wA.heap.size = w2.heap.size + 1 := by rw [← hwA]; simp
            have sB : wB.heap.size = w2.heap.size + 2 := by rw [← hwB]; simp [sA]
            have ownI : Own wB base 3 1 (.slice (some ⟨w2.heap.size, 0, none⟩) 1 1) 1 (is_ [-1]) := by
              rw [← hwB, ← hwA]
              exact (Own.made w2 base 3 1 (is_ [-1]) rfl base2 (by simp [maxLen])).alloc _
            have hbB : Below w2.heap.size w2 wB := by
              rw [← hwB, ← hwA]
              exact ((Below.refl _ w2).alloc (Nat.le_refl _) _).alloc (by simp) _
            have rowB : Own wB base 39 1 (.slice (some ⟨P, 0, none⟩) n cp) n ((List.range n).map r2) := by
              have := HHD.out.par.row.behind hbB
              rw [HT.out.hv] at this
              have e3 : ({ b with pars := d ++ [o ++ [m]] } : PB).pars.length = n := e2
              rw [e3] at this
              rw [← hn] at this ⊢
              exact this
            have rdB : Rd wB (some ⟨w2.heap.size + 1, 0, none⟩) [.slice (some ⟨w2.heap.size, 0, none⟩) 1 1] := by
              rw [← hwB, ← sA]
              exact Rd.block (heap_alloc_new wA _) rfl
            have one1 : ∀ u ∈ [Value.slice (some ⟨w2.heap.size, 0, none⟩) 1 1], u.oneCell' = true := fun u hu => by rw [List.mem_singleton] at hu; subst hu; rfl
            have h63 : n + 1 ≤ maxLen := by simp only [maxLen]; omega
            have hlim : (n + 1) * 24 ≤ 140737488355328 := by omega
            have hbs : base ≤ wB.heap.size := by omega
            have bxB : Blk wB g 42 (parC { b with pars := d ++ [o ++ [m]] } vp2 vd) := HHD.out.box.below hbB HHD.out.box.lt
            have hgP : (Value.slice (some ⟨P, 0, none⟩) n cp).ownBlock ≠ some g := by have := HHD.out.no_row; rw [HT.out.hv] at this; exact this
            have HBB := Lib.hid hbB
            have HOI := Lib.hid ownI
            clear fitE hB e1 e2 hbB ownI
            subst hwB
            subst hwA
            go_wp2_with (at_builtin; (refine list_appB _ rfl (.tmp 97) (.tmp 99) 30 rfl base 39 j0 _ 1 24 Tryd.underlying30 hj0 hy0 hy1 hy2 rfl Nat.one_pos (.slice (some ⟨P, 0, none⟩) n cp) n ((List.range n).map r2) rfl rowB (some ⟨w2.heap.size + 1, 0, none⟩) 1 1 [.slice (some ⟨w2.heap.size, 0, none⟩) 1 1] rfl rfl rdB one1 h63 hlim hbs ?_; intro v5 w5 row5 hg5 hk5; obtain ⟨A5, c5, rfl, hf5⟩ := row5.form; clear hf5; have bx5 := bxB.grown hg5 hgP; have e35 := bx5.cell 3; have z35 := bx5.frozen 3))
            go_end0
            rw [E.out]
            have e3 : ({ b with pars := d ++ [o ++ [m]] } : PB).pars.length = n := by (show (d ++ [o ++ [m]]).length = n); rw [List.length_append, List.length_singleton, hn]
            obtain ⟨S', r', hB', hW', hF'⟩ := HHD.out.param (w2 := w5) (v' := .slice (some ⟨w2.heap.size, 0, none⟩) 1 1) (vp' := .slice A5 (n + 1) c5) HBB.out HOI.out
              (fun y hy => by have e : some w2.heap.size = some y := hy; injection e with e; omega) (by rw [HT.out.hv, ← hn] at *; exact hg5)
              (by rw [e3]; exact row5)
              (fun y hy => by
                rcases hk5 y hy with h | h
                · left
                  rw [HP0.out]
                  exact h
                · exact .inr (Nat.le_trans HBB.out.size h)) HF5.out
            exact MvE.after HW.out HFr.out ⟨rfl, S', ⟨_, _, _, hB'⟩, hW', hF'⟩
          · have E := Lib.hid (show paramP b c = { b with pars := d ++ [o ++ [m]], spoilt := true } by
              unfold paramP
              rw [if_neg (by rw [HI.out]; simp), if_neg a1, HE.out, e1, if_neg a2, e2, if_neg a3])
            have fitE := HFit.out
            rw [E.out] at fitE
            have HP8 := Lib.hid (BoxP.put hB 8 (.bool true) (b' := { b with pars := d ++ [o ++ [m]], spoilt := true }) rfl rfl rfl fitE)
            have HF8 := Lib.hid (hB.frS 8 (.bool true))
            have key : (((c.toNat : Int) == 58) = true ∧ decide ((q : Int) < 8) = false ∧ ((c.toNat : Int) == 59) = false) ∨ (((c.toNat : Int) == 58) = false ∧ ((c.toNat : Int) == 59) = true ∧ decide ((n : Int) < 16) = false) := by
              by_cases a4 : c.toNat = 58
              · left
                exact ⟨by rw [a4]; rfl, by simp; omega, by rw [a4]; rfl⟩
              · right
                have a5 : c.toNat = 59 := by omega
                exact ⟨by rw [a5]; rfl, by rw [a5]; rfl, by simp; omega⟩
            clear fitE hB e1 e2 a1 a2 a3
            rcases key with ⟨t2, t3, t4⟩ | ⟨t2, t4, t5⟩
            all_goals
              go_wp2_with fail
              go_end0
              rw [E.out]
              exact MvE.after HW.out HFr.out (MvE.put HP8.out HF8.out)
end Go.Proofs.YtdpdgdidfikphaaDoor
