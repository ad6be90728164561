/-
  Layer 15, walked: the document's wanted and Tell.
-/
import Derived.Test.YtbdpjhlfaelgpaaTrkR
namespace Go.Proofs.Ytbdpjhlfaelgpaa
open Go.RowKit

set_option maxRecDepth 100000 in
set_option maxHeartbeats 4000000 in
theorem rwant15_any (mode : Int) (e : Ms) (w : World) : Calls Try.prog 15 #[.int .i64 mode, msV e] w fun x w' => x = .returned (.bool (wantT mode e)) ∧ Below w.heap.size w w' := by
  obtain ⟨R, hR⟩ : ∃ R, wantT mode e = R := ⟨_, rfl⟩
  rw [hR]
  have HC := Lib.hid (show R = wantT mode e from hR.symm)
  clear hR
  obtain ⟨btn, typ, x, y, md⟩ := e
  have HC := Lib.hid (HC.out.trans (show wantT mode ⟨btn, typ, x, y, md⟩ = if mode = 9 then decide (typ = 1) && decide (btn ≤ 3) else if mode = 1000 then !decide (typ = 4) else if mode = 1002 then !decide (typ = 4) || !decide (btn = 0) else decide (mode = 1003) from rfl))
  rw [msV]
  have hB := (Below.refl w.heap.size w).alloc (Nat.le_refl _) (.cells #[.int .i64 btn, .int .i64 typ, .int .i64 x, .int .i64 y, .int .i64 md] 25)
  have k0 := Blk.new w 25 #[.int .i64 btn, .int .i64 typ, .int .i64 x, .int .i64 y, .int .i64 md]
  obtain ⟨a0, a1, a2, a3, a4⟩ := Blk.cells5 k0
  simp only
  by_cases m0 : mode = 9
  · subst m0
    have HC := Lib.hid (HC.out.trans (if_pos rfl))
    by_cases t1 : typ = 1
    · subst t1
      have HC := Lib.hid (HC.out.trans (by rw [decide_eq_true rfl, Bool.true_and]))
      by_cases b3 : btn ≤ 3
      · have HE := Lib.hid (HC.out.trans (decide_eq_true b3))
        clear HC
        go_enter Try.func15, Try.ntmps15
        go_wp2_with fail
        go_ret
        exact ⟨ret_bl HE.out.symm, hB⟩
      · have HE := Lib.hid (HC.out.trans (decide_eq_false b3))
        clear HC
        go_enter Try.func15, Try.ntmps15
        go_wp2_with fail
        go_ret
        exact ⟨ret_bl HE.out.symm, hB⟩
    · have HE := Lib.hid (HC.out.trans (by rw [decide_eq_false t1, Bool.false_and]))
      have u1 : (typ == 1) = false := beq_false_of_ne t1
      clear HC t1
      go_enter Try.func15, Try.ntmps15
      go_wp2_with fail
      go_ret
      exact ⟨ret_bl HE.out.symm, hB⟩
  have HC := Lib.hid (HC.out.trans (if_neg m0))
  have n0 : (mode == 9) = false := beq_false_of_ne m0
  clear m0
  by_cases m1 : mode = 1000
  · subst m1
    have HC := Lib.hid (HC.out.trans (if_pos rfl))
    by_cases t4 : typ = 4
    · subst t4
      have HE := Lib.hid (HC.out.trans (show _ = false by decide))
      clear HC
      go_enter Try.func15, Try.ntmps15
      go_wp2_with fail
      go_ret
      exact ⟨ret_bl HE.out.symm, hB⟩
    · have HE := Lib.hid (HC.out.trans (show _ = true by rw [decide_eq_false t4]; rfl))
      have u4 : (typ == 4) = false := beq_false_of_ne t4
      have v4 : (typ != 4) = true := by rw [bne, u4]; rfl
      clear HC t4
      go_enter Try.func15, Try.ntmps15
      go_wp2_with fail
      go_ret
      exact ⟨ret_bl HE.out.symm, hB⟩
  have HC := Lib.hid (HC.out.trans (if_neg m1))
  have n1 : (mode == 1000) = false := beq_false_of_ne m1
  clear m1
  by_cases m2 : mode = 1002
  · subst m2
    have HC := Lib.hid (HC.out.trans (if_pos rfl))
    by_cases t4 : typ = 4
    · subst t4
      by_cases b0 : btn = 0
      · subst b0
        have HE := Lib.hid (HC.out.trans (show _ = false by decide))
        clear HC
        go_enter Try.func15, Try.ntmps15
        go_wp2_with fail
        go_ret
        exact ⟨ret_bl HE.out.symm, hB⟩
      · have HE := Lib.hid (HC.out.trans (show _ = true by rw [decide_eq_false b0]; rfl))
        have u0 : (btn == 0) = false := beq_false_of_ne b0
        have v0 : (btn != 0) = true := by rw [bne, u0]; rfl
        clear HC b0
        go_enter Try.func15, Try.ntmps15
        go_wp2_with fail
        go_ret
        exact ⟨ret_bl HE.out.symm, hB⟩
    · have HE := Lib.hid (HC.out.trans (show _ = true by rw [decide_eq_false t4]; rfl))
      have u4 : (typ == 4) = false := beq_false_of_ne t4
      have v4 : (typ != 4) = true := by rw [bne, u4]; rfl
      clear HC t4
      go_enter Try.func15, Try.ntmps15
      go_wp2_with fail
      go_ret
      exact ⟨ret_bl HE.out.symm, hB⟩
  have HC := Lib.hid (HC.out.trans (if_neg m2))
  have n2 : (mode == 1002) = false := beq_false_of_ne m2
  clear m2
  by_cases m3 : mode = 1003
  · subst m3
    have HE := Lib.hid (HC.out.trans (decide_eq_true rfl))
    clear HC
    go_enter Try.func15, Try.ntmps15
    go_wp2_with fail
    go_ret
    exact ⟨ret_bl HE.out.symm, hB⟩
  · have HE := Lib.hid (HC.out.trans (decide_eq_false m3))
    have n3 : (mode == 1003) = false := beq_false_of_ne m3
    clear HC m3
    go_enter Try.func15, Try.ntmps15
    go_wp2_with fail
    go_ret
    exact ⟨ret_bl HE.out.symm, hB⟩
theorem two_set {w : World} {g : Nat} {t : TypeId} {a b : Value} (h : Blk w g t #[a, b]) (x y : Value) : (w.frozen? ⟨g, 0, none⟩ = false ∧ w.cell? ⟨g, 0, none⟩ = some a) ∧ ((w.setCell ⟨g, 0, none⟩ x).frozen? ⟨g, 1, none⟩ = false ∧ (w.setCell ⟨g, 0, none⟩ x).cell? ⟨g, 1, none⟩ = some b) ∧ ((w.setCell ⟨g, 0, none⟩ x).setCell ⟨g, 1, none⟩ y).cell? ⟨g, 0, none⟩ = some x ∧ ((w.setCell ⟨g, 0, none⟩ x).setCell ⟨g, 1, none⟩ y).cell? ⟨g, 1, none⟩ = some y := by
  have h1 : Blk (w.setCell ⟨g, 0, none⟩ x) g t #[x, b] := h.set 0 x
  have h2 : Blk ((w.setCell ⟨g, 0, none⟩ x).setCell ⟨g, 1, none⟩ y) g t #[x, y] := h1.set 1 y
  exact ⟨⟨h.frozen 0, h.cell 0⟩, ⟨h1.frozen 1, h1.cell 1⟩, h2.cell 0, h2.cell 1⟩
theorem two_below {B : Nat} {w0 w : World} (h : Below B w0 w) {g : Nat} (hg : B ≤ g) (x y : Value) : Below B w0 ((w.setCell ⟨g, 0, none⟩ x).setCell ⟨g, 1, none⟩ y) := (h.setCell (p := ⟨g, 0, none⟩) hg x).setCell (p := ⟨g, 1, none⟩) hg y
theorem ret_tl {x y : Ce × Bool} (h : x = y) : Ending.returned (.tuple #[ceV x.1, .bool x.2]) = .returned (.tuple #[ceV y.1, .bool y.2]) := by rw [h]
set_option maxRecDepth 100000 in
set_option maxHeartbeats 8000000 in
theorem rtell15_any (mode : Int) (s : Ce) (e : Ms) (w : World) : Calls Try.prog 11 #[.int .i64 mode, ceV s, msV e] w fun x w' => x = .returned (.tuple #[ceV (tellT mode s e).1, .bool (tellT mode s e).2]) ∧ Below w.heap.size w w' := by
  obtain ⟨R, hR⟩ : ∃ R, tellT mode s e = R := ⟨_, rfl⟩
  rw [hR]
  have HM : Hid (∀ W, Calls Try.prog 13 #[msV e] W fun x w' => x = .returned (.bool (mayT e)) ∧ Below W.heap.size W w') := Lib.hid fun W => rmay15_any e W
  have HW : Hid (∀ W, Calls Try.prog 15 #[.int .i64 mode, msV e] W fun x w' => x = .returned (.bool (wantT mode e)) ∧ Below W.heap.size W w') := Lib.hid fun W => rwant15_any mode e W
  obtain ⟨q, hq⟩ : ∃ q, mayT e = q := ⟨_, rfl⟩
  obtain ⟨r, hr⟩ : ∃ r, wantT mode e = r := ⟨_, rfl⟩
  have HC := Lib.hid (show R = if (q && r && !(decide (e.typ = 4) && decide (s.x = e.x) && decide (s.y = e.y))) = true then (⟨e.x, e.y⟩, true) else (s, false) by rw [← hR, ← hq, ← hr]; rfl)
  rw [hq] at HM
  rw [hr] at HW
  clear hR hq hr
  obtain ⟨btn, typ, x, y, md⟩ := e
  obtain ⟨sx, sy⟩ := s
  simp only [msV, ceV] at HM HW HC ⊢
  have hB := (((Below.refl w.heap.size w).alloc (Nat.le_refl _) (.cells #[.int .i64 sx, .int .i64 sy] 23)).alloc (by simp) (.cells #[.int .i64 btn, .int .i64 typ, .int .i64 x, .int .i64 y, .int .i64 md] 25)).alloc (by simp; omega) (.cells #[.int .i64 0, .int .i64 0] 23)
  have s0 := ((Blk.new w 23 #[.int .i64 sx, .int .i64 sy]).alloc (.cells #[.int .i64 btn, .int .i64 typ, .int .i64 x, .int .i64 y, .int .i64 md] 25)).alloc (.cells #[.int .i64 0, .int .i64 0] 23)
  have k0 := (Blk.new (w.alloc (.cells #[.int .i64 sx, .int .i64 sy] 23)) 25 #[.int .i64 btn, .int .i64 typ, .int .i64 x, .int .i64 y, .int .i64 md]).alloc (.cells #[.int .i64 0, .int .i64 0] 23)
  have z0 := Blk.new ((w.alloc (.cells #[.int .i64 sx, .int .i64 sy] 23)).alloc (.cells #[.int .i64 btn, .int .i64 typ, .int .i64 x, .int .i64 y, .int .i64 md] 25)) 23 #[.int .i64 0, .int .i64 0]
  rw [World.size_alloc] at k0
  rw [World.size_alloc, World.size_alloc] at z0
  obtain ⟨a0, a1⟩ := And.intro (s0.cell 0) (s0.cell 1)
  obtain ⟨b0, b1, b2, b3, b4⟩ := Blk.cells5 k0
  cases q with
  | false =>
    have HE := Lib.hid (HC.out.trans (if_neg (by simp)))
    clear HC
    go_enter Try.func11, Try.ntmps11
    go_wp2_with fail
    refine (HM.out _).mono ?_
    rintro z w1 ⟨rfl, hb⟩
    have hB1 := hB.trans (hb.mono hB.size)
    replace s0 := s0.below hb s0.lt
    replace k0 := k0.below hb k0.lt; replace z0 := z0.below hb z0.lt
    clear a0 a1 b0 b1 b2 b3 b4
    clear hb hB
    obtain ⟨a0, a1⟩ := And.intro (s0.cell 0) (s0.cell 1)
    obtain ⟨b0, b1, b2, b3, b4⟩ := Blk.cells5 k0
    obtain ⟨⟨f0, c0⟩, ⟨f1, c1⟩, g0, g1⟩ := two_set z0 (.int .i64 sx) (.int .i64 sy)
    go_wp2_with fail
    refine bodyPost_ret (v := .tuple #[.agg #[.int .i64 sx, .int .i64 sy], .bool false]) (by simp [results, Try.results11, go_sem, g0, g1]) rfl ?_
    exact ⟨ret_tl HE.out.symm, two_below hB1 (by omega) _ _⟩
  | true =>
    cases r with
    | false =>
      have HE := Lib.hid (HC.out.trans (if_neg (by simp)))
      clear HC
      go_enter Try.func11, Try.ntmps11
      go_wp2_with fail
      refine (HM.out _).mono ?_
      rintro z w1 ⟨rfl, hb⟩
      have hB1 := hB.trans (hb.mono hB.size)
      replace s0 := s0.below hb s0.lt
      replace k0 := k0.below hb k0.lt; replace z0 := z0.below hb z0.lt
      clear a0 a1 b0 b1 b2 b3 b4
      clear hb hB
      obtain ⟨a0, a1⟩ := And.intro (s0.cell 0) (s0.cell 1)
      obtain ⟨b0, b1, b2, b3, b4⟩ := Blk.cells5 k0
      go_wp2_with fail
      refine (HW.out _).mono ?_
      rintro z w2 ⟨rfl, hb⟩
      have hB2 := hB1.trans (hb.mono hB1.size)
      replace s0 := s0.below hb s0.lt
      replace k0 := k0.below hb k0.lt; replace z0 := z0.below hb z0.lt
      clear a0 a1 b0 b1 b2 b3 b4
      clear hb hB1
      obtain ⟨a0, a1⟩ := And.intro (s0.cell 0) (s0.cell 1)
      obtain ⟨b0, b1, b2, b3, b4⟩ := Blk.cells5 k0
      obtain ⟨⟨f0, c0⟩, ⟨f1, c1⟩, g0, g1⟩ := two_set z0 (.int .i64 sx) (.int .i64 sy)
      go_wp2_with fail
      refine bodyPost_ret (v := .tuple #[.agg #[.int .i64 sx, .int .i64 sy], .bool false]) (by simp [results, Try.results11, go_sem, g0, g1]) rfl ?_
      exact ⟨ret_tl HE.out.symm, two_below hB2 (by omega) _ _⟩
    | true =>
      by_cases t4 : typ = 4
      · subst t4
        by_cases hx : sx = x
        · subst hx
          by_cases hy : sy = y
          · subst hy
            have HE := Lib.hid (HC.out.trans (if_neg (by simp)))
            clear HC
            go_enter Try.func11, Try.ntmps11
            go_wp2_with fail
            refine (HM.out _).mono ?_
            rintro z w1 ⟨rfl, hb⟩
            have hB1 := hB.trans (hb.mono hB.size)
            replace s0 := s0.below hb s0.lt
            replace k0 := k0.below hb k0.lt; replace z0 := z0.below hb z0.lt
            clear a0 a1 b0 b1 b2 b3 b4
            clear hb hB
            obtain ⟨a0, a1⟩ := And.intro (s0.cell 0) (s0.cell 1)
            obtain ⟨b0, b1, b2, b3, b4⟩ := Blk.cells5 k0
            go_wp2_with fail
            refine (HW.out _).mono ?_
            rintro z w2 ⟨rfl, hb⟩
            have hB2 := hB1.trans (hb.mono hB1.size)
            replace s0 := s0.below hb s0.lt
            replace k0 := k0.below hb k0.lt; replace z0 := z0.below hb z0.lt
            clear a0 a1 b0 b1 b2 b3 b4
            clear hb hB1
            obtain ⟨a0, a1⟩ := And.intro (s0.cell 0) (s0.cell 1)
            obtain ⟨b0, b1, b2, b3, b4⟩ := Blk.cells5 k0
            obtain ⟨⟨f0, c0⟩, ⟨f1, c1⟩, g0, g1⟩ := two_set z0 (.int .i64 sx) (.int .i64 sy)
            go_wp2_with fail
            refine bodyPost_ret (v := .tuple #[.agg #[.int .i64 sx, .int .i64 sy], .bool false]) (by simp [results, Try.results11, go_sem, g0, g1]) rfl ?_
            exact ⟨ret_tl HE.out.symm, two_below hB2 (by omega) _ _⟩
          · have HE := Lib.hid (HC.out.trans (if_pos (by simp [hy])))
            have uy : (sy == y) = false := beq_false_of_ne hy
            clear hy
            clear HC
            go_enter Try.func11, Try.ntmps11
            go_wp2_with fail
            refine (HM.out _).mono ?_
            rintro z w1 ⟨rfl, hb⟩
            have hB1 := hB.trans (hb.mono hB.size)
            replace s0 := s0.below hb s0.lt
            replace k0 := k0.below hb k0.lt; replace z0 := z0.below hb z0.lt
            clear a0 a1 b0 b1 b2 b3 b4
            clear hb hB
            obtain ⟨a0, a1⟩ := And.intro (s0.cell 0) (s0.cell 1)
            obtain ⟨b0, b1, b2, b3, b4⟩ := Blk.cells5 k0
            go_wp2_with fail
            refine (HW.out _).mono ?_
            rintro z w2 ⟨rfl, hb⟩
            have hB2 := hB1.trans (hb.mono hB1.size)
            replace s0 := s0.below hb s0.lt
            replace k0 := k0.below hb k0.lt; replace z0 := z0.below hb z0.lt
            clear a0 a1 b0 b1 b2 b3 b4
            clear hb hB1
            obtain ⟨a0, a1⟩ := And.intro (s0.cell 0) (s0.cell 1)
            obtain ⟨b0, b1, b2, b3, b4⟩ := Blk.cells5 k0
            obtain ⟨⟨f0, c0⟩, ⟨f1, c1⟩, g0, g1⟩ := two_set z0 (.int .i64 sx) (.int .i64 y)
            go_wp2_with fail
            refine bodyPost_ret (v := .tuple #[.agg #[.int .i64 sx, .int .i64 y], .bool true]) (by simp [results, Try.results11, go_sem, g0, g1]) rfl ?_
            exact ⟨ret_tl HE.out.symm, two_below hB2 (by omega) _ _⟩
        · have HE := Lib.hid (HC.out.trans (if_pos (by simp [hx])))
          have ux : (sx == x) = false := beq_false_of_ne hx
          clear hx
          clear HC
          go_enter Try.func11, Try.ntmps11
          go_wp2_with fail
          refine (HM.out _).mono ?_
          rintro z w1 ⟨rfl, hb⟩
          have hB1 := hB.trans (hb.mono hB.size)
          replace s0 := s0.below hb s0.lt
          replace k0 := k0.below hb k0.lt; replace z0 := z0.below hb z0.lt
          clear a0 a1 b0 b1 b2 b3 b4
          clear hb hB
          obtain ⟨a0, a1⟩ := And.intro (s0.cell 0) (s0.cell 1)
          obtain ⟨b0, b1, b2, b3, b4⟩ := Blk.cells5 k0
          go_wp2_with fail
          refine (HW.out _).mono ?_
          rintro z w2 ⟨rfl, hb⟩
          have hB2 := hB1.trans (hb.mono hB1.size)
          replace s0 := s0.below hb s0.lt
          replace k0 := k0.below hb k0.lt; replace z0 := z0.below hb z0.lt
          clear a0 a1 b0 b1 b2 b3 b4
          clear hb hB1
          obtain ⟨a0, a1⟩ := And.intro (s0.cell 0) (s0.cell 1)
          obtain ⟨b0, b1, b2, b3, b4⟩ := Blk.cells5 k0
          obtain ⟨⟨f0, c0⟩, ⟨f1, c1⟩, g0, g1⟩ := two_set z0 (.int .i64 x) (.int .i64 y)
          go_wp2_with fail
          refine bodyPost_ret (v := .tuple #[.agg #[.int .i64 x, .int .i64 y], .bool true]) (by simp [results, Try.results11, go_sem, g0, g1]) rfl ?_
          exact ⟨ret_tl HE.out.symm, two_below hB2 (by omega) _ _⟩
      · have HE := Lib.hid (HC.out.trans (if_pos (by simp [t4])))
        have u4 : (typ == 4) = false := beq_false_of_ne t4
        clear t4
        clear HC
        go_enter Try.func11, Try.ntmps11
        go_wp2_with fail
        refine (HM.out _).mono ?_
        rintro z w1 ⟨rfl, hb⟩
        have hB1 := hB.trans (hb.mono hB.size)
        replace s0 := s0.below hb s0.lt
        replace k0 := k0.below hb k0.lt; replace z0 := z0.below hb z0.lt
        clear a0 a1 b0 b1 b2 b3 b4
        clear hb hB
        obtain ⟨a0, a1⟩ := And.intro (s0.cell 0) (s0.cell 1)
        obtain ⟨b0, b1, b2, b3, b4⟩ := Blk.cells5 k0
        go_wp2_with fail
        refine (HW.out _).mono ?_
        rintro z w2 ⟨rfl, hb⟩
        have hB2 := hB1.trans (hb.mono hB1.size)
        replace s0 := s0.below hb s0.lt
        replace k0 := k0.below hb k0.lt; replace z0 := z0.below hb z0.lt
        clear a0 a1 b0 b1 b2 b3 b4
        clear hb hB1
        obtain ⟨a0, a1⟩ := And.intro (s0.cell 0) (s0.cell 1)
        obtain ⟨b0, b1, b2, b3, b4⟩ := Blk.cells5 k0
        obtain ⟨⟨f0, c0⟩, ⟨f1, c1⟩, g0, g1⟩ := two_set z0 (.int .i64 x) (.int .i64 y)
        go_wp2_with fail
        refine bodyPost_ret (v := .tuple #[.agg #[.int .i64 x, .int .i64 y], .bool true]) (by simp [results, Try.results11, go_sem, g0, g1]) rfl ?_
        exact ⟨ret_tl HE.out.symm, two_below hB2 (by omega) _ _⟩
end Go.Proofs.Ytbdpjhlfaelgpaa
