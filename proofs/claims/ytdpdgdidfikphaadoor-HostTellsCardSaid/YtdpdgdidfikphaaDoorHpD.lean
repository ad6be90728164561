/-
  Layer 5: the landed parser's states: idle, escaped, inString, closing.
-/
import Derived.Test.YtdpdgdidfikphaaDoorHpC
namespace Go.Proofs.YtdpdgdidfikphaaDoor
open Go.RowKit

theorem MvE.val {S : Nat → Prop} {g base : Nat} {b : PB} {u v : Value} {w w' : World} (h : MvE S g base b u w (.returned u) w') : MvE S g base b v w (.returned v) w' := ⟨rfl, h.2⟩
/-- One method behind another. -/
theorem MvE.after {S S1 : Nat → Prop} {g base : Nat} {b : PB} {v : Value} {w w1 : World} {e : Ending} {w2 : World} (hw : Wid w S S1) (hf : Fr w w1 S) (h : MvE S1 g base b v w1 e w2) : MvE S g base b v w e w2 := by
  obtain ⟨he, S', hb, hw', hf'⟩ := h
  exact ⟨he, S', hb, hw.trans hw' hf.size, hf.trans hf' hw⟩

set_option maxRecDepth 100000 in
set_option maxHeartbeats 4000000 in
theorem idle_any {w : World} {S : Nat → Prop} {g base : Nat} {b : PB} {vp vd : Value} {r : Nat → Value} (h : BoxP w S g base b vp vd r) (c : UInt8) :
    Calls Tryd.prog 20 #[.pointer (some ⟨g, 0, none⟩), .int .u8 (c.toNat : Int)] w (MvE S g base (idleP b c).1 (.bool (idleP b c).2) w) := by
  by_cases h1 : c.toNat = 27
  · have E := Lib.hid (show idleP b c = (pbE, false) from if_pos h1)
    rw [h1]
    clear h1
    go_enter Tryd.func20, Tryd.ntmps20
    go_wp2_with fail
    refine (begin_any w g _ h.box rfl).mono ?_
    rintro e w1 ⟨rfl, hb1, hg1⟩
    go_wp2_with fail
    go_ret
    rw [E.out]
    exact MvE.bare hb1 h.sg (h.lo g h.sg) rfl rfl fitE hg1
  · have E := Lib.hid (show idleP b c = (b, false) from if_neg h1)
    have t1 : ((c.toNat : Int) == 27) = false := beq_false_of_ne (by omega)
    clear h1
    go_enter Tryd.func20, Tryd.ntmps20
    go_wp2_with fail
    go_ret
    rw [E.out]
    exact MvE.same ⟨_, _, _, h⟩
set_option maxRecDepth 100000 in
set_option maxHeartbeats 4000000 in
theorem string_any {w : World} {S : Nat → Prop} {g base : Nat} {b : PB} {vp vd : Value} {r : Nat → Value} (h : BoxP w S g base b vp vd r) (c : UInt8) :
    Calls Tryd.prog 45 #[.pointer (some ⟨g, 0, none⟩), .int .u8 (c.toNat : Int)] w (MvE S g base (strP b c).1 (.bool (strP b c).2) w) := by
  have hz0 := h.box.frozen 0
  have c0 := h.box.cell 0
  by_cases h1 : c.toNat = 27
  · have E := Lib.hid (show strP b c = ({ b with how := 5 }, false) from if_pos h1)
    rw [h1]
    clear h1
    have hP := Lib.hid (BoxP.put h 0 (fnV (fnOf 5)) (b' := { b with how := 5 }) rfl rfl rfl ⟨Nat.le_refl _, h.fit.np, h.fit.nq, h.fit.ni, h.fit.nd⟩)
    go_enter Tryd.func45, Tryd.ntmps45
    go_wp2_with fail
    go_ret
    rw [E.out]
    exact MvE.put hP.out (h.frS 0 _)
  · have E := Lib.hid (show strP b c = (b, false) from if_neg h1)
    have t1 : ((c.toNat : Int) == 27) = false := beq_false_of_ne (by omega)
    clear h1
    go_enter Tryd.func45, Tryd.ntmps45
    go_wp2_with fail
    go_ret
    rw [E.out]
    exact MvE.same ⟨_, _, _, h⟩
set_option maxRecDepth 100000 in
set_option maxHeartbeats 8000000 in
theorem escaped_any {w : World} {S : Nat → Prop} {g base : Nat} {b : PB} {vp vd : Value} {r : Nat → Value} (h : BoxP w S g base b vp vd r) (c : UInt8) :
    Calls Tryd.prog 34 #[.pointer (some ⟨g, 0, none⟩), .int .u8 (c.toNat : Int)] w (MvE S g base (escP b c).1 (.bool (escP b c).2) w) := by
  by_cases h1 : c.toNat = 27
  · have E := Lib.hid (show escP b c = (pbE, false) from if_pos h1)
    rw [h1]
    clear h1
    go_enter Tryd.func34, Tryd.ntmps34
    go_wp2_with fail
    refine (begin_any w g _ h.box rfl).mono ?_
    rintro e w1 ⟨rfl, hb1, hg1⟩
    go_wp2_with fail
    go_ret
    rw [E.out]
    exact MvE.bare hb1 h.sg (h.lo g h.sg) rfl rfl fitE hg1
  have t1 : ((c.toNat : Int) == 27) = false := beq_false_of_ne (by omega)
  by_cases h2 : noneC c
  · have E := Lib.hid (show escP b c = (b, false) by unfold escP; rw [if_neg h1, if_pos h2])
    have HN := Lib.hid (show decide (noneC c) = true from decide_eq_true h2)
    clear h1 h2
    go_enter Tryd.func34, Tryd.ntmps34
    go_wp2_with fail
    refine (nothing_any c _ true HN.out).mono ?_
    rintro e w1 ⟨rfl, rfl⟩
    go_wp2_with fail
    go_ret
    rw [E.out]
    exact MvE.same ⟨_, _, _, h⟩
  have HN := Lib.hid (show decide (noneC c) = false from decide_eq_false h2)
  by_cases h3 : 127 < c.toNat
  · have E := Lib.hid (show escP b c = (pb0, false) by unfold escP; rw [if_neg h1, if_neg h2, if_pos h3])
    clear h1 h2
    go_enter Tryd.func34, Tryd.ntmps34
    go_wp2_with fail
    refine (nothing_any c _ false HN.out).mono ?_
    rintro e w1 ⟨rfl, rfl⟩
    go_wp2_with fail
    refine (drop_any w g _ h.box rfl).mono ?_
    rintro e w1 ⟨rfl, hb1, hg1⟩
    go_wp2_with fail
    go_ret
    rw [E.out]
    exact MvE.bare hb1 h.sg (h.lo g h.sg) rfl rfl fit0 hg1
  by_cases h4 : c.toNat < 48
  · have E := Lib.hid (show escP b c = (interP b c, false) by unfold escP; rw [if_neg h1, if_neg h2, if_neg h3, if_pos h4])
    have H3 := Lib.hid h3
    have d3 : c.toNat ≤ 127 := by omega
    clear h1 h2 h3
    go_enter Tryd.func34, Tryd.ntmps34
    go_wp2_with fail
    refine (nothing_any c _ false HN.out).mono ?_
    rintro e w1 ⟨rfl, rfl⟩
    go_wp2_with fail
    refine (inter_any h c (by omega)).mono ?_
    rintro e w1 ⟨rfl, hM⟩
    go_wp2_with fail
    go_ret
    rw [E.out]
    exact ⟨rfl, hM⟩
  have d3 : c.toNat ≤ 127 := by omega
  have c4 := h.box.cell 4
  have c5 := h.box.cell 5
  have hz5 := h.box.frozen 5
  have hc4 : (parC b vp vd)[4]? = some (.string ⟨b.inter.toArray⟩) := rfl
  rw [hc4] at c4
  have hc5 : (parC b vp vd)[5]? = some (.int .u8 (b.final.toNat : Int)) := rfl
  rw [hc5] at c5
  clear hc4 hc5
  cases h5 : b.inter with
  | nil =>
    have E := Lib.hid (show escP b c = chooseP b c by unfold escP; rw [if_neg h1, if_neg h2, if_neg h3, if_neg h4, if_pos h5])
    rw [h5] at c4
    clear h1 h2 h3 h5
    go_enter Tryd.func34, Tryd.ntmps34
    go_wp2_with fail
    refine (nothing_any c _ false HN.out).mono ?_
    rintro e w1 ⟨rfl, rfl⟩
    go_wp2_with fail
    refine (choose_any h c).mono ?_
    rintro e w1 ⟨rfl, hM⟩
    go_wp2_with fail
    go_ret
    rw [E.out]
    exact ⟨rfl, hM⟩
  | cons x it =>
    have E := Lib.hid (show escP b c = ({ b with final := c }, true) by unfold escP; rw [if_neg h1, if_neg h2, if_neg h3, if_neg h4, if_neg (by rw [h5]; simp)])
    have hP := Lib.hid (BoxP.put h 5 (.int .u8 (c.toNat : Int)) (b' := { b with final := c }) rfl rfl rfl ⟨h.fit.how, h.fit.np, h.fit.nq, h.fit.ni, h.fit.nd⟩)
    rw [h5] at c4
    clear h1 h2 h3 h5
    go_enter Tryd.func34, Tryd.ntmps34
    go_wp2_with fail
    refine (nothing_any c _ false HN.out).mono ?_
    rintro e w1 ⟨rfl, rfl⟩
    go_wp2_with fail
    go_ret
    rw [E.out]
    exact MvE.put hP.out (h.frS 5 _)
set_option maxRecDepth 100000 in
set_option maxHeartbeats 4000000 in
theorem closing_any {w : World} {S : Nat → Prop} {g base : Nat} {b : PB} {vp vd : Value} {r : Nat → Value} (h : BoxP w S g base b vp vd r) (c : UInt8) :
    Calls Tryd.prog 49 #[.pointer (some ⟨g, 0, none⟩), .int .u8 (c.toNat : Int)] w (MvE S g base (closeP b c).1 (.bool (closeP b c).2) w) := by
  by_cases h1 : c.toNat = 92
  · have E := Lib.hid (show closeP b c = (b, true) from if_pos h1)
    rw [h1]
    clear h1
    go_enter Tryd.func49, Tryd.ntmps49
    go_wp2_with fail
    go_ret
    rw [E.out]
    exact MvE.same ⟨_, _, _, h⟩
  · have E := Lib.hid (show closeP b c = escP pbE c from if_neg h1)
    have t1 : ((c.toNat : Int) == 92) = false := beq_false_of_ne (by omega)
    clear h1
    go_enter Tryd.func49, Tryd.ntmps49
    go_wp2_with fail
    refine (begin_any w g _ h.box rfl).mono ?_
    rintro e w1 ⟨rfl, hb1, hg1⟩
    have h1 := BoxP.bare (b := pbE) hb1 (h.lo g h.sg) rfl rfl fitE
    have hf1 : Fr w w1 S := (Fr.of_grown hg1).mono fun k hk => by injection hk with hk; rw [← hk]; exact h.sg
    have hw1 : Wid w S (fun k => k = g) := fun k hk => .inl (by rw [hk]; exact h.sg)
    go_wp2_with fail
    refine (escaped_any h1 c).mono ?_
    rintro e w2 ⟨rfl, hM⟩
    go_wp2_with fail
    go_ret
    rw [E.out]
    exact MvE.after hw1 hf1 ⟨rfl, hM⟩
end Go.Proofs.YtdpdgdidfikphaaDoor
