/-
  Layer 5: the landed parser: in a head; a byte taken; New, Idle.
-/
import Derived.Test.YtdpdgdidfikphaaDoorHpH
namespace Go.Proofs.YtdpdgdidfikphaaDoor
open Go.RowKit

set_option maxRecDepth 100000 in
set_option maxHeartbeats 8000000 in
theorem head_any {w : World} {S : Nat → Prop} {g base : Nat} {b : PB} {vp vd : Value} {r : Nat → Value} (h : BoxP w S g base b vp vd r) (c : UInt8) (htab : ∀ w', Below base w w' → Tab w') :
    Calls Tryd.prog 43 #[.pointer (some ⟨g, 0, none⟩), .int .u8 (c.toNat : Int)] w (MvE S g base (headP b c).1 (.bool (headP b c).2) w) := by
  have HTab := Lib.hid htab
  clear htab
  by_cases h1 : c.toNat = 27
  · have E := Lib.hid (show headP b c = (pbE, false) from if_pos h1)
    rw [h1]
    clear h1
    go_enter Tryd.func43, Tryd.ntmps43
    go_wp2_with fail
    refine (begin_any w g _ h.box rfl).mono ?_
    rintro e w1 ⟨rfl, hb1, hg1⟩
    go_wp2_with fail
    go_ret
    rw [E.out]
    exact MvE.bare hb1 h.sg (h.lo g h.sg) rfl rfl fitE hg1
  have t1 : ((c.toNat : Int) == 27) = false := beq_false_of_ne (by omega)
  by_cases h2 : noneC c
  · have E := Lib.hid (show headP b c = (b, false) by unfold headP; rw [if_neg h1, if_pos h2])
    have HN := Lib.hid (show decide (noneC c) = true from decide_eq_true h2)
    clear h1 h2
    go_enter Tryd.func43, Tryd.ntmps43
    go_wp2_with fail
    refine (nothing_any c _ true HN.out).mono ?_
    rintro e w1 ⟨rfl, rfl⟩
    go_wp2_with fail
    go_ret
    rw [E.out]
    exact MvE.same ⟨_, _, _, h⟩
  have HN := Lib.hid (show decide (noneC c) = false from decide_eq_false h2)
  by_cases h3 : 127 < c.toNat
  · have E := Lib.hid (show headP b c = (pb0, false) by unfold headP; rw [if_neg h1, if_neg h2, if_pos h3])
    clear h1 h2
    go_enter Tryd.func43, Tryd.ntmps43
    go_wp2_with fail
    refine (nothing_any c _ false HN.out).mono ?_
    rintro e w1 ⟨rfl, rfl⟩
    go_wp2_with fail
    refine (drop_any w g _ h.box rfl).mono ?_
    rintro e w1 ⟨rfl, hb1, hg1⟩
    go_wp2_with fail
    go_ret
    rw [E.out]
    exact MvE.bare hb1 h.sg (h.lo g h.sg) rfl rfl fit0 hg1
  have d3 : c.toNat ≤ 127 := by omega
  have t3 : decide ((127 : Int) < (c.toNat : Int)) = false := by simp; omega
  by_cases h4 : c.toNat < 48
  · have E := Lib.hid (show headP b c = (interP b c, false) by unfold headP; rw [if_neg h1, if_neg h2, if_neg h3, if_pos h4])
    clear h1 h2 h3
    go_enter Tryd.func43, Tryd.ntmps43
    go_wp2_with fail
    refine (nothing_any c _ false HN.out).mono ?_
    rintro e w1 ⟨rfl, rfl⟩
    go_wp2_with fail
    refine (inter_any h c (by omega)).mono ?_
    rintro e w1 ⟨rfl, hM⟩
    go_wp2_with fail
    go_ret
    rw [E.out]
    exact ⟨rfl, hM⟩
  have t4 : decide ((c.toNat : Int) < 48) = false := by simp; omega
  by_cases h5 : c.toNat < 60
  · have E := Lib.hid (show headP b c = (paramP b c, false) by unfold headP; rw [if_neg h1, if_neg h2, if_neg h3, if_neg h4, if_pos h5])
    have d4 : 48 ≤ c.toNat := by omega
    have t5 : decide ((c.toNat : Int) < 60) = true := by simp; omega
    clear h1 h2 h3 h4
    go_enter Tryd.func43, Tryd.ntmps43
    go_wp2_with fail
    refine (nothing_any c _ false HN.out).mono ?_
    rintro e w1 ⟨rfl, rfl⟩
    go_wp2_with fail
    refine (param_any h c d4 h5 HTab.out).mono ?_
    rintro e w1 ⟨rfl, hM⟩
    go_wp2_with fail
    go_ret
    rw [E.out]
    exact ⟨rfl, hM⟩
  have t5 : decide ((c.toNat : Int) < 60) = false := by simp; omega
  by_cases h6 : c.toNat < 64
  · have E := Lib.hid (show headP b c = (privP b c, false) by unfold headP; rw [if_neg h1, if_neg h2, if_neg h3, if_neg h4, if_neg h5, if_pos h6])
    have t6 : decide ((c.toNat : Int) < 64) = true := by simp; omega
    clear h1 h2 h3 h4 h5 h6
    go_enter Tryd.func43, Tryd.ntmps43
    go_wp2_with fail
    refine (nothing_any c _ false HN.out).mono ?_
    rintro e w1 ⟨rfl, rfl⟩
    go_wp2_with fail
    refine (private_any h c).mono ?_
    rintro e w1 ⟨rfl, hM⟩
    go_wp2_with fail
    go_ret
    rw [E.out]
    exact ⟨rfl, hM⟩
  have t6 : decide ((c.toNat : Int) < 64) = false := by simp; omega
  obtain ⟨q, hq⟩ : ∃ q, decide (b.kind = 1) = q := ⟨_, rfl⟩
  have E := Lib.hid (show headP b c = ({ b with final := c, how := 3 }, q) by unfold headP; rw [if_neg h1, if_neg h2, if_neg h3, if_neg h4, if_neg h5, if_neg h6, hq])
  have tq : (b.kind == 1) = q := by rw [← hq]; rfl
  have c0 := h.box.cell 0
  have c1 : w.cell? ⟨g, 1, none⟩ = some (.int .i64 b.kind) := h.box.cell 1
  have c5 : w.cell? ⟨g, 5, none⟩ = some (.int .u8 (b.final.toNat : Int)) := h.box.cell 5
  have z0 := h.box.frozen 0
  have z5 := h.box.frozen 5
  have P1 := BoxP.put h 5 (.int .u8 (c.toNat : Int)) (b' := { b with final := c }) rfl rfl rfl ⟨h.fit.how, h.fit.np, h.fit.nq, h.fit.ni, h.fit.nd⟩
  have P2 := Lib.hid (BoxP.put P1 0 (fnV (fnOf 3)) (b' := { b with final := c, how := 3 }) rfl rfl rfl ⟨(by show (3 : Nat) ≤ 5; decide), h.fit.np, h.fit.nq, h.fit.ni, h.fit.nd⟩)
  have F2 := Lib.hid ((h.frS 5 (.int .u8 (c.toNat : Int))).trans (P1.frS 0 (fnV (fnOf 3))) (fun _ h => .inl h))
  clear h1 h2 h3 h4 h5 h6 hq P1
  go_enter Tryd.func43, Tryd.ntmps43
  go_wp2_with fail
  refine (nothing_any c _ false HN.out).mono ?_
  rintro e w1 ⟨rfl, rfl⟩
  go_wp2_with fail
  go_ret
  rw [E.out]
  exact MvE.put P2.out F2.out

/-- A state's method. -/
theorem next_any {w : World} {S : Nat → Prop} {g base : Nat} {b : PB} {vp vd : Value} {r : Nat → Value} (h : BoxP w S g base b vp vd r) (c : UInt8) (htab : ∀ w', Below base w w' → Tab w') (f : Nat) (hf : fnOf b.how = f) :
    Calls Tryd.prog f #[.pointer (some ⟨g, 0, none⟩), .int .u8 (c.toNat : Int)] w (MvE S g base (nextP b c).1 (.bool (nextP b c).2) w) := by
  subst hf
  unfold nextP fnOf
  split
  · exact idle_any h c
  split
  · exact escaped_any h c
  split
  · exact head_any h c htab
  split
  · exact data_any h c
  split
  · exact string_any h c
  · exact closing_any h c
set_option maxRecDepth 100000 in
set_option maxHeartbeats 8000000 in
theorem btake_any {w : World} {S : Nat → Prop} {g base : Nat} {b : PB} {vp vd : Value} {r : Nat → Value} (h : BoxP w S g base b vp vd r) (c : UInt8) (htab : ∀ w', Below base w w' → Tab w') :
    Calls Tryd.prog 15 #[.pointer (some ⟨g, 0, none⟩), .int .u8 (c.toNat : Int)] w (MvE S g base (takeP b c).1 (.bool (takeP b c).2) w) := by
  have HTab := Lib.hid htab
  clear htab
  by_cases h1 : c.toNat = 24 ∨ c.toNat = 26
  · have E := Lib.hid (show takeP b c = (pb0, false) from if_pos h1)
    rcases h1 with h1 | h1
    all_goals
      rw [h1]
      clear h1
      go_enter Tryd.func15, Tryd.ntmps15
      go_wp2_with fail
      refine (drop_any w g _ h.box rfl).mono ?_
      rintro e w1 ⟨rfl, hb1, hg1⟩
      go_wp2_with fail
      go_ret
      rw [E.out]
      exact MvE.bare hb1 h.sg (h.lo g h.sg) rfl rfl fit0 hg1
  have E := Lib.hid (show takeP b c = nextP b c from if_neg h1)
  have t1 : ((c.toNat : Int) == 24) = false := beq_false_of_ne (by omega)
  have t2 : ((c.toNat : Int) == 26) = false := beq_false_of_ne (by omega)
  have c0 : w.cell? ⟨g, 0, none⟩ = some (fnV (fnOf b.how)) := h.box.cell 0
  clear h1
  have key : fnOf b.how = 20 ∨ fnOf b.how = 34 ∨ fnOf b.how = 43 ∨ fnOf b.how = 44 ∨ fnOf b.how = 45 ∨ fnOf b.how = 49 := by
    unfold fnOf
    (repeat' split) <;> simp
  rcases key with k | k | k | k | k | k
  all_goals
    have HK := Lib.hid k
    rw [k] at c0
    unfold fnV at c0
    clear k
    go_enter Tryd.func15, Tryd.ntmps15
    go_wp2_with fail
    refine (next_any h c HTab.out _ HK.out).mono ?_
    rintro e w1 ⟨rfl, hM⟩
    go_wp2_with fail
    go_ret
    rw [E.out]
    exact ⟨rfl, hM⟩
set_option maxRecDepth 100000 in
set_option maxHeartbeats 4000000 in
theorem bidle_any {w : World} {S : Nat → Prop} {g base : Nat} {b : PB} {vp vd : Value} {r : Nat → Value} (h : BoxP w S g base b vp vd r) :
    Calls Tryd.prog 11 #[.pointer (some ⟨g, 0, none⟩)] w fun e w' => e = .returned (.bool (decide (b.kind = 0))) ∧ w = w' := by
  have c1 : w.cell? ⟨g, 1, none⟩ = some (.int .i64 b.kind) := h.box.cell 1
  obtain ⟨q, hq⟩ : ∃ q, decide (b.kind = 0) = q := ⟨_, rfl⟩
  have tq : (b.kind == 0) = q := by rw [← hq]; rfl
  rw [hq]
  clear hq
  go_enter Tryd.func11, Tryd.ntmps11
  go_wp2_with fail
  go_ret
  exact ⟨rfl, rfl⟩
set_option maxRecDepth 100000 in
set_option maxHeartbeats 4000000 in
theorem bnew_any (w : World) (base : Nat) (hb : base ≤ w.heap.size) :
    Calls Tryd.prog 8 #[] w fun e w' => ∃ g, e = .returned (.pointer (some ⟨g, 0, none⟩)) ∧ BoxP w' (fun k => k = g) g base pb0 (.slice none 0 0) (.slice none 0 0) (fun _ => .slice none 0 0) ∧ w.heap.size ≤ g ∧ Below w.heap.size w w' := by
  go_enter Tryd.func8, Tryd.ntmps8
  go_wp2_with fail
  refine (drop_any _ w.heap.size _ (Blk.new w 42 _) rfl).mono ?_
  rintro e w1 ⟨rfl, hb1, hg1⟩
  have hf1 := (Fr.of_grown hg1).below (B := w.heap.size) (by simp) (fun k hk => by injection hk with hk; omega)
  go_wp2_with fail
  go_ret
  exact ⟨_, rfl, BoxP.bare hb1 hb rfl rfl fit0, Nat.le_refl _, ((Below.refl _ w).alloc (Nat.le_refl _) _).trans hf1⟩
end Go.Proofs.YtdpdgdidfikphaaDoor
