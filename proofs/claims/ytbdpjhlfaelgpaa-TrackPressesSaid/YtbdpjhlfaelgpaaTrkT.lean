/-
  Layer 15, the landed track, walked: Tell; and all that the laws need of the program.
-/
import Derived.Test.YtbdpjhlfaelgpaaTrkK
import Derived.Test.YtbdpjhlfaelgpaaTrkC
namespace Go.Proofs.Ytbdpjhlfaelgpaa
open Go.RowKit Go.Maps

theorem own_below15 {w w' : World} {K : TypeId} {b n : Nat} {D : DataW Value} (h : w.ownsMap Try.prog K hel b n D) (hb : Below w.heap.size w w') : w'.ownsMap Try.prog K hel b n D := by
  have hlt := h.lt
  obtain ⟨es, clock, h1, h2⟩ := h
  exact ⟨es, clock, (hb.block b hlt).trans h1, h2⟩
def TellE (s : Ce) (b : Bool) (w : World) (e : Ending) (w' : World) : Prop := e = .returned (.tuple #[.agg #[.int .i64 s.x, .int .i64 s.y], .bool b]) ∧ Below w.heap.size w w'
set_option maxRecDepth 100000 in
set_option maxHeartbeats 16000000 in
theorem ttell_unknown (mode : Int) (hm : inM mode) (hk : ¬ (mode = 9 ∨ mode = 1000 ∨ mode = 1002 ∨ mode = 1003)) (sx sy btn typ x y md : Int) (w : World) : Calls Try.prog 10 #[.int .i64 mode, .agg #[.int .i64 sx, .int .i64 sy], .agg #[.int .i64 btn, .int .i64 typ, .int .i64 x, .int .i64 y, .int .i64 md]] w (TellE ⟨sx, sy⟩ false w) := by
  have ks : Blk (((w.alloc (.cells #[.int .i64 sx, .int .i64 sy] 27)).alloc (.cells #[.int .i64 btn, .int .i64 typ, .int .i64 x, .int .i64 y, .int .i64 md] 25)).alloc (.cells #[.int .i64 0, .int .i64 0] 27)) w.heap.size 27 #[.int .i64 sx, .int .i64 sy] := ((Blk.new w _ _).alloc _).alloc _
  have ke : Blk (((w.alloc (.cells #[.int .i64 sx, .int .i64 sy] 27)).alloc (.cells #[.int .i64 btn, .int .i64 typ, .int .i64 x, .int .i64 y, .int .i64 md] 25)).alloc (.cells #[.int .i64 0, .int .i64 0] 27)) (w.heap.size + 1) 25 #[.int .i64 btn, .int .i64 typ, .int .i64 x, .int .i64 y, .int .i64 md] := by
    have := (Blk.new (w.alloc (.cells #[.int .i64 sx, .int .i64 sy] 27)) 25 #[.int .i64 btn, .int .i64 typ, .int .i64 x, .int .i64 y, .int .i64 md]).alloc (.cells #[.int .i64 0, .int .i64 0] 27)
    rwa [World.size_alloc] at this
  have kr : Blk (((w.alloc (.cells #[.int .i64 sx, .int .i64 sy] 27)).alloc (.cells #[.int .i64 btn, .int .i64 typ, .int .i64 x, .int .i64 y, .int .i64 md] 25)).alloc (.cells #[.int .i64 0, .int .i64 0] 27)) (w.heap.size + 1 + 1) 27 #[.int .i64 0, .int .i64 0] := by
    have := Blk.new ((w.alloc (.cells #[.int .i64 sx, .int .i64 sy] 27)).alloc (.cells #[.int .i64 btn, .int .i64 typ, .int .i64 x, .int .i64 y, .int .i64 md] 25)) 27 #[.int .i64 0, .int .i64 0]
    rwa [World.size_alloc, World.size_alloc] at this
  have hB : Below w.heap.size w (((w.alloc (.cells #[.int .i64 sx, .int .i64 sy] 27)).alloc (.cells #[.int .i64 btn, .int .i64 typ, .int .i64 x, .int .i64 y, .int .i64 md] 25)).alloc (.cells #[.int .i64 0, .int .i64 0] 27)) := (((Below.refl _ w).alloc (Nat.le_refl _) _).alloc (by simp) _).alloc (by simp; omega) _
  obtain ⟨W, hW⟩ : ∃ W, (((w.alloc (.cells #[.int .i64 sx, .int .i64 sy] 27)).alloc (.cells #[.int .i64 btn, .int .i64 typ, .int .i64 x, .int .i64 y, .int .i64 md] 25)).alloc (.cells #[.int .i64 0, .int .i64 0] 27)) = W := ⟨_, rfl⟩
  rw [hW] at ks ke kr hB
  go_enter Try.func10, Try.ntmps10
  go_wp2_with fail
  refine (tmodes_any W).mono ?_
  rintro e w1 ⟨c, b, n, rfl, hc, hown, hb1⟩
  have hlk := tmodes_look (n := mode) (v := .nilFunc) hown hm (if_neg hk) (decide_eq_false hk)
  have hB1 := hB.trans (hb1.mono hB.size)
  have ks1 := ks.below hb1 ks.lt
  have ke1 := ke.below hb1 ke.lt
  have kr1 := kr.below hb1 kr.lt
  clear ks ke kr hB hb1 hown hW
  obtain ⟨s0, s1⟩ := And.intro (ks1.cell 0) (ks1.cell 1)
  obtain ⟨e0, e1, e2, e3, e4⟩ := Blk.cells5 ke1
  obtain ⟨q0, q1⟩ := And.intro (kr1.cell 0) (kr1.cell 1)
  have z0 := kr1.frozen 0
  have z1 := kr1.frozen 1
  have yE := (kr1.set 0 (.int .i64 sx)).set 1 (.int .i64 sy)
  have p0 := yE.cell 0
  have p1 := yE.cell 1
  have hBE := (hB1.setCell (p := ⟨w.heap.size + 1 + 1, 0, none⟩) (by show w.heap.size ≤ w.heap.size + 1 + 1; omega) (.int .i64 sx)).setCell (p := ⟨w.heap.size + 1 + 1, 1, none⟩) (by show w.heap.size ≤ w.heap.size + 1 + 1; omega) (.int .i64 sy)
  clear yE
  go_wp2_with fail
  refine bodyPost_ret (v := .tuple #[.agg #[.int .i64 sx, .int .i64 sy], .bool false]) (by simp [results, Try.results10, go_sem, p0, p1]) rfl ⟨rfl, hBE⟩
set_option maxRecDepth 100000 in
set_option maxHeartbeats 16000000 in
theorem ttell_m9 (sx sy btn typ x y md : Int) (q p mo : Bool) (hq : ∀ W, Calls Try.prog 12 #[.agg #[.int .i64 btn, .int .i64 typ, .int .i64 x, .int .i64 y, .int .i64 md]] W fun e w' => e = .returned (.bool q) ∧ Below W.heap.size W w') (hp : ((typ == 1) && decide (btn ≤ 3)) = p) (hmo : (decide (typ = 4) && decide (x = sx ∧ y = sy)) = mo) (u v : Int) (r : Bool) (hu : (if (q && p && !mo) = true then ((⟨x, y⟩, true) : Ce × Bool) else (⟨sx, sy⟩, false)) = (⟨u, v⟩, r)) (w : World) : Calls Try.prog 10 #[.int .i64 9, .agg #[.int .i64 sx, .int .i64 sy], .agg #[.int .i64 btn, .int .i64 typ, .int .i64 x, .int .i64 y, .int .i64 md]] w (TellE ⟨u, v⟩ r w) := by
  have ks : Blk (((w.alloc (.cells #[.int .i64 sx, .int .i64 sy] 27)).alloc (.cells #[.int .i64 btn, .int .i64 typ, .int .i64 x, .int .i64 y, .int .i64 md] 25)).alloc (.cells #[.int .i64 0, .int .i64 0] 27)) w.heap.size 27 #[.int .i64 sx, .int .i64 sy] := ((Blk.new w _ _).alloc _).alloc _
  have ke : Blk (((w.alloc (.cells #[.int .i64 sx, .int .i64 sy] 27)).alloc (.cells #[.int .i64 btn, .int .i64 typ, .int .i64 x, .int .i64 y, .int .i64 md] 25)).alloc (.cells #[.int .i64 0, .int .i64 0] 27)) (w.heap.size + 1) 25 #[.int .i64 btn, .int .i64 typ, .int .i64 x, .int .i64 y, .int .i64 md] := by
    have := (Blk.new (w.alloc (.cells #[.int .i64 sx, .int .i64 sy] 27)) 25 #[.int .i64 btn, .int .i64 typ, .int .i64 x, .int .i64 y, .int .i64 md]).alloc (.cells #[.int .i64 0, .int .i64 0] 27)
    rwa [World.size_alloc] at this
  have kr : Blk (((w.alloc (.cells #[.int .i64 sx, .int .i64 sy] 27)).alloc (.cells #[.int .i64 btn, .int .i64 typ, .int .i64 x, .int .i64 y, .int .i64 md] 25)).alloc (.cells #[.int .i64 0, .int .i64 0] 27)) (w.heap.size + 1 + 1) 27 #[.int .i64 0, .int .i64 0] := by
    have := Blk.new ((w.alloc (.cells #[.int .i64 sx, .int .i64 sy] 27)).alloc (.cells #[.int .i64 btn, .int .i64 typ, .int .i64 x, .int .i64 y, .int .i64 md] 25)) 27 #[.int .i64 0, .int .i64 0]
    rwa [World.size_alloc, World.size_alloc] at this
  have hB : Below w.heap.size w (((w.alloc (.cells #[.int .i64 sx, .int .i64 sy] 27)).alloc (.cells #[.int .i64 btn, .int .i64 typ, .int .i64 x, .int .i64 y, .int .i64 md] 25)).alloc (.cells #[.int .i64 0, .int .i64 0] 27)) := (((Below.refl _ w).alloc (Nat.le_refl _) _).alloc (by simp) _).alloc (by simp; omega) _
  have HQ := Lib.hid hq
  have HU := Lib.hid hu
  have HO := Lib.hid hmo
  clear hq hu hmo
  have HP : Hid (∀ W, Calls Try.prog 20 #[.agg #[.int .i64 btn, .int .i64 typ, .int .i64 x, .int .i64 y, .int .i64 md]] W fun e w' => e = .returned (.bool p) ∧ Below W.heap.size W w') := Lib.hid fun W => tnine_any btn typ x y md p hp W
  clear hp
  obtain ⟨W, hW⟩ : ∃ W, (((w.alloc (.cells #[.int .i64 sx, .int .i64 sy] 27)).alloc (.cells #[.int .i64 btn, .int .i64 typ, .int .i64 x, .int .i64 y, .int .i64 md] 25)).alloc (.cells #[.int .i64 0, .int .i64 0] 27)) = W := ⟨_, rfl⟩
  rw [hW] at ks ke kr hB
  go_enter Try.func10, Try.ntmps10
  go_wp2_with fail
  refine (tmodes_any W).mono ?_
  rintro e w1 ⟨c, b, n, rfl, hc, hown, hb1⟩
  have hlk := tmodes_look (n := 9) (v := .func (.func 20) #[] #[]) hown ⟨by decide, by decide⟩ (by rw [if_pos (by decide)]; rfl) (decide_eq_true (by decide))
  have hB1 := hB.trans (hb1.mono hB.size)
  have ks1 := ks.below hb1 ks.lt
  have ke1 := ke.below hb1 ke.lt
  have kr1 := kr.below hb1 kr.lt
  clear ks ke kr hB hb1 hown hW
  obtain ⟨s0, s1⟩ := And.intro (ks1.cell 0) (ks1.cell 1)
  obtain ⟨e0, e1, e2, e3, e4⟩ := Blk.cells5 ke1
  go_wp2_with fail
  refine (HQ.out _).mono ?_
  rintro e w2 ⟨rfl, hb2⟩
  have hB2 := hB1.trans (hb2.mono hB1.size)
  have ks2 := ks1.below hb2 ks1.lt
  have ke2 := ke1.below hb2 ke1.lt
  have kr2 := kr1.below hb2 kr1.lt
  have hc2 := hc.below hb2 hc.lt
  clear ks1 ke1 kr1 hB1 hb2 hc s0 s1 e0 e1 e2 e3 e4 hlk
  obtain ⟨s0, s1⟩ := And.intro (ks2.cell 0) (ks2.cell 1)
  obtain ⟨e0, e1, e2, e3, e4⟩ := Blk.cells5 ke2
  cases q with
  | false =>
    obtain ⟨rfl, rfl, rfl⟩ : sx = u ∧ sy = v ∧ false = r := by
      have := HU.out
      rw [if_neg (by simp)] at this
      injection this with a b
      injection a with c d
      exact ⟨c, d, b⟩
    clear HU HP HO
    obtain ⟨q0, q1⟩ := And.intro (kr2.cell 0) (kr2.cell 1)
    have z0 := kr2.frozen 0
    have z1 := kr2.frozen 1
    have yE := (kr2.set 0 (.int .i64 sx)).set 1 (.int .i64 sy)
    have p0 := yE.cell 0
    have p1 := yE.cell 1
    have hBE := (hB2.setCell (p := ⟨w.heap.size + 1 + 1, 0, none⟩) (by show w.heap.size ≤ w.heap.size + 1 + 1; omega) (.int .i64 sx)).setCell (p := ⟨w.heap.size + 1 + 1, 1, none⟩) (by show w.heap.size ≤ w.heap.size + 1 + 1; omega) (.int .i64 sy)
    clear yE
    go_wp2_with fail
    refine bodyPost_ret (v := .tuple #[.agg #[.int .i64 sx, .int .i64 sy], .bool false]) (by simp [results, Try.results10, go_sem, p0, p1]) rfl ⟨rfl, hBE⟩
  | true =>
    go_wp2_with fail
    refine (HP.out _).mono ?_
    rintro e w3 ⟨rfl, hb3⟩
    have hB3 := hB2.trans (hb3.mono hB2.size)
    have ks3 := ks2.below hb3 ks2.lt
    have ke3 := ke2.below hb3 ke2.lt
    have kr3 := kr2.below hb3 kr2.lt
    clear ks2 ke2 kr2 hB2 hb3 hc2 s0 s1 e0 e1 e2 e3 e4 HP
    obtain ⟨s0, s1⟩ := And.intro (ks3.cell 0) (ks3.cell 1)
    obtain ⟨e0, e1, e2, e3, e4⟩ := Blk.cells5 ke3
    cases p with
    | false =>
      obtain ⟨rfl, rfl, rfl⟩ : sx = u ∧ sy = v ∧ false = r := by
        have := HU.out
        rw [if_neg (by simp)] at this
        injection this with a b
        injection a with c d
        exact ⟨c, d, b⟩
      clear HU HO
      obtain ⟨q0, q1⟩ := And.intro (kr3.cell 0) (kr3.cell 1)
      have z0 := kr3.frozen 0
      have z1 := kr3.frozen 1
      have yE := (kr3.set 0 (.int .i64 sx)).set 1 (.int .i64 sy)
      have p0 := yE.cell 0
      have p1 := yE.cell 1
      have hBE := (hB3.setCell (p := ⟨w.heap.size + 1 + 1, 0, none⟩) (by show w.heap.size ≤ w.heap.size + 1 + 1; omega) (.int .i64 sx)).setCell (p := ⟨w.heap.size + 1 + 1, 1, none⟩) (by show w.heap.size ≤ w.heap.size + 1 + 1; omega) (.int .i64 sy)
      clear yE
      go_wp2_with fail
      refine bodyPost_ret (v := .tuple #[.agg #[.int .i64 sx, .int .i64 sy], .bool false]) (by simp [results, Try.results10, go_sem, p0, p1]) rfl ⟨rfl, hBE⟩
    | true =>
      have ks4 := ks3.alloc (.cells #[.int .i64 x, .int .i64 y] 27)
      have ke4 := ke3.alloc (.cells #[.int .i64 x, .int .i64 y] 27)
      have kr4 := kr3.alloc (.cells #[.int .i64 x, .int .i64 y] 27)
      have kc4 := Blk.new w3 27 #[.int .i64 x, .int .i64 y]
      have hB4 := hB3.alloc hB3.size (.cells #[.int .i64 x, .int .i64 y] 27)
      obtain ⟨g0, g1⟩ := And.intro (ks4.cell 0) (ks4.cell 1)
      obtain ⟨i0, i1⟩ := And.intro (kc4.cell 0) (kc4.cell 1)
      obtain ⟨f0, f1, f2, f3, f4⟩ := Blk.cells5 ke4
      cases mo with
      | true =>
        obtain ⟨rfl, rfl, rfl⟩ : sx = u ∧ sy = v ∧ false = r := by
          have := HU.out
          rw [if_neg (by simp)] at this
          injection this with a b
          injection a with c d
          exact ⟨c, d, b⟩
        have hh := HO.out
        simp only [Bool.and_eq_true, decide_eq_true_eq] at hh
        obtain ⟨rfl, rfl, rfl⟩ := hh
        clear HU HO ks3 ke3 kr3 hB3
        obtain ⟨q0, q1⟩ := And.intro (kr4.cell 0) (kr4.cell 1)
        have z0 := kr4.frozen 0
        have z1 := kr4.frozen 1
        have yE := (kr4.set 0 (.int .i64 x)).set 1 (.int .i64 y)
        have p0 := yE.cell 0
        have p1 := yE.cell 1
        have hBE := (hB4.setCell (p := ⟨w.heap.size + 1 + 1, 0, none⟩) (by show w.heap.size ≤ w.heap.size + 1 + 1; omega) (.int .i64 x)).setCell (p := ⟨w.heap.size + 1 + 1, 1, none⟩) (by show w.heap.size ≤ w.heap.size + 1 + 1; omega) (.int .i64 y)
        clear yE
        go_wp2_with fail
        refine bodyPost_ret (v := .tuple #[.agg #[.int .i64 x, .int .i64 y], .bool false]) (by simp [results, Try.results10, go_sem, p0, p1]) rfl ⟨rfl, hBE⟩
      | false =>
        obtain ⟨rfl, rfl, rfl⟩ : x = u ∧ y = v ∧ true = r := by
          have := HU.out
          rw [if_pos (by rfl)] at this
          injection this with a b
          injection a with c d
          exact ⟨c, d, b⟩
        have hh := HO.out
        clear HU HO ks3 ke3 kr3 hB3
        by_cases h4 : typ = 4
        · subst h4
          rw [decide_eq_true rfl, Bool.true_and, decide_eq_false_iff_not] at hh
          by_cases hx : x = sx
          · subst hx
            have t5 : (y == sy) = false := beq_false_of_ne fun h => hh ⟨rfl, h⟩
            clear hh
            obtain ⟨q0, q1⟩ := And.intro (kr4.cell 0) (kr4.cell 1)
            have z0 := kr4.frozen 0
            have z1 := kr4.frozen 1
            have yE := (kr4.set 0 (.int .i64 x)).set 1 (.int .i64 y)
            have p0 := yE.cell 0
            have p1 := yE.cell 1
            have hBE := (hB4.setCell (p := ⟨w.heap.size + 1 + 1, 0, none⟩) (by show w.heap.size ≤ w.heap.size + 1 + 1; omega) (.int .i64 x)).setCell (p := ⟨w.heap.size + 1 + 1, 1, none⟩) (by show w.heap.size ≤ w.heap.size + 1 + 1; omega) (.int .i64 y)
            clear yE
            go_wp2_with fail
            refine bodyPost_ret (v := .tuple #[.agg #[.int .i64 x, .int .i64 y], .bool true]) (by simp [results, Try.results10, go_sem, p0, p1]) rfl ⟨rfl, hBE⟩
          · have t5 : (x == sx) = false := beq_false_of_ne hx
            clear hh hx
            obtain ⟨q0, q1⟩ := And.intro (kr4.cell 0) (kr4.cell 1)
            have z0 := kr4.frozen 0
            have z1 := kr4.frozen 1
            have yE := (kr4.set 0 (.int .i64 x)).set 1 (.int .i64 y)
            have p0 := yE.cell 0
            have p1 := yE.cell 1
            have hBE := (hB4.setCell (p := ⟨w.heap.size + 1 + 1, 0, none⟩) (by show w.heap.size ≤ w.heap.size + 1 + 1; omega) (.int .i64 x)).setCell (p := ⟨w.heap.size + 1 + 1, 1, none⟩) (by show w.heap.size ≤ w.heap.size + 1 + 1; omega) (.int .i64 y)
            clear yE
            go_wp2_with fail
            refine bodyPost_ret (v := .tuple #[.agg #[.int .i64 x, .int .i64 y], .bool true]) (by simp [results, Try.results10, go_sem, p0, p1]) rfl ⟨rfl, hBE⟩
        · have t4 : (typ == 4) = false := beq_false_of_ne h4
          clear hh h4
          obtain ⟨q0, q1⟩ := And.intro (kr4.cell 0) (kr4.cell 1)
          have z0 := kr4.frozen 0
          have z1 := kr4.frozen 1
          have yE := (kr4.set 0 (.int .i64 x)).set 1 (.int .i64 y)
          have p0 := yE.cell 0
          have p1 := yE.cell 1
          have hBE := (hB4.setCell (p := ⟨w.heap.size + 1 + 1, 0, none⟩) (by show w.heap.size ≤ w.heap.size + 1 + 1; omega) (.int .i64 x)).setCell (p := ⟨w.heap.size + 1 + 1, 1, none⟩) (by show w.heap.size ≤ w.heap.size + 1 + 1; omega) (.int .i64 y)
          clear yE
          go_wp2_with fail
          refine bodyPost_ret (v := .tuple #[.agg #[.int .i64 x, .int .i64 y], .bool true]) (by simp [results, Try.results10, go_sem, p0, p1]) rfl ⟨rfl, hBE⟩
set_option maxRecDepth 100000 in
set_option maxHeartbeats 16000000 in
theorem ttell_m1000 (sx sy btn typ x y md : Int) (q p mo : Bool) (hq : ∀ W, Calls Try.prog 12 #[.agg #[.int .i64 btn, .int .i64 typ, .int .i64 x, .int .i64 y, .int .i64 md]] W fun e w' => e = .returned (.bool q) ∧ Below W.heap.size W w') (hp : (typ != 4) = p) (hmo : (decide (typ = 4) && decide (x = sx ∧ y = sy)) = mo) (u v : Int) (r : Bool) (hu : (if (q && p && !mo) = true then ((⟨x, y⟩, true) : Ce × Bool) else (⟨sx, sy⟩, false)) = (⟨u, v⟩, r)) (w : World) : Calls Try.prog 10 #[.int .i64 1000, .agg #[.int .i64 sx, .int .i64 sy], .agg #[.int .i64 btn, .int .i64 typ, .int .i64 x, .int .i64 y, .int .i64 md]] w (TellE ⟨u, v⟩ r w) := by
  have ks : Blk (((w.alloc (.cells #[.int .i64 sx, .int .i64 sy] 27)).alloc (.cells #[.int .i64 btn, .int .i64 typ, .int .i64 x, .int .i64 y, .int .i64 md] 25)).alloc (.cells #[.int .i64 0, .int .i64 0] 27)) w.heap.size 27 #[.int .i64 sx, .int .i64 sy] := ((Blk.new w _ _).alloc _).alloc _
  have ke : Blk (((w.alloc (.cells #[.int .i64 sx, .int .i64 sy] 27)).alloc (.cells #[.int .i64 btn, .int .i64 typ, .int .i64 x, .int .i64 y, .int .i64 md] 25)).alloc (.cells #[.int .i64 0, .int .i64 0] 27)) (w.heap.size + 1) 25 #[.int .i64 btn, .int .i64 typ, .int .i64 x, .int .i64 y, .int .i64 md] := by
    have := (Blk.new (w.alloc (.cells #[.int .i64 sx, .int .i64 sy] 27)) 25 #[.int .i64 btn, .int .i64 typ, .int .i64 x, .int .i64 y, .int .i64 md]).alloc (.cells #[.int .i64 0, .int .i64 0] 27)
    rwa [World.size_alloc] at this
  have kr : Blk (((w.alloc (.cells #[.int .i64 sx, .int .i64 sy] 27)).alloc (.cells #[.int .i64 btn, .int .i64 typ, .int .i64 x, .int .i64 y, .int .i64 md] 25)).alloc (.cells #[.int .i64 0, .int .i64 0] 27)) (w.heap.size + 1 + 1) 27 #[.int .i64 0, .int .i64 0] := by
    have := Blk.new ((w.alloc (.cells #[.int .i64 sx, .int .i64 sy] 27)).alloc (.cells #[.int .i64 btn, .int .i64 typ, .int .i64 x, .int .i64 y, .int .i64 md] 25)) 27 #[.int .i64 0, .int .i64 0]
    rwa [World.size_alloc, World.size_alloc] at this
  have hB : Below w.heap.size w (((w.alloc (.cells #[.int .i64 sx, .int .i64 sy] 27)).alloc (.cells #[.int .i64 btn, .int .i64 typ, .int .i64 x, .int .i64 y, .int .i64 md] 25)).alloc (.cells #[.int .i64 0, .int .i64 0] 27)) := (((Below.refl _ w).alloc (Nat.le_refl _) _).alloc (by simp) _).alloc (by simp; omega) _
  have HQ := Lib.hid hq
  have HU := Lib.hid hu
  have HO := Lib.hid hmo
  clear hq hu hmo
  have HP : Hid (∀ W, Calls Try.prog 19 #[.agg #[.int .i64 btn, .int .i64 typ, .int .i64 x, .int .i64 y, .int .i64 md]] W fun e w' => e = .returned (.bool p) ∧ Below W.heap.size W w') := Lib.hid fun W => tclk_any btn typ x y md p hp W
  clear hp
  obtain ⟨W, hW⟩ : ∃ W, (((w.alloc (.cells #[.int .i64 sx, .int .i64 sy] 27)).alloc (.cells #[.int .i64 btn, .int .i64 typ, .int .i64 x, .int .i64 y, .int .i64 md] 25)).alloc (.cells #[.int .i64 0, .int .i64 0] 27)) = W := ⟨_, rfl⟩
  rw [hW] at ks ke kr hB
  go_enter Try.func10, Try.ntmps10
  go_wp2_with fail
  refine (tmodes_any W).mono ?_
  rintro e w1 ⟨c, b, n, rfl, hc, hown, hb1⟩
  have hlk := tmodes_look (n := 1000) (v := .func (.func 19) #[] #[]) hown ⟨by decide, by decide⟩ (by rw [if_pos (by decide)]; rfl) (decide_eq_true (by decide))
  have hB1 := hB.trans (hb1.mono hB.size)
  have ks1 := ks.below hb1 ks.lt
  have ke1 := ke.below hb1 ke.lt
  have kr1 := kr.below hb1 kr.lt
  clear ks ke kr hB hb1 hown hW
  obtain ⟨s0, s1⟩ := And.intro (ks1.cell 0) (ks1.cell 1)
  obtain ⟨e0, e1, e2, e3, e4⟩ := Blk.cells5 ke1
  go_wp2_with fail
  refine (HQ.out _).mono ?_
  rintro e w2 ⟨rfl, hb2⟩
  have hB2 := hB1.trans (hb2.mono hB1.size)
  have ks2 := ks1.below hb2 ks1.lt
  have ke2 := ke1.below hb2 ke1.lt
  have kr2 := kr1.below hb2 kr1.lt
  have hc2 := hc.below hb2 hc.lt
  clear ks1 ke1 kr1 hB1 hb2 hc s0 s1 e0 e1 e2 e3 e4 hlk
  obtain ⟨s0, s1⟩ := And.intro (ks2.cell 0) (ks2.cell 1)
  obtain ⟨e0, e1, e2, e3, e4⟩ := Blk.cells5 ke2
  cases q with
  | false =>
    obtain ⟨rfl, rfl, rfl⟩ : sx = u ∧ sy = v ∧ false = r := by
      have := HU.out
      rw [if_neg (by simp)] at this
      injection this with a b
      injection a with c d
      exact ⟨c, d, b⟩
    clear HU HP HO
    obtain ⟨q0, q1⟩ := And.intro (kr2.cell 0) (kr2.cell 1)
    have z0 := kr2.frozen 0
    have z1 := kr2.frozen 1
    have yE := (kr2.set 0 (.int .i64 sx)).set 1 (.int .i64 sy)
    have p0 := yE.cell 0
    have p1 := yE.cell 1
    have hBE := (hB2.setCell (p := ⟨w.heap.size + 1 + 1, 0, none⟩) (by show w.heap.size ≤ w.heap.size + 1 + 1; omega) (.int .i64 sx)).setCell (p := ⟨w.heap.size + 1 + 1, 1, none⟩) (by show w.heap.size ≤ w.heap.size + 1 + 1; omega) (.int .i64 sy)
    clear yE
    go_wp2_with fail
    refine bodyPost_ret (v := .tuple #[.agg #[.int .i64 sx, .int .i64 sy], .bool false]) (by simp [results, Try.results10, go_sem, p0, p1]) rfl ⟨rfl, hBE⟩
  | true =>
    go_wp2_with fail
    refine (HP.out _).mono ?_
    rintro e w3 ⟨rfl, hb3⟩
    have hB3 := hB2.trans (hb3.mono hB2.size)
    have ks3 := ks2.below hb3 ks2.lt
    have ke3 := ke2.below hb3 ke2.lt
    have kr3 := kr2.below hb3 kr2.lt
    clear ks2 ke2 kr2 hB2 hb3 hc2 s0 s1 e0 e1 e2 e3 e4 HP
    obtain ⟨s0, s1⟩ := And.intro (ks3.cell 0) (ks3.cell 1)
    obtain ⟨e0, e1, e2, e3, e4⟩ := Blk.cells5 ke3
    cases p with
    | false =>
      obtain ⟨rfl, rfl, rfl⟩ : sx = u ∧ sy = v ∧ false = r := by
        have := HU.out
        rw [if_neg (by simp)] at this
        injection this with a b
        injection a with c d
        exact ⟨c, d, b⟩
      clear HU HO
      obtain ⟨q0, q1⟩ := And.intro (kr3.cell 0) (kr3.cell 1)
      have z0 := kr3.frozen 0
      have z1 := kr3.frozen 1
      have yE := (kr3.set 0 (.int .i64 sx)).set 1 (.int .i64 sy)
      have p0 := yE.cell 0
      have p1 := yE.cell 1
      have hBE := (hB3.setCell (p := ⟨w.heap.size + 1 + 1, 0, none⟩) (by show w.heap.size ≤ w.heap.size + 1 + 1; omega) (.int .i64 sx)).setCell (p := ⟨w.heap.size + 1 + 1, 1, none⟩) (by show w.heap.size ≤ w.heap.size + 1 + 1; omega) (.int .i64 sy)
      clear yE
      go_wp2_with fail
      refine bodyPost_ret (v := .tuple #[.agg #[.int .i64 sx, .int .i64 sy], .bool false]) (by simp [results, Try.results10, go_sem, p0, p1]) rfl ⟨rfl, hBE⟩
    | true =>
      have ks4 := ks3.alloc (.cells #[.int .i64 x, .int .i64 y] 27)
      have ke4 := ke3.alloc (.cells #[.int .i64 x, .int .i64 y] 27)
      have kr4 := kr3.alloc (.cells #[.int .i64 x, .int .i64 y] 27)
      have kc4 := Blk.new w3 27 #[.int .i64 x, .int .i64 y]
      have hB4 := hB3.alloc hB3.size (.cells #[.int .i64 x, .int .i64 y] 27)
      obtain ⟨g0, g1⟩ := And.intro (ks4.cell 0) (ks4.cell 1)
      obtain ⟨i0, i1⟩ := And.intro (kc4.cell 0) (kc4.cell 1)
      obtain ⟨f0, f1, f2, f3, f4⟩ := Blk.cells5 ke4
      cases mo with
      | true =>
        obtain ⟨rfl, rfl, rfl⟩ : sx = u ∧ sy = v ∧ false = r := by
          have := HU.out
          rw [if_neg (by simp)] at this
          injection this with a b
          injection a with c d
          exact ⟨c, d, b⟩
        have hh := HO.out
        simp only [Bool.and_eq_true, decide_eq_true_eq] at hh
        obtain ⟨rfl, rfl, rfl⟩ := hh
        clear HU HO ks3 ke3 kr3 hB3
        obtain ⟨q0, q1⟩ := And.intro (kr4.cell 0) (kr4.cell 1)
        have z0 := kr4.frozen 0
        have z1 := kr4.frozen 1
        have yE := (kr4.set 0 (.int .i64 x)).set 1 (.int .i64 y)
        have p0 := yE.cell 0
        have p1 := yE.cell 1
        have hBE := (hB4.setCell (p := ⟨w.heap.size + 1 + 1, 0, none⟩) (by show w.heap.size ≤ w.heap.size + 1 + 1; omega) (.int .i64 x)).setCell (p := ⟨w.heap.size + 1 + 1, 1, none⟩) (by show w.heap.size ≤ w.heap.size + 1 + 1; omega) (.int .i64 y)
        clear yE
        go_wp2_with fail
        refine bodyPost_ret (v := .tuple #[.agg #[.int .i64 x, .int .i64 y], .bool false]) (by simp [results, Try.results10, go_sem, p0, p1]) rfl ⟨rfl, hBE⟩
      | false =>
        obtain ⟨rfl, rfl, rfl⟩ : x = u ∧ y = v ∧ true = r := by
          have := HU.out
          rw [if_pos (by rfl)] at this
          injection this with a b
          injection a with c d
          exact ⟨c, d, b⟩
        have hh := HO.out
        clear HU HO ks3 ke3 kr3 hB3
        by_cases h4 : typ = 4
        · subst h4
          rw [decide_eq_true rfl, Bool.true_and, decide_eq_false_iff_not] at hh
          by_cases hx : x = sx
          · subst hx
            have t5 : (y == sy) = false := beq_false_of_ne fun h => hh ⟨rfl, h⟩
            clear hh
            obtain ⟨q0, q1⟩ := And.intro (kr4.cell 0) (kr4.cell 1)
            have z0 := kr4.frozen 0
            have z1 := kr4.frozen 1
            have yE := (kr4.set 0 (.int .i64 x)).set 1 (.int .i64 y)
            have p0 := yE.cell 0
            have p1 := yE.cell 1
            have hBE := (hB4.setCell (p := ⟨w.heap.size + 1 + 1, 0, none⟩) (by show w.heap.size ≤ w.heap.size + 1 + 1; omega) (.int .i64 x)).setCell (p := ⟨w.heap.size + 1 + 1, 1, none⟩) (by show w.heap.size ≤ w.heap.size + 1 + 1; omega) (.int .i64 y)
            clear yE
            go_wp2_with fail
            refine bodyPost_ret (v := .tuple #[.agg #[.int .i64 x, .int .i64 y], .bool true]) (by simp [results, Try.results10, go_sem, p0, p1]) rfl ⟨rfl, hBE⟩
          · have t5 : (x == sx) = false := beq_false_of_ne hx
            clear hh hx
            obtain ⟨q0, q1⟩ := And.intro (kr4.cell 0) (kr4.cell 1)
            have z0 := kr4.frozen 0
            have z1 := kr4.frozen 1
            have yE := (kr4.set 0 (.int .i64 x)).set 1 (.int .i64 y)
            have p0 := yE.cell 0
            have p1 := yE.cell 1
            have hBE := (hB4.setCell (p := ⟨w.heap.size + 1 + 1, 0, none⟩) (by show w.heap.size ≤ w.heap.size + 1 + 1; omega) (.int .i64 x)).setCell (p := ⟨w.heap.size + 1 + 1, 1, none⟩) (by show w.heap.size ≤ w.heap.size + 1 + 1; omega) (.int .i64 y)
            clear yE
            go_wp2_with fail
            refine bodyPost_ret (v := .tuple #[.agg #[.int .i64 x, .int .i64 y], .bool true]) (by simp [results, Try.results10, go_sem, p0, p1]) rfl ⟨rfl, hBE⟩
        · have t4 : (typ == 4) = false := beq_false_of_ne h4
          clear hh h4
          obtain ⟨q0, q1⟩ := And.intro (kr4.cell 0) (kr4.cell 1)
          have z0 := kr4.frozen 0
          have z1 := kr4.frozen 1
          have yE := (kr4.set 0 (.int .i64 x)).set 1 (.int .i64 y)
          have p0 := yE.cell 0
          have p1 := yE.cell 1
          have hBE := (hB4.setCell (p := ⟨w.heap.size + 1 + 1, 0, none⟩) (by show w.heap.size ≤ w.heap.size + 1 + 1; omega) (.int .i64 x)).setCell (p := ⟨w.heap.size + 1 + 1, 1, none⟩) (by show w.heap.size ≤ w.heap.size + 1 + 1; omega) (.int .i64 y)
          clear yE
          go_wp2_with fail
          refine bodyPost_ret (v := .tuple #[.agg #[.int .i64 x, .int .i64 y], .bool true]) (by simp [results, Try.results10, go_sem, p0, p1]) rfl ⟨rfl, hBE⟩
set_option maxRecDepth 100000 in
set_option maxHeartbeats 16000000 in
theorem ttell_m1002 (sx sy btn typ x y md : Int) (q p mo : Bool) (hq : ∀ W, Calls Try.prog 12 #[.agg #[.int .i64 btn, .int .i64 typ, .int .i64 x, .int .i64 y, .int .i64 md]] W fun e w' => e = .returned (.bool q) ∧ Below W.heap.size W w') (hp : ((typ != 4) || (btn != 0)) = p) (hmo : (decide (typ = 4) && decide (x = sx ∧ y = sy)) = mo) (u v : Int) (r : Bool) (hu : (if (q && p && !mo) = true then ((⟨x, y⟩, true) : Ce × Bool) else (⟨sx, sy⟩, false)) = (⟨u, v⟩, r)) (w : World) : Calls Try.prog 10 #[.int .i64 1002, .agg #[.int .i64 sx, .int .i64 sy], .agg #[.int .i64 btn, .int .i64 typ, .int .i64 x, .int .i64 y, .int .i64 md]] w (TellE ⟨u, v⟩ r w) := by
  have ks : Blk (((w.alloc (.cells #[.int .i64 sx, .int .i64 sy] 27)).alloc (.cells #[.int .i64 btn, .int .i64 typ, .int .i64 x, .int .i64 y, .int .i64 md] 25)).alloc (.cells #[.int .i64 0, .int .i64 0] 27)) w.heap.size 27 #[.int .i64 sx, .int .i64 sy] := ((Blk.new w _ _).alloc _).alloc _
  have ke : Blk (((w.alloc (.cells #[.int .i64 sx, .int .i64 sy] 27)).alloc (.cells #[.int .i64 btn, .int .i64 typ, .int .i64 x, .int .i64 y, .int .i64 md] 25)).alloc (.cells #[.int .i64 0, .int .i64 0] 27)) (w.heap.size + 1) 25 #[.int .i64 btn, .int .i64 typ, .int .i64 x, .int .i64 y, .int .i64 md] := by
    have := (Blk.new (w.alloc (.cells #[.int .i64 sx, .int .i64 sy] 27)) 25 #[.int .i64 btn, .int .i64 typ, .int .i64 x, .int .i64 y, .int .i64 md]).alloc (.cells #[.int .i64 0, .int .i64 0] 27)
    rwa [World.size_alloc] at this
  have kr : Blk (((w.alloc (.cells #[.int .i64 sx, .int .i64 sy] 27)).alloc (.cells #[.int .i64 btn, .int .i64 typ, .int .i64 x, .int .i64 y, .int .i64 md] 25)).alloc (.cells #[.int .i64 0, .int .i64 0] 27)) (w.heap.size + 1 + 1) 27 #[.int .i64 0, .int .i64 0] := by
    have := Blk.new ((w.alloc (.cells #[.int .i64 sx, .int .i64 sy] 27)).alloc (.cells #[.int .i64 btn, .int .i64 typ, .int .i64 x, .int .i64 y, .int .i64 md] 25)) 27 #[.int .i64 0, .int .i64 0]
    rwa [World.size_alloc, World.size_alloc] at this
  have hB : Below w.heap.size w (((w.alloc (.cells #[.int .i64 sx, .int .i64 sy] 27)).alloc (.cells #[.int .i64 btn, .int .i64 typ, .int .i64 x, .int .i64 y, .int .i64 md] 25)).alloc (.cells #[.int .i64 0, .int .i64 0] 27)) := (((Below.refl _ w).alloc (Nat.le_refl _) _).alloc (by simp) _).alloc (by simp; omega) _
  have HQ := Lib.hid hq
  have HU := Lib.hid hu
  have HO := Lib.hid hmo
  clear hq hu hmo
  have HP : Hid (∀ W c, Blk W c 32 #[.func (.func 19) #[] #[]] → Calls Try.prog 21 #[.agg #[.int .i64 btn, .int .i64 typ, .int .i64 x, .int .i64 y, .int .i64 md], .pointer (some ⟨c, 0, none⟩)] W fun e w' => e = .returned (.bool p) ∧ Below W.heap.size W w') := Lib.hid fun W c hc => ttwo_any btn typ x y md p hp W hc
  clear hp
  obtain ⟨W, hW⟩ : ∃ W, (((w.alloc (.cells #[.int .i64 sx, .int .i64 sy] 27)).alloc (.cells #[.int .i64 btn, .int .i64 typ, .int .i64 x, .int .i64 y, .int .i64 md] 25)).alloc (.cells #[.int .i64 0, .int .i64 0] 27)) = W := ⟨_, rfl⟩
  rw [hW] at ks ke kr hB
  go_enter Try.func10, Try.ntmps10
  go_wp2_with fail
  refine (tmodes_any W).mono ?_
  rintro e w1 ⟨c, b, n, rfl, hc, hown, hb1⟩
  have hlk := tmodes_look (n := 1002) (v := .func (.func 21) #[] #[.pointer (some ⟨c, 0, none⟩)]) hown ⟨by decide, by decide⟩ (by rw [if_pos (by decide)]; rfl) (decide_eq_true (by decide))
  have hB1 := hB.trans (hb1.mono hB.size)
  have ks1 := ks.below hb1 ks.lt
  have ke1 := ke.below hb1 ke.lt
  have kr1 := kr.below hb1 kr.lt
  clear ks ke kr hB hb1 hown hW
  obtain ⟨s0, s1⟩ := And.intro (ks1.cell 0) (ks1.cell 1)
  obtain ⟨e0, e1, e2, e3, e4⟩ := Blk.cells5 ke1
  go_wp2_with fail
  refine (HQ.out _).mono ?_
  rintro e w2 ⟨rfl, hb2⟩
  have hB2 := hB1.trans (hb2.mono hB1.size)
  have ks2 := ks1.below hb2 ks1.lt
  have ke2 := ke1.below hb2 ke1.lt
  have kr2 := kr1.below hb2 kr1.lt
  have hc2 := hc.below hb2 hc.lt
  clear ks1 ke1 kr1 hB1 hb2 hc s0 s1 e0 e1 e2 e3 e4 hlk
  obtain ⟨s0, s1⟩ := And.intro (ks2.cell 0) (ks2.cell 1)
  obtain ⟨e0, e1, e2, e3, e4⟩ := Blk.cells5 ke2
  cases q with
  | false =>
    obtain ⟨rfl, rfl, rfl⟩ : sx = u ∧ sy = v ∧ false = r := by
      have := HU.out
      rw [if_neg (by simp)] at this
      injection this with a b
      injection a with c d
      exact ⟨c, d, b⟩
    clear HU HP HO
    obtain ⟨q0, q1⟩ := And.intro (kr2.cell 0) (kr2.cell 1)
    have z0 := kr2.frozen 0
    have z1 := kr2.frozen 1
    have yE := (kr2.set 0 (.int .i64 sx)).set 1 (.int .i64 sy)
    have p0 := yE.cell 0
    have p1 := yE.cell 1
    have hBE := (hB2.setCell (p := ⟨w.heap.size + 1 + 1, 0, none⟩) (by show w.heap.size ≤ w.heap.size + 1 + 1; omega) (.int .i64 sx)).setCell (p := ⟨w.heap.size + 1 + 1, 1, none⟩) (by show w.heap.size ≤ w.heap.size + 1 + 1; omega) (.int .i64 sy)
    clear yE
    go_wp2_with fail
    refine bodyPost_ret (v := .tuple #[.agg #[.int .i64 sx, .int .i64 sy], .bool false]) (by simp [results, Try.results10, go_sem, p0, p1]) rfl ⟨rfl, hBE⟩
  | true =>
    go_wp2_with fail
    refine (HP.out _ _ hc2).mono ?_
    rintro e w3 ⟨rfl, hb3⟩
    have hB3 := hB2.trans (hb3.mono hB2.size)
    have ks3 := ks2.below hb3 ks2.lt
    have ke3 := ke2.below hb3 ke2.lt
    have kr3 := kr2.below hb3 kr2.lt
    clear ks2 ke2 kr2 hB2 hb3 hc2 s0 s1 e0 e1 e2 e3 e4 HP
    obtain ⟨s0, s1⟩ := And.intro (ks3.cell 0) (ks3.cell 1)
    obtain ⟨e0, e1, e2, e3, e4⟩ := Blk.cells5 ke3
    cases p with
    | false =>
      obtain ⟨rfl, rfl, rfl⟩ : sx = u ∧ sy = v ∧ false = r := by
        have := HU.out
        rw [if_neg (by simp)] at this
        injection this with a b
        injection a with c d
        exact ⟨c, d, b⟩
      clear HU HO
      obtain ⟨q0, q1⟩ := And.intro (kr3.cell 0) (kr3.cell 1)
      have z0 := kr3.frozen 0
      have z1 := kr3.frozen 1
      have yE := (kr3.set 0 (.int .i64 sx)).set 1 (.int .i64 sy)
      have p0 := yE.cell 0
      have p1 := yE.cell 1
      have hBE := (hB3.setCell (p := ⟨w.heap.size + 1 + 1, 0, none⟩) (by show w.heap.size ≤ w.heap.size + 1 + 1; omega) (.int .i64 sx)).setCell (p := ⟨w.heap.size + 1 + 1, 1, none⟩) (by show w.heap.size ≤ w.heap.size + 1 + 1; omega) (.int .i64 sy)
      clear yE
      go_wp2_with fail
      refine bodyPost_ret (v := .tuple #[.agg #[.int .i64 sx, .int .i64 sy], .bool false]) (by simp [results, Try.results10, go_sem, p0, p1]) rfl ⟨rfl, hBE⟩
    | true =>
      have ks4 := ks3.alloc (.cells #[.int .i64 x, .int .i64 y] 27)
      have ke4 := ke3.alloc (.cells #[.int .i64 x, .int .i64 y] 27)
      have kr4 := kr3.alloc (.cells #[.int .i64 x, .int .i64 y] 27)
      have kc4 := Blk.new w3 27 #[.int .i64 x, .int .i64 y]
      have hB4 := hB3.alloc hB3.size (.cells #[.int .i64 x, .int .i64 y] 27)
      obtain ⟨g0, g1⟩ := And.intro (ks4.cell 0) (ks4.cell 1)
      obtain ⟨i0, i1⟩ := And.intro (kc4.cell 0) (kc4.cell 1)
      obtain ⟨f0, f1, f2, f3, f4⟩ := Blk.cells5 ke4
      cases mo with
      | true =>
        obtain ⟨rfl, rfl, rfl⟩ : sx = u ∧ sy = v ∧ false = r := by
          have := HU.out
          rw [if_neg (by simp)] at this
          injection this with a b
          injection a with c d
          exact ⟨c, d, b⟩
        have hh := HO.out
        simp only [Bool.and_eq_true, decide_eq_true_eq] at hh
        obtain ⟨rfl, rfl, rfl⟩ := hh
        clear HU HO ks3 ke3 kr3 hB3
        obtain ⟨q0, q1⟩ := And.intro (kr4.cell 0) (kr4.cell 1)
        have z0 := kr4.frozen 0
        have z1 := kr4.frozen 1
        have yE := (kr4.set 0 (.int .i64 x)).set 1 (.int .i64 y)
        have p0 := yE.cell 0
        have p1 := yE.cell 1
        have hBE := (hB4.setCell (p := ⟨w.heap.size + 1 + 1, 0, none⟩) (by show w.heap.size ≤ w.heap.size + 1 + 1; omega) (.int .i64 x)).setCell (p := ⟨w.heap.size + 1 + 1, 1, none⟩) (by show w.heap.size ≤ w.heap.size + 1 + 1; omega) (.int .i64 y)
        clear yE
        go_wp2_with fail
        refine bodyPost_ret (v := .tuple #[.agg #[.int .i64 x, .int .i64 y], .bool false]) (by simp [results, Try.results10, go_sem, p0, p1]) rfl ⟨rfl, hBE⟩
      | false =>
        obtain ⟨rfl, rfl, rfl⟩ : x = u ∧ y = v ∧ true = r := by
          have := HU.out
          rw [if_pos (by rfl)] at this
          injection this with a b
          injection a with c d
          exact ⟨c, d, b⟩
        have hh := HO.out
        clear HU HO ks3 ke3 kr3 hB3
        by_cases h4 : typ = 4
        · subst h4
          rw [decide_eq_true rfl, Bool.true_and, decide_eq_false_iff_not] at hh
          by_cases hx : x = sx
          · subst hx
            have t5 : (y == sy) = false := beq_false_of_ne fun h => hh ⟨rfl, h⟩
            clear hh
            obtain ⟨q0, q1⟩ := And.intro (kr4.cell 0) (kr4.cell 1)
            have z0 := kr4.frozen 0
            have z1 := kr4.frozen 1
            have yE := (kr4.set 0 (.int .i64 x)).set 1 (.int .i64 y)
            have p0 := yE.cell 0
            have p1 := yE.cell 1
            have hBE := (hB4.setCell (p := ⟨w.heap.size + 1 + 1, 0, none⟩) (by show w.heap.size ≤ w.heap.size + 1 + 1; omega) (.int .i64 x)).setCell (p := ⟨w.heap.size + 1 + 1, 1, none⟩) (by show w.heap.size ≤ w.heap.size + 1 + 1; omega) (.int .i64 y)
            clear yE
            go_wp2_with fail
            refine bodyPost_ret (v := .tuple #[.agg #[.int .i64 x, .int .i64 y], .bool true]) (by simp [results, Try.results10, go_sem, p0, p1]) rfl ⟨rfl, hBE⟩
          · have t5 : (x == sx) = false := beq_false_of_ne hx
            clear hh hx
            obtain ⟨q0, q1⟩ := And.intro (kr4.cell 0) (kr4.cell 1)
            have z0 := kr4.frozen 0
            have z1 := kr4.frozen 1
            have yE := (kr4.set 0 (.int .i64 x)).set 1 (.int .i64 y)
            have p0 := yE.cell 0
            have p1 := yE.cell 1
            have hBE := (hB4.setCell (p := ⟨w.heap.size + 1 + 1, 0, none⟩) (by show w.heap.size ≤ w.heap.size + 1 + 1; omega) (.int .i64 x)).setCell (p := ⟨w.heap.size + 1 + 1, 1, none⟩) (by show w.heap.size ≤ w.heap.size + 1 + 1; omega) (.int .i64 y)
            clear yE
            go_wp2_with fail
            refine bodyPost_ret (v := .tuple #[.agg #[.int .i64 x, .int .i64 y], .bool true]) (by simp [results, Try.results10, go_sem, p0, p1]) rfl ⟨rfl, hBE⟩
        · have t4 : (typ == 4) = false := beq_false_of_ne h4
          clear hh h4
          obtain ⟨q0, q1⟩ := And.intro (kr4.cell 0) (kr4.cell 1)
          have z0 := kr4.frozen 0
          have z1 := kr4.frozen 1
          have yE := (kr4.set 0 (.int .i64 x)).set 1 (.int .i64 y)
          have p0 := yE.cell 0
          have p1 := yE.cell 1
          have hBE := (hB4.setCell (p := ⟨w.heap.size + 1 + 1, 0, none⟩) (by show w.heap.size ≤ w.heap.size + 1 + 1; omega) (.int .i64 x)).setCell (p := ⟨w.heap.size + 1 + 1, 1, none⟩) (by show w.heap.size ≤ w.heap.size + 1 + 1; omega) (.int .i64 y)
          clear yE
          go_wp2_with fail
          refine bodyPost_ret (v := .tuple #[.agg #[.int .i64 x, .int .i64 y], .bool true]) (by simp [results, Try.results10, go_sem, p0, p1]) rfl ⟨rfl, hBE⟩
set_option maxRecDepth 100000 in
set_option maxHeartbeats 16000000 in
theorem ttell_m1003 (sx sy btn typ x y md : Int) (q p mo : Bool) (hq : ∀ W, Calls Try.prog 12 #[.agg #[.int .i64 btn, .int .i64 typ, .int .i64 x, .int .i64 y, .int .i64 md]] W fun e w' => e = .returned (.bool q) ∧ Below W.heap.size W w') (hp : true = p) (hmo : (decide (typ = 4) && decide (x = sx ∧ y = sy)) = mo) (u v : Int) (r : Bool) (hu : (if (q && p && !mo) = true then ((⟨x, y⟩, true) : Ce × Bool) else (⟨sx, sy⟩, false)) = (⟨u, v⟩, r)) (w : World) : Calls Try.prog 10 #[.int .i64 1003, .agg #[.int .i64 sx, .int .i64 sy], .agg #[.int .i64 btn, .int .i64 typ, .int .i64 x, .int .i64 y, .int .i64 md]] w (TellE ⟨u, v⟩ r w) := by
  have ks : Blk (((w.alloc (.cells #[.int .i64 sx, .int .i64 sy] 27)).alloc (.cells #[.int .i64 btn, .int .i64 typ, .int .i64 x, .int .i64 y, .int .i64 md] 25)).alloc (.cells #[.int .i64 0, .int .i64 0] 27)) w.heap.size 27 #[.int .i64 sx, .int .i64 sy] := ((Blk.new w _ _).alloc _).alloc _
  have ke : Blk (((w.alloc (.cells #[.int .i64 sx, .int .i64 sy] 27)).alloc (.cells #[.int .i64 btn, .int .i64 typ, .int .i64 x, .int .i64 y, .int .i64 md] 25)).alloc (.cells #[.int .i64 0, .int .i64 0] 27)) (w.heap.size + 1) 25 #[.int .i64 btn, .int .i64 typ, .int .i64 x, .int .i64 y, .int .i64 md] := by
    have := (Blk.new (w.alloc (.cells #[.int .i64 sx, .int .i64 sy] 27)) 25 #[.int .i64 btn, .int .i64 typ, .int .i64 x, .int .i64 y, .int .i64 md]).alloc (.cells #[.int .i64 0, .int .i64 0] 27)
    rwa [World.size_alloc] at this
  have kr : Blk (((w.alloc (.cells #[.int .i64 sx, .int .i64 sy] 27)).alloc (.cells #[.int .i64 btn, .int .i64 typ, .int .i64 x, .int .i64 y, .int .i64 md] 25)).alloc (.cells #[.int .i64 0, .int .i64 0] 27)) (w.heap.size + 1 + 1) 27 #[.int .i64 0, .int .i64 0] := by
    have := Blk.new ((w.alloc (.cells #[.int .i64 sx, .int .i64 sy] 27)).alloc (.cells #[.int .i64 btn, .int .i64 typ, .int .i64 x, .int .i64 y, .int .i64 md] 25)) 27 #[.int .i64 0, .int .i64 0]
    rwa [World.size_alloc, World.size_alloc] at this
  have hB : Below w.heap.size w (((w.alloc (.cells #[.int .i64 sx, .int .i64 sy] 27)).alloc (.cells #[.int .i64 btn, .int .i64 typ, .int .i64 x, .int .i64 y, .int .i64 md] 25)).alloc (.cells #[.int .i64 0, .int .i64 0] 27)) := (((Below.refl _ w).alloc (Nat.le_refl _) _).alloc (by simp) _).alloc (by simp; omega) _
  have HQ := Lib.hid hq
  have HU := Lib.hid hu
  have HO := Lib.hid hmo
  clear hq hu hmo
  have HP : Hid (∀ W, Calls Try.prog 22 #[.agg #[.int .i64 btn, .int .i64 typ, .int .i64 x, .int .i64 y, .int .i64 md]] W fun e w' => e = .returned (.bool p) ∧ Below W.heap.size W w') := Lib.hid fun W => hp ▸ tall_any btn typ x y md W
  clear hp
  obtain ⟨W, hW⟩ : ∃ W, (((w.alloc (.cells #[.int .i64 sx, .int .i64 sy] 27)).alloc (.cells #[.int .i64 btn, .int .i64 typ, .int .i64 x, .int .i64 y, .int .i64 md] 25)).alloc (.cells #[.int .i64 0, .int .i64 0] 27)) = W := ⟨_, rfl⟩
  rw [hW] at ks ke kr hB
  go_enter Try.func10, Try.ntmps10
  go_wp2_with fail
  refine (tmodes_any W).mono ?_
  rintro e w1 ⟨c, b, n, rfl, hc, hown, hb1⟩
  have hlk := tmodes_look (n := 1003) (v := .func (.func 22) #[] #[]) hown ⟨by decide, by decide⟩ (by rw [if_pos (by decide)]; rfl) (decide_eq_true (by decide))
  have hB1 := hB.trans (hb1.mono hB.size)
  have ks1 := ks.below hb1 ks.lt
  have ke1 := ke.below hb1 ke.lt
  have kr1 := kr.below hb1 kr.lt
  clear ks ke kr hB hb1 hown hW
  obtain ⟨s0, s1⟩ := And.intro (ks1.cell 0) (ks1.cell 1)
  obtain ⟨e0, e1, e2, e3, e4⟩ := Blk.cells5 ke1
  go_wp2_with fail
  refine (HQ.out _).mono ?_
  rintro e w2 ⟨rfl, hb2⟩
  have hB2 := hB1.trans (hb2.mono hB1.size)
  have ks2 := ks1.below hb2 ks1.lt
  have ke2 := ke1.below hb2 ke1.lt
  have kr2 := kr1.below hb2 kr1.lt
  have hc2 := hc.below hb2 hc.lt
  clear ks1 ke1 kr1 hB1 hb2 hc s0 s1 e0 e1 e2 e3 e4 hlk
  obtain ⟨s0, s1⟩ := And.intro (ks2.cell 0) (ks2.cell 1)
  obtain ⟨e0, e1, e2, e3, e4⟩ := Blk.cells5 ke2
  cases q with
  | false =>
    obtain ⟨rfl, rfl, rfl⟩ : sx = u ∧ sy = v ∧ false = r := by
      have := HU.out
      rw [if_neg (by simp)] at this
      injection this with a b
      injection a with c d
      exact ⟨c, d, b⟩
    clear HU HP HO
    obtain ⟨q0, q1⟩ := And.intro (kr2.cell 0) (kr2.cell 1)
    have z0 := kr2.frozen 0
    have z1 := kr2.frozen 1
    have yE := (kr2.set 0 (.int .i64 sx)).set 1 (.int .i64 sy)
    have p0 := yE.cell 0
    have p1 := yE.cell 1
    have hBE := (hB2.setCell (p := ⟨w.heap.size + 1 + 1, 0, none⟩) (by show w.heap.size ≤ w.heap.size + 1 + 1; omega) (.int .i64 sx)).setCell (p := ⟨w.heap.size + 1 + 1, 1, none⟩) (by show w.heap.size ≤ w.heap.size + 1 + 1; omega) (.int .i64 sy)
    clear yE
    go_wp2_with fail
    refine bodyPost_ret (v := .tuple #[.agg #[.int .i64 sx, .int .i64 sy], .bool false]) (by simp [results, Try.results10, go_sem, p0, p1]) rfl ⟨rfl, hBE⟩
  | true =>
    go_wp2_with fail
    refine (HP.out _).mono ?_
    rintro e w3 ⟨rfl, hb3⟩
    have hB3 := hB2.trans (hb3.mono hB2.size)
    have ks3 := ks2.below hb3 ks2.lt
    have ke3 := ke2.below hb3 ke2.lt
    have kr3 := kr2.below hb3 kr2.lt
    clear ks2 ke2 kr2 hB2 hb3 hc2 s0 s1 e0 e1 e2 e3 e4 HP
    obtain ⟨s0, s1⟩ := And.intro (ks3.cell 0) (ks3.cell 1)
    obtain ⟨e0, e1, e2, e3, e4⟩ := Blk.cells5 ke3
    cases p with
    | false =>
      obtain ⟨rfl, rfl, rfl⟩ : sx = u ∧ sy = v ∧ false = r := by
        have := HU.out
        rw [if_neg (by simp)] at this
        injection this with a b
        injection a with c d
        exact ⟨c, d, b⟩
      clear HU HO
      obtain ⟨q0, q1⟩ := And.intro (kr3.cell 0) (kr3.cell 1)
      have z0 := kr3.frozen 0
      have z1 := kr3.frozen 1
      have yE := (kr3.set 0 (.int .i64 sx)).set 1 (.int .i64 sy)
      have p0 := yE.cell 0
      have p1 := yE.cell 1
      have hBE := (hB3.setCell (p := ⟨w.heap.size + 1 + 1, 0, none⟩) (by show w.heap.size ≤ w.heap.size + 1 + 1; omega) (.int .i64 sx)).setCell (p := ⟨w.heap.size + 1 + 1, 1, none⟩) (by show w.heap.size ≤ w.heap.size + 1 + 1; omega) (.int .i64 sy)
      clear yE
      go_wp2_with fail
      refine bodyPost_ret (v := .tuple #[.agg #[.int .i64 sx, .int .i64 sy], .bool false]) (by simp [results, Try.results10, go_sem, p0, p1]) rfl ⟨rfl, hBE⟩
    | true =>
      have ks4 := ks3.alloc (.cells #[.int .i64 x, .int .i64 y] 27)
      have ke4 := ke3.alloc (.cells #[.int .i64 x, .int .i64 y] 27)
      have kr4 := kr3.alloc (.cells #[.int .i64 x, .int .i64 y] 27)
      have kc4 := Blk.new w3 27 #[.int .i64 x, .int .i64 y]
      have hB4 := hB3.alloc hB3.size (.cells #[.int .i64 x, .int .i64 y] 27)
      obtain ⟨g0, g1⟩ := And.intro (ks4.cell 0) (ks4.cell 1)
      obtain ⟨i0, i1⟩ := And.intro (kc4.cell 0) (kc4.cell 1)
      obtain ⟨f0, f1, f2, f3, f4⟩ := Blk.cells5 ke4
      cases mo with
      | true =>
        obtain ⟨rfl, rfl, rfl⟩ : sx = u ∧ sy = v ∧ false = r := by
          have := HU.out
          rw [if_neg (by simp)] at this
          injection this with a b
          injection a with c d
          exact ⟨c, d, b⟩
        have hh := HO.out
        simp only [Bool.and_eq_true, decide_eq_true_eq] at hh
        obtain ⟨rfl, rfl, rfl⟩ := hh
        clear HU HO ks3 ke3 kr3 hB3
        obtain ⟨q0, q1⟩ := And.intro (kr4.cell 0) (kr4.cell 1)
        have z0 := kr4.frozen 0
        have z1 := kr4.frozen 1
        have yE := (kr4.set 0 (.int .i64 x)).set 1 (.int .i64 y)
        have p0 := yE.cell 0
        have p1 := yE.cell 1
        have hBE := (hB4.setCell (p := ⟨w.heap.size + 1 + 1, 0, none⟩) (by show w.heap.size ≤ w.heap.size + 1 + 1; omega) (.int .i64 x)).setCell (p := ⟨w.heap.size + 1 + 1, 1, none⟩) (by show w.heap.size ≤ w.heap.size + 1 + 1; omega) (.int .i64 y)
        clear yE
        go_wp2_with fail
        refine bodyPost_ret (v := .tuple #[.agg #[.int .i64 x, .int .i64 y], .bool false]) (by simp [results, Try.results10, go_sem, p0, p1]) rfl ⟨rfl, hBE⟩
      | false =>
        obtain ⟨rfl, rfl, rfl⟩ : x = u ∧ y = v ∧ true = r := by
          have := HU.out
          rw [if_pos (by rfl)] at this
          injection this with a b
          injection a with c d
          exact ⟨c, d, b⟩
        have hh := HO.out
        clear HU HO ks3 ke3 kr3 hB3
        by_cases h4 : typ = 4
        · subst h4
          rw [decide_eq_true rfl, Bool.true_and, decide_eq_false_iff_not] at hh
          by_cases hx : x = sx
          · subst hx
            have t5 : (y == sy) = false := beq_false_of_ne fun h => hh ⟨rfl, h⟩
            clear hh
            obtain ⟨q0, q1⟩ := And.intro (kr4.cell 0) (kr4.cell 1)
            have z0 := kr4.frozen 0
            have z1 := kr4.frozen 1
            have yE := (kr4.set 0 (.int .i64 x)).set 1 (.int .i64 y)
            have p0 := yE.cell 0
            have p1 := yE.cell 1
            have hBE := (hB4.setCell (p := ⟨w.heap.size + 1 + 1, 0, none⟩) (by show w.heap.size ≤ w.heap.size + 1 + 1; omega) (.int .i64 x)).setCell (p := ⟨w.heap.size + 1 + 1, 1, none⟩) (by show w.heap.size ≤ w.heap.size + 1 + 1; omega) (.int .i64 y)
            clear yE
            go_wp2_with fail
            refine bodyPost_ret (v := .tuple #[.agg #[.int .i64 x, .int .i64 y], .bool true]) (by simp [results, Try.results10, go_sem, p0, p1]) rfl ⟨rfl, hBE⟩
          · have t5 : (x == sx) = false := beq_false_of_ne hx
            clear hh hx
            obtain ⟨q0, q1⟩ := And.intro (kr4.cell 0) (kr4.cell 1)
            have z0 := kr4.frozen 0
            have z1 := kr4.frozen 1
            have yE := (kr4.set 0 (.int .i64 x)).set 1 (.int .i64 y)
            have p0 := yE.cell 0
            have p1 := yE.cell 1
            have hBE := (hB4.setCell (p := ⟨w.heap.size + 1 + 1, 0, none⟩) (by show w.heap.size ≤ w.heap.size + 1 + 1; omega) (.int .i64 x)).setCell (p := ⟨w.heap.size + 1 + 1, 1, none⟩) (by show w.heap.size ≤ w.heap.size + 1 + 1; omega) (.int .i64 y)
            clear yE
            go_wp2_with fail
            refine bodyPost_ret (v := .tuple #[.agg #[.int .i64 x, .int .i64 y], .bool true]) (by simp [results, Try.results10, go_sem, p0, p1]) rfl ⟨rfl, hBE⟩
        · have t4 : (typ == 4) = false := beq_false_of_ne h4
          clear hh h4
          obtain ⟨q0, q1⟩ := And.intro (kr4.cell 0) (kr4.cell 1)
          have z0 := kr4.frozen 0
          have z1 := kr4.frozen 1
          have yE := (kr4.set 0 (.int .i64 x)).set 1 (.int .i64 y)
          have p0 := yE.cell 0
          have p1 := yE.cell 1
          have hBE := (hB4.setCell (p := ⟨w.heap.size + 1 + 1, 0, none⟩) (by show w.heap.size ≤ w.heap.size + 1 + 1; omega) (.int .i64 x)).setCell (p := ⟨w.heap.size + 1 + 1, 1, none⟩) (by show w.heap.size ≤ w.heap.size + 1 + 1; omega) (.int .i64 y)
          clear yE
          go_wp2_with fail
          refine bodyPost_ret (v := .tuple #[.agg #[.int .i64 x, .int .i64 y], .bool true]) (by simp [results, Try.results10, go_sem, p0, p1]) rfl ⟨rfl, hBE⟩
theorem tell_eq {mode : Int} (s : Ce) (e : Ms) {p q mo : Bool} (hq : mayT e = q) (hp : wantT mode e = p) (hmo : (decide (e.typ = 4) && decide (e.x = s.x ∧ e.y = s.y)) = mo) : (if (q && p && !mo) = true then ((⟨e.x, e.y⟩, true) : Ce × Bool) else (s, false)) = tellT mode s e := by
  unfold tellT isT
  have h : (decide (e.typ = 4) && decide (s.x = e.x) && decide (s.y = e.y)) = mo := by
    rw [← hmo, Bool.and_assoc]
    congr 1
    rw [Bool.eq_iff_iff, Bool.and_eq_true, decide_eq_true_eq, decide_eq_true_eq, decide_eq_true_eq]
    exact ⟨fun h => ⟨h.1.symm, h.2.symm⟩, fun h => ⟨h.1.symm, h.2.symm⟩⟩
  rw [hq, hp, h]
theorem ttell_any (mode : Int) (hm : inM mode) (s : Ce) (e : Ms) (w : World) : Calls Try.prog 10 #[.int .i64 mode, ceV s, msV e] w fun x w' => x = .returned (.tuple #[ceV (tellT mode s e).1, .bool (tellT mode s e).2]) ∧ Below w.heap.size w w' := by
  obtain ⟨⟨⟨u, v⟩, r⟩, hT⟩ : ∃ T, tellT mode s e = T := ⟨_, rfl⟩
  rw [hT]
  obtain ⟨sx, sy⟩ := s
  obtain ⟨btn, typ, x, y, md⟩ := e
  have HM := fun W => tmay_any ⟨btn, typ, x, y, md⟩ W
  by_cases h9 : mode = 9
  · subst h9
    exact ttell_m9 sx sy btn typ x y md _ _ _ HM (show _ = wantT 9 ⟨btn, typ, x, y, md⟩ from rfl) rfl u v r ((tell_eq ⟨sx, sy⟩ ⟨btn, typ, x, y, md⟩ rfl rfl rfl).trans hT) w
  by_cases h1 : mode = 1000
  · subst h1
    exact ttell_m1000 sx sy btn typ x y md _ _ _ HM (show _ = wantT 1000 ⟨btn, typ, x, y, md⟩ from rfl) rfl u v r ((tell_eq ⟨sx, sy⟩ ⟨btn, typ, x, y, md⟩ rfl rfl rfl).trans hT) w
  by_cases h2 : mode = 1002
  · subst h2
    exact ttell_m1002 sx sy btn typ x y md _ _ _ HM (show _ = wantT 1002 ⟨btn, typ, x, y, md⟩ from rfl) rfl u v r ((tell_eq ⟨sx, sy⟩ ⟨btn, typ, x, y, md⟩ rfl rfl rfl).trans hT) w
  by_cases h3 : mode = 1003
  · subst h3
    exact ttell_m1003 sx sy btn typ x y md _ _ _ HM (show _ = wantT 1003 ⟨btn, typ, x, y, md⟩ from rfl) rfl u v r ((tell_eq ⟨sx, sy⟩ ⟨btn, typ, x, y, md⟩ rfl rfl rfl).trans hT) w
  have hk : ¬ (mode = 9 ∨ mode = 1000 ∨ mode = 1002 ∨ mode = 1003) := by omega
  rw [tell_no (is_known hk _ _)] at hT
  injection hT with a b
  injection a with c d
  subst b c d
  exact ttell_unknown mode hm hk sx sy btn typ x y md w
/-- All that the layer's laws, and later layers, need of the program's track. -/
theorem trkC : TrkC fun _ => True where
  invB := fun _ _ => trivial
  tell := fun mode s e w _ hm => ttell_any mode hm s e w
  may := fun e w _ => tmay_any e w
end Go.Proofs.Ytbdpjhlfaelgpaa
