/-
  Layer 6: the walk of ModesOne.
-/
import Derived.Test.YtdjglfgdmakjgaaLmO
import Derived.Deep.Cut
namespace Go.Proofs.Ytdjglfgdmakjgaa
open Go.RowKit

/-- Bools as values. -/
def bs_ (l : List Bool) : List Value := l.map Value.bool
theorem Rd.bool_at {w : World} {A : Option Addr} {l : List Bool} (h : Rd w A (bs_ l)) (hp : 0 < l.length) :
    ∃ b o, A = some ⟨b, o, none⟩ ∧ b < w.heap.size ∧ ∀ k (hk : k < l.length), w.cell? ⟨b, o + k, none⟩ = some (.bool l[k]) := by
  obtain ⟨b, o, rfl, hb, hc⟩ := h (by simpa [bs_] using hp)
  exact ⟨b, o, rfl, hb, fun k hk => hc k _ (by simp [bs_, hk])⟩
theorem Blk.far10 {w : World} {g b : Nat} {t : TypeId} {cs : Array Value} (h : Blk w g t cs) (hb : g ≠ b) (x0 x1 x2 x3 x4 x5 x6 x7 x8 x9 : Value) : Blk ((((((((((w.setCell ⟨b, 0, none⟩ x0).setCell ⟨b, 1, none⟩ x1).setCell ⟨b, 2, none⟩ x2).setCell ⟨b, 3, none⟩ x3).setCell ⟨b, 4, none⟩ x4).setCell ⟨b, 5, none⟩ x5).setCell ⟨b, 6, none⟩ x6).setCell ⟨b, 7, none⟩ x7).setCell ⟨b, 8, none⟩ x8).setCell ⟨b, 9, none⟩ x9) g t cs :=
  (((((((((h.far (a := ⟨b, 0, none⟩) hb x0).far (a := ⟨b, 1, none⟩) hb x1).far (a := ⟨b, 2, none⟩) hb x2).far (a := ⟨b, 3, none⟩) hb x3).far (a := ⟨b, 4, none⟩) hb x4).far (a := ⟨b, 5, none⟩) hb x5).far (a := ⟨b, 6, none⟩) hb x6).far (a := ⟨b, 7, none⟩) hb x7).far (a := ⟨b, 8, none⟩) hb x8).far (a := ⟨b, 9, none⟩) hb x9
theorem own_parts {x : Int} (h : x ∈ ownM) : x = 9 ∨ (1000 ≤ x ∧ x ≤ 1003) ∨ (1005 ≤ x ∧ x ≤ 1015) ∨ (x = 1 ∨ x = 66 ∨ x = 67 ∨ x = 1004 ∨ x = 2004) := by
  simp only [ownM, List.mem_cons, List.mem_nil_iff, or_false] at h
  omega
section
variable {Inv : World → Prop}
set_option maxRecDepth 100000 in
set_option maxHeartbeats 32000000 in
theorem one_first (H : ModC Inv) (A : Option Addr) (l : List Int) (c : Nat) (B : Option Addr) (u : List Bool) (d : Nat) (n m : Nat) (hn : l.length = n) (hm : u.length = m) (w : World) (hr : Rd w A (is_ l)) (hq : Rd w B (bs_ u)) (hli : ∀ z ∈ l, inI z) (h40 : n ≤ 40) (hv : Inv w) :
    Calls Try.prog 6 #[.slice A n c, .slice B m d] w fun e w' => e = .returned (.bool true) ∧ Below w.heap.size w w' := by
  have HN := Lib.hid hn
  have HM := Lib.hid hm
  have HLI := Lib.hid hli
  clear hn hm hli
  go_enter Try.func6, Try.ntmps6
  go_wp2_with fail
  refine (modesAwake H _ hv).mono ?_
  rintro e w1 ⟨rfl, hb1⟩
  have hr1 := hr.below hb1
  have hq1 := hq.below hb1
  have kg := Blk.new w1 23 (moC mo0)
  have hbe1 := hb1.alloc hb1.size (.cells (moC mo0) 23)
  have hr2 := hr1.alloc (.cells (moC mo0) 23)
  have hq2 := hq1.alloc (.cells (moC mo0) 23)
  go_wp2_with fail
  have hgw : w.heap.size ≤ w1.heap.size := hb1.size
  obtain ⟨g, hg⟩ : ∃ g, w1.heap.size = g := ⟨_, rfl⟩
  rw [hg] at kg hgw ⊢
  clear hg hr1 hq1 hb1 hr2 hq2
  go_loopw [7] (fun i wr => ∃ (k : Nat) (mk : Mo), k ≤ n ∧ i = .int .i64 k ∧ Hid (okM mk) ∧ Hid (mayM mk = true) ∧ Blk wr g 23 (moC mk) ∧ Below w.heap.size w wr) (fun i _ => n - (intOf i).toNat)
  case atStart => exact ⟨0, mo0, Nat.zero_le _, rfl, Lib.hid ⟨inI_zero, inI_zero⟩, Lib.hid may_mo0, kg, hbe1⟩
  case round =>
    clear kg hbe1
    obtain ⟨k, mk, hk, rfl, HO, HY, kg2, hbw⟩ := hrel
    by_cases hlt : k < n
    · have hkl : k < l.length := by rw [HN.out]; exact hlt
      obtain ⟨b, o, rfl, hbl, hcell⟩ := hr.int_at (by omega)
      obtain ⟨x, hx⟩ : ∃ x, l[k]'hkl = x := ⟨_, rfl⟩
      have HX := Lib.hid (show inI x by rw [← hx]; exact HLI.out _ (List.getElem_mem hkl))
      have hckr : wr.cell? ⟨b, o + k, none⟩ = some (.int .i64 x) := by rw [← hx]; exact (hbw.cell (p := ⟨b, o + k, none⟩) hbl).trans (hcell k hkl)
      clear hcell hx
      by_cases hlm : k < m
      · have hku : k < u.length := by rw [HM.out]; exact hlm
        obtain ⟨b2, o2, rfl, hbl2, hcell2⟩ := hq.bool_at (by omega)
        obtain ⟨v, hv2⟩ : ∃ v, u[k]'hku = v := ⟨_, rfl⟩
        have hckq : wr.cell? ⟨b2, o2 + k, none⟩ = some (.bool v) := by rw [← hv2]; exact (hbw.cell (p := ⟨b2, o2 + k, none⟩) hbl2).trans (hcell2 k hku)
        clear hcell2 hv2
        obtain ⟨mn, q, hs⟩ : ∃ m' q, setM mk true x v = (m', q) := ⟨_, _, rfl⟩
        have HS1 := Lib.hid hs
        have HO2 := Lib.hid (show okM mn by have := ok_set HO.out true HX.out v; rw [hs] at this; exact this)
        have HY2 := Lib.hid (show mayM mn = true by have := may_set mk true x v HY.out; rw [hs] at this; exact this)
        clear hs
        have HS : Hid (∀ W, Below wr.heap.size wr W → Below wr.heap.size wr W ∧ W.cell? ⟨b, o + k, none⟩ = some (.int .i64 x) ∧ W.cell? ⟨g, 0, none⟩ = some (.bool mk.cursor) ∧ W.cell? ⟨g, 1, none⟩ = some (.bool mk.keypad) ∧ W.cell? ⟨g, 2, none⟩ = some (.bool mk.back) ∧ W.cell? ⟨g, 3, none⟩ = some (.bool mk.focus) ∧ W.cell? ⟨g, 4, none⟩ = some (.bool mk.paste) ∧ W.cell? ⟨g, 5, none⟩ = some (.bool mk.lock) ∧ W.cell? ⟨g, 6, none⟩ = some (.bool mk.line) ∧ W.cell? ⟨g, 7, none⟩ = some (.int .i64 mk.mouse) ∧ W.cell? ⟨g, 8, none⟩ = some (.int .i64 mk.coding) ∧ W.cell? ⟨g, 9, none⟩ = some (.int .i64 mk.other)) := by
          have hlt1 : b < wr.heap.size := Nat.lt_of_lt_of_le hbl hbw.size
          have hlt3 := kg2.lt
          exact Lib.hid fun W hb => ⟨hb, (hb.cell (p := ⟨b, o + k, none⟩) hlt1).trans hckr, (hb.cell (p := ⟨g, 0, none⟩) hlt3).trans (kg2.cell 0), (hb.cell (p := ⟨g, 1, none⟩) hlt3).trans (kg2.cell 1), (hb.cell (p := ⟨g, 2, none⟩) hlt3).trans (kg2.cell 2), (hb.cell (p := ⟨g, 3, none⟩) hlt3).trans (kg2.cell 3), (hb.cell (p := ⟨g, 4, none⟩) hlt3).trans (kg2.cell 4), (hb.cell (p := ⟨g, 5, none⟩) hlt3).trans (kg2.cell 5), (hb.cell (p := ⟨g, 6, none⟩) hlt3).trans (kg2.cell 6), (hb.cell (p := ⟨g, 7, none⟩) hlt3).trans (kg2.cell 7), (hb.cell (p := ⟨g, 8, none⟩) hlt3).trans (kg2.cell 8), (hb.cell (p := ⟨g, 9, none⟩) hlt3).trans (kg2.cell 9)⟩
        have HI : Hid (∀ W, Below wr.heap.size wr W → Below w.heap.size w W) := Lib.hid fun W hb => below_step hbw hb hbw.size
        have HV : Hid (∀ W, Below wr.heap.size wr W → Inv W) := Lib.hid fun W hb => H.invB hv (HI.out W hb)
        have HSET : Hid (∀ W, Below wr.heap.size wr W → Calls Try.prog 10 #[.agg #[.bool mk.cursor, .bool mk.keypad, .bool mk.back, .bool mk.focus, .bool mk.paste, .bool mk.lock, .bool mk.line, .int .i64 mk.mouse, .int .i64 mk.coding, .int .i64 mk.other], .bool true, .int .i64 x, .bool v] W fun e w' => e = .returned (.tuple #[.agg #[.bool mn.cursor, .bool mn.keypad, .bool mn.back, .bool mn.focus, .bool mn.paste, .bool mn.lock, .bool mn.line, .int .i64 mn.mouse, .int .i64 mn.coding, .int .i64 mn.other], .bool q]) ∧ Below W.heap.size W w') := Lib.hid fun W hb => H.set_at (m := mk) _ (HV.out _ hb) HX.out HS1.out
        have gk0 : (0 : Int) ≤ (k : Int) := by omega
        have gk1 : (k : Int) < (n : Int) := by omega
        have gk2 : (k : Int) < (m : Int) := by omega
        go_wp2_with fail
        rw [show (decide (m ≤ k) || v) = v by rw [decide_eq_false (by omega), Bool.false_or]]
        go_region_held3 (fun W => Below wr.heap.size wr W ∧ W.cell? ⟨b, o + k, none⟩ = some (.int .i64 x) ∧ W.cell? ⟨g, 0, none⟩ = some (.bool mk.cursor) ∧ W.cell? ⟨g, 1, none⟩ = some (.bool mk.keypad) ∧ W.cell? ⟨g, 2, none⟩ = some (.bool mk.back) ∧ W.cell? ⟨g, 3, none⟩ = some (.bool mk.focus) ∧ W.cell? ⟨g, 4, none⟩ = some (.bool mk.paste) ∧ W.cell? ⟨g, 5, none⟩ = some (.bool mk.lock) ∧ W.cell? ⟨g, 6, none⟩ = some (.bool mk.line) ∧ W.cell? ⟨g, 7, none⟩ = some (.int .i64 mk.mouse) ∧ W.cell? ⟨g, 8, none⟩ = some (.int .i64 mk.coding) ∧ W.cell? ⟨g, 9, none⟩ = some (.int .i64 mk.other))
          (first | with_reducible exact HS.out _ (below_set10 hw6 (Nat.le_refl _) _ _ _ _ _ _ _ _ _ _) | with_reducible exact HS.out _ hw6 | with_reducible exact HS.out _ (hw6.alloc hw6.size _) | with_reducible exact HS.out _ ((Below.refl _ _).drew.alloc (by simp) _) | with_reducible exact HS.out _ (Below.refl _ _).drew)
          (first
            | (go_at_call 10; refine (HSET.out _ (And.left (by assumption))).mono ?_; rintro e w6 ⟨rfl, hb6⟩; have hw6 : Below wr.heap.size wr w6 := below_step (And.left (by assumption)) hb6 (Below.size (And.left (by assumption))); (try (have kz : Blk w6 wr.heap.size 23 #[.bool false, .bool false, .bool false, .bool false, .bool false, .bool false, .bool false, .int .i64 0, .int .i64 0, .int .i64 0] := Blk.below (Blk.new (World.drew wr) 23 #[.bool false, .bool false, .bool false, .bool false, .bool false, .bool false, .bool false, .int .i64 0, .int .i64 0, .int .i64 0]) hb6 (by simp); obtain ⟨z0, z1, z2, z3, z4, z5, z6, z7, z8, z9⟩ := Blk.cells10 kz; have f0 := kz.frozen 0; have f1 := kz.frozen 1; have f2 := kz.frozen 2; have f3 := kz.frozen 3; have f4 := kz.frozen 4; have f5 := kz.frozen 5; have f6 := kz.frozen 6; have f7 := kz.frozen 7; have f8 := kz.frozen 8; have f9 := kz.frozen 9))))
        all_goals
          first
            | (have kx := kz.set10 (.bool mn.cursor) (.bool mn.keypad) (.bool mn.back) (.bool mn.focus) (.bool mn.paste) (.bool mn.lock) (.bool mn.line) (.int .i64 mn.mouse) (.int .i64 mn.coding) (.int .i64 mn.other); have kW := (kg2.below hw6 kg2.lt).far10 (b := wr.heap.size) (Nat.ne_of_lt kg2.lt) (.bool mn.cursor) (.bool mn.keypad) (.bool mn.back) (.bool mn.focus) (.bool mn.paste) (.bool mn.lock) (.bool mn.line) (.int .i64 mn.mouse) (.int .i64 mn.coding) (.int .i64 mn.other); have hW := below_set10 (HI.out _ hw6) (g := wr.heap.size) hbw.size (.bool mn.cursor) (.bool mn.keypad) (.bool mn.back) (.bool mn.focus) (.bool mn.paste) (.bool mn.lock) (.bool mn.line) (.int .i64 mn.mouse) (.int .i64 mn.coding) (.int .i64 mn.other); clear kz)
            | (have kx := Blk.new w6 23 (moC mn); have kW := (kg2.below hw6 kg2.lt).alloc (.cells (moC mn) 23); have hW := (HI.out _ hw6).alloc (HI.out _ hw6).size (.cells (moC mn) 23); simp only [moC] at kx kW hW)
          obtain ⟨c0, c1, c2, c3, c4, c5, c6, c7, c8, c9⟩ := Blk.cells10 kx
          obtain ⟨p0, p1, p2, p3, p4, p5, p6, p7, p8, p9⟩ := Blk.cells10 kW
          have q0 := kW.frozen 0
          have q1 := kW.frozen 1
          have q2 := kW.frozen 2
          have q3 := kW.frozen 3
          have q4 := kW.frozen 4
          have q5 := kW.frozen 5
          have q6 := kW.frozen 6
          have q7 := kW.frozen 7
          have q8 := kW.frozen 8
          have q9 := kW.frozen 9
          have kE := kW.set10 (.bool mn.cursor) (.bool mn.keypad) (.bool mn.back) (.bool mn.focus) (.bool mn.paste) (.bool mn.lock) (.bool mn.line) (.int .i64 mn.mouse) (.int .i64 mn.coding) (.int .i64 mn.other)
          have hE := below_set10 hW hgw (.bool mn.cursor) (.bool mn.keypad) (.bool mn.back) (.bool mn.focus) (.bool mn.paste) (.bool mn.lock) (.bool mn.line) (.int .i64 mn.mouse) (.int .i64 mn.coding) (.int .i64 mn.other)
          clear kx kW hW
          go_wp2_with fail
          go_roundw
          case rel => exact ⟨k + 1, mn, by omega, by go_num, HO2, HY2, kE, hE⟩
          case measure => simp [intOf]; omega
      · have hlm2 : m ≤ k := by omega
        obtain ⟨mn, q, hs⟩ : ∃ m' q, setM mk true x true = (m', q) := ⟨_, _, rfl⟩
        have HS1 := Lib.hid hs
        have HO2 := Lib.hid (show okM mn by have := ok_set HO.out true HX.out true; rw [hs] at this; exact this)
        have HY2 := Lib.hid (show mayM mn = true by have := may_set mk true x true HY.out; rw [hs] at this; exact this)
        clear hs
        have HS : Hid (∀ W, Below wr.heap.size wr W → Below wr.heap.size wr W ∧ W.cell? ⟨b, o + k, none⟩ = some (.int .i64 x) ∧ W.cell? ⟨g, 0, none⟩ = some (.bool mk.cursor) ∧ W.cell? ⟨g, 1, none⟩ = some (.bool mk.keypad) ∧ W.cell? ⟨g, 2, none⟩ = some (.bool mk.back) ∧ W.cell? ⟨g, 3, none⟩ = some (.bool mk.focus) ∧ W.cell? ⟨g, 4, none⟩ = some (.bool mk.paste) ∧ W.cell? ⟨g, 5, none⟩ = some (.bool mk.lock) ∧ W.cell? ⟨g, 6, none⟩ = some (.bool mk.line) ∧ W.cell? ⟨g, 7, none⟩ = some (.int .i64 mk.mouse) ∧ W.cell? ⟨g, 8, none⟩ = some (.int .i64 mk.coding) ∧ W.cell? ⟨g, 9, none⟩ = some (.int .i64 mk.other)) := by
          have hlt1 : b < wr.heap.size := Nat.lt_of_lt_of_le hbl hbw.size
          have hlt3 := kg2.lt
          exact Lib.hid fun W hb => ⟨hb, (hb.cell (p := ⟨b, o + k, none⟩) hlt1).trans hckr, (hb.cell (p := ⟨g, 0, none⟩) hlt3).trans (kg2.cell 0), (hb.cell (p := ⟨g, 1, none⟩) hlt3).trans (kg2.cell 1), (hb.cell (p := ⟨g, 2, none⟩) hlt3).trans (kg2.cell 2), (hb.cell (p := ⟨g, 3, none⟩) hlt3).trans (kg2.cell 3), (hb.cell (p := ⟨g, 4, none⟩) hlt3).trans (kg2.cell 4), (hb.cell (p := ⟨g, 5, none⟩) hlt3).trans (kg2.cell 5), (hb.cell (p := ⟨g, 6, none⟩) hlt3).trans (kg2.cell 6), (hb.cell (p := ⟨g, 7, none⟩) hlt3).trans (kg2.cell 7), (hb.cell (p := ⟨g, 8, none⟩) hlt3).trans (kg2.cell 8), (hb.cell (p := ⟨g, 9, none⟩) hlt3).trans (kg2.cell 9)⟩
        have HI : Hid (∀ W, Below wr.heap.size wr W → Below w.heap.size w W) := Lib.hid fun W hb => below_step hbw hb hbw.size
        have HV : Hid (∀ W, Below wr.heap.size wr W → Inv W) := Lib.hid fun W hb => H.invB hv (HI.out W hb)
        have HSET : Hid (∀ W, Below wr.heap.size wr W → Calls Try.prog 10 #[.agg #[.bool mk.cursor, .bool mk.keypad, .bool mk.back, .bool mk.focus, .bool mk.paste, .bool mk.lock, .bool mk.line, .int .i64 mk.mouse, .int .i64 mk.coding, .int .i64 mk.other], .bool true, .int .i64 x, .bool true] W fun e w' => e = .returned (.tuple #[.agg #[.bool mn.cursor, .bool mn.keypad, .bool mn.back, .bool mn.focus, .bool mn.paste, .bool mn.lock, .bool mn.line, .int .i64 mn.mouse, .int .i64 mn.coding, .int .i64 mn.other], .bool q]) ∧ Below W.heap.size W w') := Lib.hid fun W hb => H.set_at (m := mk) _ (HV.out _ hb) HX.out HS1.out
        have gk0 : (0 : Int) ≤ (k : Int) := by omega
        have gk1 : (k : Int) < (n : Int) := by omega
        have gk2 : (m : Int) ≤ (k : Int) := by omega
        have td : decide (m ≤ k) = true := decide_eq_true (by omega)
        have TD := Lib.hid td
        clear td
        go_wp2_with fail
        try simp only [TD.out, Bool.true_or]
        go_region_held3 (fun W => Below wr.heap.size wr W ∧ W.cell? ⟨b, o + k, none⟩ = some (.int .i64 x) ∧ W.cell? ⟨g, 0, none⟩ = some (.bool mk.cursor) ∧ W.cell? ⟨g, 1, none⟩ = some (.bool mk.keypad) ∧ W.cell? ⟨g, 2, none⟩ = some (.bool mk.back) ∧ W.cell? ⟨g, 3, none⟩ = some (.bool mk.focus) ∧ W.cell? ⟨g, 4, none⟩ = some (.bool mk.paste) ∧ W.cell? ⟨g, 5, none⟩ = some (.bool mk.lock) ∧ W.cell? ⟨g, 6, none⟩ = some (.bool mk.line) ∧ W.cell? ⟨g, 7, none⟩ = some (.int .i64 mk.mouse) ∧ W.cell? ⟨g, 8, none⟩ = some (.int .i64 mk.coding) ∧ W.cell? ⟨g, 9, none⟩ = some (.int .i64 mk.other))
          (first | with_reducible exact HS.out _ (below_set10 hw6 (Nat.le_refl _) _ _ _ _ _ _ _ _ _ _) | with_reducible exact HS.out _ hw6 | with_reducible exact HS.out _ (hw6.alloc hw6.size _) | with_reducible exact HS.out _ ((Below.refl _ _).drew.alloc (by simp) _) | with_reducible exact HS.out _ (Below.refl _ _).drew)
          (first
            | (go_at_call 10; refine (HSET.out _ (And.left (by assumption))).mono ?_; rintro e w6 ⟨rfl, hb6⟩; have hw6 : Below wr.heap.size wr w6 := below_step (And.left (by assumption)) hb6 (Below.size (And.left (by assumption))); (try (have kz : Blk w6 wr.heap.size 23 #[.bool false, .bool false, .bool false, .bool false, .bool false, .bool false, .bool false, .int .i64 0, .int .i64 0, .int .i64 0] := Blk.below (Blk.new (World.drew wr) 23 #[.bool false, .bool false, .bool false, .bool false, .bool false, .bool false, .bool false, .int .i64 0, .int .i64 0, .int .i64 0]) hb6 (by simp); obtain ⟨z0, z1, z2, z3, z4, z5, z6, z7, z8, z9⟩ := Blk.cells10 kz; have f0 := kz.frozen 0; have f1 := kz.frozen 1; have f2 := kz.frozen 2; have f3 := kz.frozen 3; have f4 := kz.frozen 4; have f5 := kz.frozen 5; have f6 := kz.frozen 6; have f7 := kz.frozen 7; have f8 := kz.frozen 8; have f9 := kz.frozen 9))))
        all_goals
          first
            | (have kx := kz.set10 (.bool mn.cursor) (.bool mn.keypad) (.bool mn.back) (.bool mn.focus) (.bool mn.paste) (.bool mn.lock) (.bool mn.line) (.int .i64 mn.mouse) (.int .i64 mn.coding) (.int .i64 mn.other); have kW := (kg2.below hw6 kg2.lt).far10 (b := wr.heap.size) (Nat.ne_of_lt kg2.lt) (.bool mn.cursor) (.bool mn.keypad) (.bool mn.back) (.bool mn.focus) (.bool mn.paste) (.bool mn.lock) (.bool mn.line) (.int .i64 mn.mouse) (.int .i64 mn.coding) (.int .i64 mn.other); have hW := below_set10 (HI.out _ hw6) (g := wr.heap.size) hbw.size (.bool mn.cursor) (.bool mn.keypad) (.bool mn.back) (.bool mn.focus) (.bool mn.paste) (.bool mn.lock) (.bool mn.line) (.int .i64 mn.mouse) (.int .i64 mn.coding) (.int .i64 mn.other); clear kz)
            | (have kx := Blk.new w6 23 (moC mn); have kW := (kg2.below hw6 kg2.lt).alloc (.cells (moC mn) 23); have hW := (HI.out _ hw6).alloc (HI.out _ hw6).size (.cells (moC mn) 23); simp only [moC] at kx kW hW)
          obtain ⟨c0, c1, c2, c3, c4, c5, c6, c7, c8, c9⟩ := Blk.cells10 kx
          obtain ⟨p0, p1, p2, p3, p4, p5, p6, p7, p8, p9⟩ := Blk.cells10 kW
          have q0 := kW.frozen 0
          have q1 := kW.frozen 1
          have q2 := kW.frozen 2
          have q3 := kW.frozen 3
          have q4 := kW.frozen 4
          have q5 := kW.frozen 5
          have q6 := kW.frozen 6
          have q7 := kW.frozen 7
          have q8 := kW.frozen 8
          have q9 := kW.frozen 9
          have kE := kW.set10 (.bool mn.cursor) (.bool mn.keypad) (.bool mn.back) (.bool mn.focus) (.bool mn.paste) (.bool mn.lock) (.bool mn.line) (.int .i64 mn.mouse) (.int .i64 mn.coding) (.int .i64 mn.other)
          have hE := below_set10 hW hgw (.bool mn.cursor) (.bool mn.keypad) (.bool mn.back) (.bool mn.focus) (.bool mn.paste) (.bool mn.lock) (.bool mn.line) (.int .i64 mn.mouse) (.int .i64 mn.coding) (.int .i64 mn.other)
          clear kx kW hW
          go_wp2_with fail
          go_roundw
          case rel => exact ⟨k + 1, mn, by omega, by go_num, HO2, HY2, kE, hE⟩
          case measure => simp [intOf]; omega
    · obtain rfl : k = n := by omega
      clear hr hq hlt hk
      go_wp2_with fail
      refine (H.own _ (H.invB hv hbw)).mono ?_
      rintro e w3 ⟨A3, c3, rfl, hc3, hr3, hb3⟩
      have k3 := kg2.below hb3 kg2.lt
      have hbw3 := below_step hbw hb3 hbw.size
      clear kg2 hbw hb3 hgw
      obtain ⟨b, o, rfl, hbl, hcell⟩ := hr3.int_at (by decide)
      clear hr3
      go_wp2_with fail
      go_loopw [11, 12, 14] (fun mi co i wr => ∃ k2 : Nat, k2 ≤ 12 ∧ i = .int .i64 k2 ∧ mi = .int .i64 (miceM mk k2) ∧ co = .int .i64 (codsM mk k2) ∧ Below w3.heap.size w3 wr) (fun _ _ i _ => 12 - (intOf i).toNat)
      case atStart => exact ⟨0, Nat.zero_le _, rfl, rfl, rfl, Below.refl _ _⟩
      case round =>
        obtain ⟨k2, hk2, rfl, rfl, rfl, hbw4⟩ := hrel
        have k4 := k3.below hbw4 k3.lt
        have hbw5 := below_step hbw3 hbw4 hbw3.size
        have ma1 := mice_one mk k2
        have ca1 := cods_one mk k2
        by_cases hlt2 : k2 < 12
        · have hms := mice_step mk k2 hlt2
          have hcs := cods_step mk k2 hlt2
          have hin := own_parts (List.getElem_mem hlt2)
          have hxi := own_inI hlt2
          have hck := (hbw4.cell (p := ⟨b, o + k2, none⟩) hbl).trans (hcell k2 hlt2)
          obtain ⟨x, hx⟩ : ∃ x, ownM[k2]'hlt2 = x := ⟨_, rfl⟩
          have hck' : wr.cell? ⟨b, o + k2, none⟩ = some (.int .i64 x) := by rw [← hx]; exact hck
          rw [hx] at hms hcs hin hxi
          clear hck
          have hck := hck'
          clear hck' hx
          obtain ⟨y, hy⟩ : ∃ y, getM mk true x = y := ⟨_, rfl⟩
          obtain ⟨a, ha⟩ : ∃ a, miceM mk k2 = a := ⟨_, rfl⟩
          obtain ⟨d2, hd⟩ : ∃ a, codsM mk k2 = a := ⟨_, rfl⟩
          rw [ha] at ma1 hms ⊢
          rw [hd] at ca1 hcs ⊢
          unfold mouseT at hms
          unfold codingT at hcs
          rw [hy] at hms hcs
          have HIV : Hid (∀ W, Below wr.heap.size wr W → Inv W) := Lib.hid fun W hb => H.invB hv (below_step hbw5 hb hbw5.size)
          have HI3 : Hid (∀ W, Below wr.heap.size wr W → Below w3.heap.size w3 W) := Lib.hid fun W hb => below_step hbw4 hb hbw4.size
          have HGET : Hid (∀ W, Below wr.heap.size wr W → Calls Try.prog 12 #[.agg #[.bool mk.cursor, .bool mk.keypad, .bool mk.back, .bool mk.focus, .bool mk.paste, .bool mk.lock, .bool mk.line, .int .i64 mk.mouse, .int .i64 mk.coding, .int .i64 mk.other], .bool true, .int .i64 x] W fun e w' => e = .returned (.int .i64 y) ∧ Below W.heap.size W w') := Lib.hid fun W hb => H.get_at (m := mk) _ (HIV.out _ hb) hxi hy
          have HS : Hid (∀ W, Below wr.heap.size wr W → Below wr.heap.size wr W ∧ W.cell? ⟨b, o + k2, none⟩ = some (.int .i64 x) ∧ W.cell? ⟨g, 0, none⟩ = some (.bool mk.cursor) ∧ W.cell? ⟨g, 1, none⟩ = some (.bool mk.keypad) ∧ W.cell? ⟨g, 2, none⟩ = some (.bool mk.back) ∧ W.cell? ⟨g, 3, none⟩ = some (.bool mk.focus) ∧ W.cell? ⟨g, 4, none⟩ = some (.bool mk.paste) ∧ W.cell? ⟨g, 5, none⟩ = some (.bool mk.lock) ∧ W.cell? ⟨g, 6, none⟩ = some (.bool mk.line) ∧ W.cell? ⟨g, 7, none⟩ = some (.int .i64 mk.mouse) ∧ W.cell? ⟨g, 8, none⟩ = some (.int .i64 mk.coding) ∧ W.cell? ⟨g, 9, none⟩ = some (.int .i64 mk.other)) := by
            have hlt1 : b < wr.heap.size := Nat.lt_of_lt_of_le hbl hbw4.size
            have hlt3 := k4.lt
            exact Lib.hid fun W hb => ⟨hb, (hb.cell (p := ⟨b, o + k2, none⟩) hlt1).trans hck, (hb.cell (p := ⟨g, 0, none⟩) hlt3).trans (k4.cell 0), (hb.cell (p := ⟨g, 1, none⟩) hlt3).trans (k4.cell 1), (hb.cell (p := ⟨g, 2, none⟩) hlt3).trans (k4.cell 2), (hb.cell (p := ⟨g, 3, none⟩) hlt3).trans (k4.cell 3), (hb.cell (p := ⟨g, 4, none⟩) hlt3).trans (k4.cell 4), (hb.cell (p := ⟨g, 5, none⟩) hlt3).trans (k4.cell 5), (hb.cell (p := ⟨g, 6, none⟩) hlt3).trans (k4.cell 6), (hb.cell (p := ⟨g, 7, none⟩) hlt3).trans (k4.cell 7), (hb.cell (p := ⟨g, 8, none⟩) hlt3).trans (k4.cell 8), (hb.cell (p := ⟨g, 9, none⟩) hlt3).trans (k4.cell 9)⟩
          have gk0 : (0 : Int) ≤ (k2 : Int) := by omega
          have gk1 : (k2 : Int) < 12 := by omega
          have HMS := Lib.hid hms
          have HCS := Lib.hid hcs
          clear hms hcs ha hd hxi k4 hbw5 hcell hbw4 hy hck
          by_cases hy1 : y = 1
          · subst hy1
            rcases hin with rfl | ⟨h1, h2⟩ | ⟨h1, h2⟩ | hin
            · have HMS2 := Lib.hid (show miceM mk (k2 + 1) = a + 1 by rw [HMS.out]; simp)
              have HCS2 := Lib.hid (show codsM mk (k2 + 1) = d2 by rw [HCS.out]; simp)
              go_wp2_with fail
              go_region_held3 (fun W => Below wr.heap.size wr W ∧ W.cell? ⟨b, o + k2, none⟩ = some (.int .i64 9) ∧ W.cell? ⟨g, 0, none⟩ = some (.bool mk.cursor) ∧ W.cell? ⟨g, 1, none⟩ = some (.bool mk.keypad) ∧ W.cell? ⟨g, 2, none⟩ = some (.bool mk.back) ∧ W.cell? ⟨g, 3, none⟩ = some (.bool mk.focus) ∧ W.cell? ⟨g, 4, none⟩ = some (.bool mk.paste) ∧ W.cell? ⟨g, 5, none⟩ = some (.bool mk.lock) ∧ W.cell? ⟨g, 6, none⟩ = some (.bool mk.line) ∧ W.cell? ⟨g, 7, none⟩ = some (.int .i64 mk.mouse) ∧ W.cell? ⟨g, 8, none⟩ = some (.int .i64 mk.coding) ∧ W.cell? ⟨g, 9, none⟩ = some (.int .i64 mk.other))
                (first | with_reducible exact HS.out _ (Below.refl _ _).drew | with_reducible exact HS.out _ hw6)
                (first
                  | (go_at_call 12; refine (HGET.out _ (And.left (by assumption))).mono ?_; rintro e w6 ⟨rfl, hb6⟩; have hw6 : Below wr.heap.size wr w6 := below_step (And.left (by assumption)) hb6 (Below.size (And.left (by assumption)))))
              all_goals
                go_wp2_with fail
                go_roundw
                case rel => exact ⟨k2 + 1, by omega, by go_num, by rw [HMS2.out] <;> go_num, by rw [HCS2.out] <;> go_num, HI3.out _ hw6⟩
                case measure => simp [intOf]; omega
            · have HMS2 := Lib.hid (show miceM mk (k2 + 1) = a + 1 by rw [HMS.out]; simp [h1, h2])
              have HCS2 := Lib.hid (show codsM mk (k2 + 1) = d2 by rw [HCS.out]; simp <;> omega)
              have t9 : (x == 9) = false := beq_false_of_ne (by omega)
              go_wp2_with fail
              go_region_held3 (fun W => Below wr.heap.size wr W ∧ W.cell? ⟨b, o + k2, none⟩ = some (.int .i64 x) ∧ W.cell? ⟨g, 0, none⟩ = some (.bool mk.cursor) ∧ W.cell? ⟨g, 1, none⟩ = some (.bool mk.keypad) ∧ W.cell? ⟨g, 2, none⟩ = some (.bool mk.back) ∧ W.cell? ⟨g, 3, none⟩ = some (.bool mk.focus) ∧ W.cell? ⟨g, 4, none⟩ = some (.bool mk.paste) ∧ W.cell? ⟨g, 5, none⟩ = some (.bool mk.lock) ∧ W.cell? ⟨g, 6, none⟩ = some (.bool mk.line) ∧ W.cell? ⟨g, 7, none⟩ = some (.int .i64 mk.mouse) ∧ W.cell? ⟨g, 8, none⟩ = some (.int .i64 mk.coding) ∧ W.cell? ⟨g, 9, none⟩ = some (.int .i64 mk.other))
                (first | with_reducible exact HS.out _ (Below.refl _ _).drew | with_reducible exact HS.out _ hw6)
                (first
                  | (go_at_call 12; refine (HGET.out _ (And.left (by assumption))).mono ?_; rintro e w6 ⟨rfl, hb6⟩; have hw6 : Below wr.heap.size wr w6 := below_step (And.left (by assumption)) hb6 (Below.size (And.left (by assumption)))))
              all_goals
                go_wp2_with fail
                go_roundw
                case rel => exact ⟨k2 + 1, by omega, by go_num, by rw [HMS2.out] <;> go_num, by rw [HCS2.out] <;> go_num, HI3.out _ hw6⟩
                case measure => simp [intOf]; omega
            · have HMS2 := Lib.hid (show miceM mk (k2 + 1) = a by rw [HMS.out]; simp <;> omega)
              have HCS2 := Lib.hid (show codsM mk (k2 + 1) = d2 + 1 by rw [HCS.out]; simp [h1, h2])
              have t9 : (x == 9) = false := beq_false_of_ne (by omega)
              go_wp2_with fail
              go_region_held3 (fun W => Below wr.heap.size wr W ∧ W.cell? ⟨b, o + k2, none⟩ = some (.int .i64 x) ∧ W.cell? ⟨g, 0, none⟩ = some (.bool mk.cursor) ∧ W.cell? ⟨g, 1, none⟩ = some (.bool mk.keypad) ∧ W.cell? ⟨g, 2, none⟩ = some (.bool mk.back) ∧ W.cell? ⟨g, 3, none⟩ = some (.bool mk.focus) ∧ W.cell? ⟨g, 4, none⟩ = some (.bool mk.paste) ∧ W.cell? ⟨g, 5, none⟩ = some (.bool mk.lock) ∧ W.cell? ⟨g, 6, none⟩ = some (.bool mk.line) ∧ W.cell? ⟨g, 7, none⟩ = some (.int .i64 mk.mouse) ∧ W.cell? ⟨g, 8, none⟩ = some (.int .i64 mk.coding) ∧ W.cell? ⟨g, 9, none⟩ = some (.int .i64 mk.other))
                (first | with_reducible exact HS.out _ (Below.refl _ _).drew | with_reducible exact HS.out _ hw6)
                (first
                  | (go_at_call 12; refine (HGET.out _ (And.left (by assumption))).mono ?_; rintro e w6 ⟨rfl, hb6⟩; have hw6 : Below wr.heap.size wr w6 := below_step (And.left (by assumption)) hb6 (Below.size (And.left (by assumption)))))
              all_goals
                go_wp2_with fail
                go_roundw
                case rel => exact ⟨k2 + 1, by omega, by go_num, by rw [HMS2.out] <;> go_num, by rw [HCS2.out] <;> go_num, HI3.out _ hw6⟩
                case measure => simp [intOf]; omega
            · have HMS2 := Lib.hid (show miceM mk (k2 + 1) = a by rw [HMS.out]; simp <;> omega)
              have HCS2 := Lib.hid (show codsM mk (k2 + 1) = d2 by rw [HCS.out]; simp <;> omega)
              have t9 : (x == 9) = false := beq_false_of_ne (by omega)
              have hin2 : x < 1000 ∨ (1003 < x ∧ x < 1005) ∨ 1015 < x := by omega
              clear hin
              rcases hin2 with h1 | ⟨h1, h2⟩ | h1
              all_goals
                go_wp2_with fail
                go_region_held3 (fun W => Below wr.heap.size wr W ∧ W.cell? ⟨b, o + k2, none⟩ = some (.int .i64 x) ∧ W.cell? ⟨g, 0, none⟩ = some (.bool mk.cursor) ∧ W.cell? ⟨g, 1, none⟩ = some (.bool mk.keypad) ∧ W.cell? ⟨g, 2, none⟩ = some (.bool mk.back) ∧ W.cell? ⟨g, 3, none⟩ = some (.bool mk.focus) ∧ W.cell? ⟨g, 4, none⟩ = some (.bool mk.paste) ∧ W.cell? ⟨g, 5, none⟩ = some (.bool mk.lock) ∧ W.cell? ⟨g, 6, none⟩ = some (.bool mk.line) ∧ W.cell? ⟨g, 7, none⟩ = some (.int .i64 mk.mouse) ∧ W.cell? ⟨g, 8, none⟩ = some (.int .i64 mk.coding) ∧ W.cell? ⟨g, 9, none⟩ = some (.int .i64 mk.other))
                  (first | with_reducible exact HS.out _ (Below.refl _ _).drew | with_reducible exact HS.out _ hw6)
                  (first
                    | (go_at_call 12; refine (HGET.out _ (And.left (by assumption))).mono ?_; rintro e w6 ⟨rfl, hb6⟩; have hw6 : Below wr.heap.size wr w6 := below_step (And.left (by assumption)) hb6 (Below.size (And.left (by assumption)))))
                all_goals
                  go_wp2_with fail
                  go_roundw
                  case rel => exact ⟨k2 + 1, by omega, by go_num, by rw [HMS2.out] <;> go_num, by rw [HCS2.out] <;> go_num, HI3.out _ hw6⟩
                  case measure => simp [intOf]; omega
          · have t1 : (y == 1) = false := beq_false_of_ne hy1
            have t2 : decide (y = 1) = false := decide_eq_false hy1
            have t3 : (y != 1) = true := by simp [bne, t1]
            have hms2 : miceM mk (k2 + 1) = a := by rw [HMS.out]; simp [hy1]
            have hcs2 : codsM mk (k2 + 1) = d2 := by rw [HCS.out]; simp [hy1]
            have HMS2 := Lib.hid hms2
            have HCS2 := Lib.hid hcs2
            clear hms2 hcs2 hy1
            go_wp2_with fail
            go_region_held3 (fun W => Below wr.heap.size wr W ∧ W.cell? ⟨b, o + k2, none⟩ = some (.int .i64 x) ∧ W.cell? ⟨g, 0, none⟩ = some (.bool mk.cursor) ∧ W.cell? ⟨g, 1, none⟩ = some (.bool mk.keypad) ∧ W.cell? ⟨g, 2, none⟩ = some (.bool mk.back) ∧ W.cell? ⟨g, 3, none⟩ = some (.bool mk.focus) ∧ W.cell? ⟨g, 4, none⟩ = some (.bool mk.paste) ∧ W.cell? ⟨g, 5, none⟩ = some (.bool mk.lock) ∧ W.cell? ⟨g, 6, none⟩ = some (.bool mk.line) ∧ W.cell? ⟨g, 7, none⟩ = some (.int .i64 mk.mouse) ∧ W.cell? ⟨g, 8, none⟩ = some (.int .i64 mk.coding) ∧ W.cell? ⟨g, 9, none⟩ = some (.int .i64 mk.other))
              (first | with_reducible exact HS.out _ (Below.refl _ _).drew | with_reducible exact HS.out _ hw6)
              (first
                | (go_at_call 12; refine (HGET.out _ (And.left (by assumption))).mono ?_; rintro e w6 ⟨rfl, hb6⟩; have hw6 : Below wr.heap.size wr w6 := below_step (And.left (by assumption)) hb6 (Below.size (And.left (by assumption)))))
            all_goals
              go_wp2_with fail
              go_roundw
              case rel => exact ⟨k2 + 1, by omega, by go_num, by rw [HMS2.out], by rw [HCS2.out], HI3.out _ hw6⟩
              case measure => simp [intOf]; omega
        · obtain rfl : k2 = 12 := by omega
          clear hcell hlt2 hk2
          obtain ⟨a, ha⟩ : ∃ a, miceM mk 12 = a := ⟨_, rfl⟩
          obtain ⟨d2, hd⟩ : ∃ a, codsM mk 12 = a := ⟨_, rfl⟩
          rw [ha] at ma1 ⊢
          rw [hd] at ca1 ⊢
          clear ha hd
          obtain ⟨c0, c1, c2, c3, c4, c5, c6, c7, c8, c9⟩ := Blk.cells10 k4
          go_wp2_with fail
          refine (H.may_at (q := true) _ (H.invB hv hbw5) HO.out HY.out).mono ?_
          rintro e w6 ⟨rfl, hb6⟩
          have hbw6 := below_step hbw5 hb6 hbw5.size
          go_wp2_with fail
          go_ret
          exact ⟨rfl, hbw6⟩
set_option maxRecDepth 100000 in
set_option maxHeartbeats 4000000 in
theorem one_many (H : ModC Inv) (A : Option Addr) (c : Nat) (B : Option Addr) (d : Nat) (n m : Nat) (w : World) (h40 : 40 < n) (hv : Inv w) :
    Calls Try.prog 6 #[.slice A n c, .slice B m d] w fun e w' => e = .returned (.bool true) ∧ Below w.heap.size w w' := by
  go_enter Try.func6, Try.ntmps6
  go_wp2_with fail
  refine (modesAwake H _ hv).mono ?_
  rintro e w1 ⟨rfl, hb1⟩
  go_wp2_with fail
  go_ret
  exact ⟨rfl, hb1⟩
theorem modesOne_walk (H : ModC Inv) (A : Option Addr) (l : List Int) (c : Nat) (_hk : l.length ≤ c) (B : Option Addr) (u : List Bool) (d : Nat) (w : World) (hr : Rd w A (is_ l)) (hli : ∀ z ∈ l, (Lit.int .i64 z).wf = true) (hq : Rd w B (bs_ u)) (hv : Inv w) :
    Calls Try.prog 6 #[.slice A l.length c, .slice B u.length d] w fun e w' => e = .returned (.bool true) ∧ Below w.heap.size w w' := by
  by_cases h : 40 < l.length
  · exact one_many H A c B d _ _ w h hv
  · exact one_first H A l c B u d _ _ rfl rfl w hr hq (fun z hz => by
      have := bounds_i64 (hli z hz)
      exact ⟨by omega, by omega⟩) (by omega) hv
end
end Go.Proofs.Ytdjglfgdmakjgaa
