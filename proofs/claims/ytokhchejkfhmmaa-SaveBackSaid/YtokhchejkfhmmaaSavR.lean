/-
  Layer 7: the document's Restore, walked.
-/
import Derived.Test.YtokhchejkfhmmaaSavQ
namespace Go.Proofs.Ytokhchejkfhmmaa
open Go.RowKit

def MoW (m : Mo) (w : World) (e : Ending) (w' : World) : Prop := e = .returned (moV m) ∧ Below w.heap.size w w'
theorem take_restS (s : List UInt8) (m : Mo) (l : List Int) (k : Nat) (h : k < l.length) : restS s m (l.take (k + 1)) = rest1 s (restS s m (l.take k)) (l[k]'h) := by
  rw [List.take_succ_eq_append_getElem h, restS_snoc]
theorem rest1_at {s : List UInt8} {m : Mo} {n : Int} (h : placeN n < s.length) : rest1 s m n = if s[placeN n]'h = 1 then (setM m true n true).1 else if s[placeN n]'h = 2 then (setM m true n false).1 else m := by
  unfold rest1
  rw [List.getElem?_eq_getElem h]
set_option maxRecDepth 100000 in
set_option maxHeartbeats 16000000 in
theorem rrest_any (s : List UInt8) (hs : s.length = 12) (m : Mo) (A : Option Addr) (l : List Int) (c n : Nat) (hn : l.length = n) (hnl : n ≤ 4294967296) (w : World) (hr : Rd w A (is_ l)) :
    Calls Try.prog 13 #[savV s, moV m, .slice A n c] w (MoW (restS s m l) w) := by
  obtain ⟨b0, b1, b2, b3, b4, b5, b6, b7, b8, b9, b10, b11, hb⟩ := of12 hs
  have hsav : savC s = #[.int .u8 (b0.toNat : Int), .int .u8 (b1.toNat : Int), .int .u8 (b2.toNat : Int), .int .u8 (b3.toNat : Int), .int .u8 (b4.toNat : Int), .int .u8 (b5.toNat : Int), .int .u8 (b6.toNat : Int), .int .u8 (b7.toNat : Int), .int .u8 (b8.toNat : Int), .int .u8 (b9.toNat : Int), .int .u8 (b10.toNat : Int), .int .u8 (b11.toNat : Int)] := by rw [hb]; rfl
  have hsv : savV s = .agg #[.int .u8 (b0.toNat : Int), .int .u8 (b1.toNat : Int), .int .u8 (b2.toNat : Int), .int .u8 (b3.toNat : Int), .int .u8 (b4.toNat : Int), .int .u8 (b5.toNat : Int), .int .u8 (b6.toNat : Int), .int .u8 (b7.toNat : Int), .int .u8 (b8.toNat : Int), .int .u8 (b9.toNat : Int), .int .u8 (b10.toNat : Int), .int .u8 (b11.toNat : Int)] := by rw [savV, hsav]
  have HN := Lib.hid hn
  have HLen := Lib.hid hs
  have HSA := Lib.hid hsav
  rw [hsv, moV]
  have hbe : Below w.heap.size w (((w.alloc (.cells #[.int .u8 (b0.toNat : Int), .int .u8 (b1.toNat : Int), .int .u8 (b2.toNat : Int), .int .u8 (b3.toNat : Int), .int .u8 (b4.toNat : Int), .int .u8 (b5.toNat : Int), .int .u8 (b6.toNat : Int), .int .u8 (b7.toNat : Int), .int .u8 (b8.toNat : Int), .int .u8 (b9.toNat : Int), .int .u8 (b10.toNat : Int), .int .u8 (b11.toNat : Int)] 23)).alloc (.cells #[.bool m.cursor, .bool m.keypad, .bool m.back, .bool m.focus, .bool m.paste, .bool m.lock, .bool m.line, .int .i64 m.mouse, .int .i64 m.coding, .int .i64 m.other] 25)).alloc (.cells #[.bool false, .bool false, .bool false, .bool false, .bool false, .bool false, .bool false, .int .i64 0, .int .i64 0, .int .i64 0] 25)) := (((Below.refl _ w).alloc (Nat.le_refl _) _).alloc (by simp) _).alloc (by simp; omega) _
  have k3 := ((Blk.new w 23 #[.int .u8 (b0.toNat : Int), .int .u8 (b1.toNat : Int), .int .u8 (b2.toNat : Int), .int .u8 (b3.toNat : Int), .int .u8 (b4.toNat : Int), .int .u8 (b5.toNat : Int), .int .u8 (b6.toNat : Int), .int .u8 (b7.toNat : Int), .int .u8 (b8.toNat : Int), .int .u8 (b9.toNat : Int), .int .u8 (b10.toNat : Int), .int .u8 (b11.toNat : Int)]).alloc (.cells #[.bool m.cursor, .bool m.keypad, .bool m.back, .bool m.focus, .bool m.paste, .bool m.lock, .bool m.line, .int .i64 m.mouse, .int .i64 m.coding, .int .i64 m.other] 25)).alloc (.cells #[.bool false, .bool false, .bool false, .bool false, .bool false, .bool false, .bool false, .int .i64 0, .int .i64 0, .int .i64 0] 25)
  have k4 := (Blk.new (w.alloc (.cells #[.int .u8 (b0.toNat : Int), .int .u8 (b1.toNat : Int), .int .u8 (b2.toNat : Int), .int .u8 (b3.toNat : Int), .int .u8 (b4.toNat : Int), .int .u8 (b5.toNat : Int), .int .u8 (b6.toNat : Int), .int .u8 (b7.toNat : Int), .int .u8 (b8.toNat : Int), .int .u8 (b9.toNat : Int), .int .u8 (b10.toNat : Int), .int .u8 (b11.toNat : Int)] 23)) 25 (moC m)).alloc (.cells #[.bool false, .bool false, .bool false, .bool false, .bool false, .bool false, .bool false, .int .i64 0, .int .i64 0, .int .i64 0] 25)
  have k6 := Blk.new ((w.alloc (.cells #[.int .u8 (b0.toNat : Int), .int .u8 (b1.toNat : Int), .int .u8 (b2.toNat : Int), .int .u8 (b3.toNat : Int), .int .u8 (b4.toNat : Int), .int .u8 (b5.toNat : Int), .int .u8 (b6.toNat : Int), .int .u8 (b7.toNat : Int), .int .u8 (b8.toNat : Int), .int .u8 (b9.toNat : Int), .int .u8 (b10.toNat : Int), .int .u8 (b11.toNat : Int)] 23)).alloc (.cells #[.bool m.cursor, .bool m.keypad, .bool m.back, .bool m.focus, .bool m.paste, .bool m.lock, .bool m.line, .int .i64 m.mouse, .int .i64 m.coding, .int .i64 m.other] 25)) 25 #[.bool false, .bool false, .bool false, .bool false, .bool false, .bool false, .bool false, .int .i64 0, .int .i64 0, .int .i64 0]
  simp only [World.size_alloc] at k4 k6
  clear hn hb hs hsv hsav
  go_enter Try.func13, Try.ntmps13
  go_wp2_with fail
  go_loopw [7, 8] (fun i _ wr => ∃ k : Nat, k ≤ n ∧ i = .int .i64 k ∧ Blk wr w.heap.size 23 (savC s) ∧ Blk wr (w.heap.size + 1) 25 (moC (restS s m (l.take k))) ∧ Blk wr (w.heap.size + 1 + 1) 25 #[.bool false, .bool false, .bool false, .bool false, .bool false, .bool false, .bool false, .int .i64 0, .int .i64 0, .int .i64 0] ∧ Below w.heap.size w wr) (fun i _ _ => n - (intOf i).toNat)
  case atStart => exact ⟨0, Nat.zero_le _, rfl, by rw [HSA.out]; exact k3, k4, k6, hbe⟩
  case round =>
    clear k3 k4 k6 hbe
    obtain ⟨k, hk, rfl, k3, k4, k6, hbw⟩ := hrel
    by_cases hlt : k < n
    · have hkl : k < l.length := by rw [HN.out]; exact hlt
      obtain ⟨b, o, rfl, hbl, hcell⟩ := hr.int_at (by omega)
      have hst := take_restS s m l k hkl
      obtain ⟨x, hx⟩ : ∃ x, l[k]'hkl = x := ⟨_, rfl⟩
      have hckr : wr.cell? ⟨b, o + k, none⟩ = some (.int .i64 x) := by rw [← hx]; exact (hbw.cell (p := ⟨b, o + k, none⟩) hbl).trans (hcell k hkl)
      rw [hx] at hst
      obtain ⟨mk, hmk⟩ : ∃ mk, restS s m (l.take k) = mk := ⟨_, rfl⟩
      rw [hmk] at hst k4
      have HST := Lib.hid hst
      have gk0 : (0 : Int) ≤ (k : Int) := by omega
      have gk1 : (k : Int) < (n : Int) := by omega
      clear hcell hx hst hmk
      go_wp2_with fail
      refine (rplace_any x wr).mono ?_
      rintro e w1 ⟨rfl, hb1⟩
      have a3 := k3.below hb1 k3.lt
      have a4 := k4.below hb1 k4.lt
      have a6 := k6.below hb1 k6.lt
      have hbw1 := below_step hbw hb1 hbw.size
      have hck1 : w1.cell? ⟨b, o + k, none⟩ = some (.int .i64 x) := (hb1.cell (p := ⟨b, o + k, none⟩) (World.block_lt_of_cell? wr _ hckr)).trans hckr
      clear k3 k4 k6 hbw hb1 hckr
      by_cases hp : placeN x < 12
      · rw [placeI_yes hp]
        have hat := rest1_at (s := s) (m := mk) (n := x) (by rw [HLen.out]; exact hp)
        have co0 := (a3.cell (placeN x)).trans (savC_get (by rw [HLen.out]; exact hp))
        obtain ⟨v, hv⟩ : ∃ v, s[placeN x]'(by rw [HLen.out]; exact hp) = v := ⟨_, rfl⟩
        rw [hv] at hat co0
        obtain ⟨p, hpp⟩ : ∃ p, placeN x = p := ⟨_, rfl⟩
        rw [hpp] at co0 hp ⊢
        have HAT := Lib.hid hat
        have g0 : (0 : Int) ≤ (p : Int) := by omega
        have g1 : (p : Int) < 12 := by omega
        clear hat hv hpp
        by_cases hv1 : v = 1
        · subst hv1
          have co : w1.cell? ⟨w.heap.size, p, none⟩ = some (.int .u8 1) := co0
          clear co0
          obtain ⟨mn, q, hs⟩ : ∃ m' q, setM mk true x true = (m', q) := ⟨_, _, rfl⟩
          have hst2 : restS s m (l.take (k + 1)) = mn := by rw [HST.out, HAT.out]; simp [hs]
          have HS2 := Lib.hid hst2
          have HSET : Hid (∀ W, Calls Try.prog 21 #[.agg #[.bool mk.cursor, .bool mk.keypad, .bool mk.back, .bool mk.focus, .bool mk.paste, .bool mk.lock, .bool mk.line, .int .i64 mk.mouse, .int .i64 mk.coding, .int .i64 mk.other], .bool true, .int .i64 x, .bool true] W fun e w' => e = .returned (.tuple #[.agg #[.bool mn.cursor, .bool mn.keypad, .bool mn.back, .bool mn.focus, .bool mn.paste, .bool mn.lock, .bool mn.line, .int .i64 mn.mouse, .int .i64 mn.coding, .int .i64 mn.other], .bool q]) ∧ Below W.heap.size W w') := Lib.hid fun W => (rset_any mk true x true W).mono fun e w' h => by rw [hs] at h; exact h
          have HS : Hid (∀ W, Below w1.heap.size w1 W → Below w1.heap.size w1 W ∧ W.cell? ⟨b, o + k, none⟩ = some (.int .i64 x) ∧ W.cell? ⟨w.heap.size, p, none⟩ = some (.int .u8 1) ∧ W.cell? ⟨w.heap.size + 1, 0, none⟩ = some (.bool mk.cursor) ∧ W.cell? ⟨w.heap.size + 1, 1, none⟩ = some (.bool mk.keypad) ∧ W.cell? ⟨w.heap.size + 1, 2, none⟩ = some (.bool mk.back) ∧ W.cell? ⟨w.heap.size + 1, 3, none⟩ = some (.bool mk.focus) ∧ W.cell? ⟨w.heap.size + 1, 4, none⟩ = some (.bool mk.paste) ∧ W.cell? ⟨w.heap.size + 1, 5, none⟩ = some (.bool mk.lock) ∧ W.cell? ⟨w.heap.size + 1, 6, none⟩ = some (.bool mk.line) ∧ W.cell? ⟨w.heap.size + 1, 7, none⟩ = some (.int .i64 mk.mouse) ∧ W.cell? ⟨w.heap.size + 1, 8, none⟩ = some (.int .i64 mk.coding) ∧ W.cell? ⟨w.heap.size + 1, 9, none⟩ = some (.int .i64 mk.other)) := by
            have hlt1 : b < w1.heap.size := World.block_lt_of_cell? w1 _ hck1
            have hlt2 := a3.lt
            have hlt3 := a4.lt
            exact Lib.hid fun W hb => ⟨hb, (hb.cell (p := ⟨b, o + k, none⟩) hlt1).trans hck1, (hb.cell (p := ⟨w.heap.size, p, none⟩) hlt2).trans co, (hb.cell (p := ⟨w.heap.size + 1, 0, none⟩) hlt3).trans (a4.cell 0), (hb.cell (p := ⟨w.heap.size + 1, 1, none⟩) hlt3).trans (a4.cell 1), (hb.cell (p := ⟨w.heap.size + 1, 2, none⟩) hlt3).trans (a4.cell 2), (hb.cell (p := ⟨w.heap.size + 1, 3, none⟩) hlt3).trans (a4.cell 3), (hb.cell (p := ⟨w.heap.size + 1, 4, none⟩) hlt3).trans (a4.cell 4), (hb.cell (p := ⟨w.heap.size + 1, 5, none⟩) hlt3).trans (a4.cell 5), (hb.cell (p := ⟨w.heap.size + 1, 6, none⟩) hlt3).trans (a4.cell 6), (hb.cell (p := ⟨w.heap.size + 1, 7, none⟩) hlt3).trans (a4.cell 7), (hb.cell (p := ⟨w.heap.size + 1, 8, none⟩) hlt3).trans (a4.cell 8), (hb.cell (p := ⟨w.heap.size + 1, 9, none⟩) hlt3).trans (a4.cell 9)⟩
          clear hst2 hs hck1
          go_wp2_with fail
          go_region_held3 (fun W => Below w1.heap.size w1 W ∧ W.cell? ⟨b, o + k, none⟩ = some (.int .i64 x) ∧ W.cell? ⟨w.heap.size, p, none⟩ = some (.int .u8 1) ∧ W.cell? ⟨w.heap.size + 1, 0, none⟩ = some (.bool mk.cursor) ∧ W.cell? ⟨w.heap.size + 1, 1, none⟩ = some (.bool mk.keypad) ∧ W.cell? ⟨w.heap.size + 1, 2, none⟩ = some (.bool mk.back) ∧ W.cell? ⟨w.heap.size + 1, 3, none⟩ = some (.bool mk.focus) ∧ W.cell? ⟨w.heap.size + 1, 4, none⟩ = some (.bool mk.paste) ∧ W.cell? ⟨w.heap.size + 1, 5, none⟩ = some (.bool mk.lock) ∧ W.cell? ⟨w.heap.size + 1, 6, none⟩ = some (.bool mk.line) ∧ W.cell? ⟨w.heap.size + 1, 7, none⟩ = some (.int .i64 mk.mouse) ∧ W.cell? ⟨w.heap.size + 1, 8, none⟩ = some (.int .i64 mk.coding) ∧ W.cell? ⟨w.heap.size + 1, 9, none⟩ = some (.int .i64 mk.other))
            (first | with_reducible exact HS.out _ (below_set10 hw6 (Nat.le_refl _) _ _ _ _ _ _ _ _ _ _) | with_reducible exact HS.out _ hw6 | with_reducible exact HS.out _ (hw6.alloc hw6.size _) | with_reducible exact HS.out _ ((Below.refl _ _).drew.alloc (by simp) _) | with_reducible exact HS.out _ (Below.refl _ _).drew)
            (first
              | (go_at_call 21; refine (HSET.out _).mono ?_; rintro e w6 ⟨rfl, hb6⟩; have hw6 : Below w1.heap.size w1 w6 := below_step (And.left (by assumption)) hb6 (Below.size (And.left (by assumption))); (try (have kz : Blk w6 w1.heap.size 25 #[.bool false, .bool false, .bool false, .bool false, .bool false, .bool false, .bool false, .int .i64 0, .int .i64 0, .int .i64 0] := Blk.below (Blk.new (World.drew w1) 25 #[.bool false, .bool false, .bool false, .bool false, .bool false, .bool false, .bool false, .int .i64 0, .int .i64 0, .int .i64 0]) hb6 (by simp); obtain ⟨z0, z1, z2, z3, z4, z5, z6, z7, z8, z9⟩ := Blk.cells10 kz; have f0 := kz.frozen 0; have f1 := kz.frozen 1; have f2 := kz.frozen 2; have f3 := kz.frozen 3; have f4 := kz.frozen 4; have f5 := kz.frozen 5; have f6 := kz.frozen 6; have f7 := kz.frozen 7; have f8 := kz.frozen 8; have f9 := kz.frozen 9))))
          all_goals
            first
              | (have kx := kz.set10 (.bool mn.cursor) (.bool mn.keypad) (.bool mn.back) (.bool mn.focus) (.bool mn.paste) (.bool mn.lock) (.bool mn.line) (.int .i64 mn.mouse) (.int .i64 mn.coding) (.int .i64 mn.other); have kW := (a4.below hw6 a4.lt).far10 (b := w1.heap.size) (Nat.ne_of_lt a4.lt) (.bool mn.cursor) (.bool mn.keypad) (.bool mn.back) (.bool mn.focus) (.bool mn.paste) (.bool mn.lock) (.bool mn.line) (.int .i64 mn.mouse) (.int .i64 mn.coding) (.int .i64 mn.other); have kS := (a3.below hw6 a3.lt).far10 (b := w1.heap.size) (Nat.ne_of_lt a3.lt) (.bool mn.cursor) (.bool mn.keypad) (.bool mn.back) (.bool mn.focus) (.bool mn.paste) (.bool mn.lock) (.bool mn.line) (.int .i64 mn.mouse) (.int .i64 mn.coding) (.int .i64 mn.other); have kR := (a6.below hw6 a6.lt).far10 (b := w1.heap.size) (Nat.ne_of_lt a6.lt) (.bool mn.cursor) (.bool mn.keypad) (.bool mn.back) (.bool mn.focus) (.bool mn.paste) (.bool mn.lock) (.bool mn.line) (.int .i64 mn.mouse) (.int .i64 mn.coding) (.int .i64 mn.other); have hW := below_set10 (below_step hbw1 hw6 hbw1.size) (g := w1.heap.size) hbw1.size (.bool mn.cursor) (.bool mn.keypad) (.bool mn.back) (.bool mn.focus) (.bool mn.paste) (.bool mn.lock) (.bool mn.line) (.int .i64 mn.mouse) (.int .i64 mn.coding) (.int .i64 mn.other); clear kz)
              | (have kx := Blk.new w6 25 (moC mn); have kW := (a4.below hw6 a4.lt).alloc (.cells (moC mn) 25); have kS := (a3.below hw6 a3.lt).alloc (.cells (moC mn) 25); have kR := (a6.below hw6 a6.lt).alloc (.cells (moC mn) 25); have hW := (below_step hbw1 hw6 hbw1.size).alloc (below_step hbw1 hw6 hbw1.size).size (.cells (moC mn) 25); simp only [moC] at kx kW kS kR hW)
            obtain ⟨c0, c1, c2, c3, c4, c5, c6, c7, c8, c9⟩ := Blk.cells10 kx
            obtain ⟨p0, p1, p2, p3, p4, p5, p6, p7, p8, p9⟩ := Blk.cells10 kW
            have q0 := kW.frozen 0
            have q1 := kW.frozen 1
            have q2 := kW.frozen 2
            have q3 := kW.frozen 3
            have q4 := kW.frozen 4
            have q5 := kW.frozen 5
            have q6 := kW.frozen 6
            have q7 := kW.frozen 7
            have q8 := kW.frozen 8
            have q9 := kW.frozen 9
            have kE := kW.set10 (.bool mn.cursor) (.bool mn.keypad) (.bool mn.back) (.bool mn.focus) (.bool mn.paste) (.bool mn.lock) (.bool mn.line) (.int .i64 mn.mouse) (.int .i64 mn.coding) (.int .i64 mn.other)
            have kT := kS.far10 (b := w.heap.size + 1) (by omega) (.bool mn.cursor) (.bool mn.keypad) (.bool mn.back) (.bool mn.focus) (.bool mn.paste) (.bool mn.lock) (.bool mn.line) (.int .i64 mn.mouse) (.int .i64 mn.coding) (.int .i64 mn.other)
            have kU := kR.far10 (b := w.heap.size + 1) (by omega) (.bool mn.cursor) (.bool mn.keypad) (.bool mn.back) (.bool mn.focus) (.bool mn.paste) (.bool mn.lock) (.bool mn.line) (.int .i64 mn.mouse) (.int .i64 mn.coding) (.int .i64 mn.other)
            have hE := below_set10 hW (g := w.heap.size + 1) (by omega) (.bool mn.cursor) (.bool mn.keypad) (.bool mn.back) (.bool mn.focus) (.bool mn.paste) (.bool mn.lock) (.bool mn.line) (.int .i64 mn.mouse) (.int .i64 mn.coding) (.int .i64 mn.other)
            clear kx kW hW kS kR a3 a4 a6 hbw1
            go_wp2_with fail
            go_roundw
            case rel => exact ⟨k + 1, by omega, by go_num, kT, by rw [HS2.out]; exact kE, kU, hE⟩
            case measure => simp [intOf]; omega
        · by_cases hv2 : v = 2
          · subst hv2
            have co : w1.cell? ⟨w.heap.size, p, none⟩ = some (.int .u8 2) := co0
            clear co0
            obtain ⟨mn, q, hs⟩ : ∃ m' q, setM mk true x false = (m', q) := ⟨_, _, rfl⟩
            have hst2 : restS s m (l.take (k + 1)) = mn := by rw [HST.out, HAT.out]; simp [hs]
            have HS2 := Lib.hid hst2
            have HSET : Hid (∀ W, Calls Try.prog 21 #[.agg #[.bool mk.cursor, .bool mk.keypad, .bool mk.back, .bool mk.focus, .bool mk.paste, .bool mk.lock, .bool mk.line, .int .i64 mk.mouse, .int .i64 mk.coding, .int .i64 mk.other], .bool true, .int .i64 x, .bool false] W fun e w' => e = .returned (.tuple #[.agg #[.bool mn.cursor, .bool mn.keypad, .bool mn.back, .bool mn.focus, .bool mn.paste, .bool mn.lock, .bool mn.line, .int .i64 mn.mouse, .int .i64 mn.coding, .int .i64 mn.other], .bool q]) ∧ Below W.heap.size W w') := Lib.hid fun W => (rset_any mk true x false W).mono fun e w' h => by rw [hs] at h; exact h
            have HS : Hid (∀ W, Below w1.heap.size w1 W → Below w1.heap.size w1 W ∧ W.cell? ⟨b, o + k, none⟩ = some (.int .i64 x) ∧ W.cell? ⟨w.heap.size, p, none⟩ = some (.int .u8 2) ∧ W.cell? ⟨w.heap.size + 1, 0, none⟩ = some (.bool mk.cursor) ∧ W.cell? ⟨w.heap.size + 1, 1, none⟩ = some (.bool mk.keypad) ∧ W.cell? ⟨w.heap.size + 1, 2, none⟩ = some (.bool mk.back) ∧ W.cell? ⟨w.heap.size + 1, 3, none⟩ = some (.bool mk.focus) ∧ W.cell? ⟨w.heap.size + 1, 4, none⟩ = some (.bool mk.paste) ∧ W.cell? ⟨w.heap.size + 1, 5, none⟩ = some (.bool mk.lock) ∧ W.cell? ⟨w.heap.size + 1, 6, none⟩ = some (.bool mk.line) ∧ W.cell? ⟨w.heap.size + 1, 7, none⟩ = some (.int .i64 mk.mouse) ∧ W.cell? ⟨w.heap.size + 1, 8, none⟩ = some (.int .i64 mk.coding) ∧ W.cell? ⟨w.heap.size + 1, 9, none⟩ = some (.int .i64 mk.other)) := by
              have hlt1 : b < w1.heap.size := World.block_lt_of_cell? w1 _ hck1
              have hlt2 := a3.lt
              have hlt3 := a4.lt
              exact Lib.hid fun W hb => ⟨hb, (hb.cell (p := ⟨b, o + k, none⟩) hlt1).trans hck1, (hb.cell (p := ⟨w.heap.size, p, none⟩) hlt2).trans co, (hb.cell (p := ⟨w.heap.size + 1, 0, none⟩) hlt3).trans (a4.cell 0), (hb.cell (p := ⟨w.heap.size + 1, 1, none⟩) hlt3).trans (a4.cell 1), (hb.cell (p := ⟨w.heap.size + 1, 2, none⟩) hlt3).trans (a4.cell 2), (hb.cell (p := ⟨w.heap.size + 1, 3, none⟩) hlt3).trans (a4.cell 3), (hb.cell (p := ⟨w.heap.size + 1, 4, none⟩) hlt3).trans (a4.cell 4), (hb.cell (p := ⟨w.heap.size + 1, 5, none⟩) hlt3).trans (a4.cell 5), (hb.cell (p := ⟨w.heap.size + 1, 6, none⟩) hlt3).trans (a4.cell 6), (hb.cell (p := ⟨w.heap.size + 1, 7, none⟩) hlt3).trans (a4.cell 7), (hb.cell (p := ⟨w.heap.size + 1, 8, none⟩) hlt3).trans (a4.cell 8), (hb.cell (p := ⟨w.heap.size + 1, 9, none⟩) hlt3).trans (a4.cell 9)⟩
            clear hst2 hs hck1
            go_wp2_with fail
            go_region_held3 (fun W => Below w1.heap.size w1 W ∧ W.cell? ⟨b, o + k, none⟩ = some (.int .i64 x) ∧ W.cell? ⟨w.heap.size, p, none⟩ = some (.int .u8 2) ∧ W.cell? ⟨w.heap.size + 1, 0, none⟩ = some (.bool mk.cursor) ∧ W.cell? ⟨w.heap.size + 1, 1, none⟩ = some (.bool mk.keypad) ∧ W.cell? ⟨w.heap.size + 1, 2, none⟩ = some (.bool mk.back) ∧ W.cell? ⟨w.heap.size + 1, 3, none⟩ = some (.bool mk.focus) ∧ W.cell? ⟨w.heap.size + 1, 4, none⟩ = some (.bool mk.paste) ∧ W.cell? ⟨w.heap.size + 1, 5, none⟩ = some (.bool mk.lock) ∧ W.cell? ⟨w.heap.size + 1, 6, none⟩ = some (.bool mk.line) ∧ W.cell? ⟨w.heap.size + 1, 7, none⟩ = some (.int .i64 mk.mouse) ∧ W.cell? ⟨w.heap.size + 1, 8, none⟩ = some (.int .i64 mk.coding) ∧ W.cell? ⟨w.heap.size + 1, 9, none⟩ = some (.int .i64 mk.other))
              (first | with_reducible exact HS.out _ (below_set10 hw6 (Nat.le_refl _) _ _ _ _ _ _ _ _ _ _) | with_reducible exact HS.out _ hw6 | with_reducible exact HS.out _ (hw6.alloc hw6.size _) | with_reducible exact HS.out _ ((Below.refl _ _).drew.alloc (by simp) _) | with_reducible exact HS.out _ (Below.refl _ _).drew)
              (first
                | (go_at_call 21; refine (HSET.out _).mono ?_; rintro e w6 ⟨rfl, hb6⟩; have hw6 : Below w1.heap.size w1 w6 := below_step (And.left (by assumption)) hb6 (Below.size (And.left (by assumption))); (try (have kz : Blk w6 w1.heap.size 25 #[.bool false, .bool false, .bool false, .bool false, .bool false, .bool false, .bool false, .int .i64 0, .int .i64 0, .int .i64 0] := Blk.below (Blk.new (World.drew w1) 25 #[.bool false, .bool false, .bool false, .bool false, .bool false, .bool false, .bool false, .int .i64 0, .int .i64 0, .int .i64 0]) hb6 (by simp); obtain ⟨z0, z1, z2, z3, z4, z5, z6, z7, z8, z9⟩ := Blk.cells10 kz; have f0 := kz.frozen 0; have f1 := kz.frozen 1; have f2 := kz.frozen 2; have f3 := kz.frozen 3; have f4 := kz.frozen 4; have f5 := kz.frozen 5; have f6 := kz.frozen 6; have f7 := kz.frozen 7; have f8 := kz.frozen 8; have f9 := kz.frozen 9))))
            all_goals
              first
                | (have kx := kz.set10 (.bool mn.cursor) (.bool mn.keypad) (.bool mn.back) (.bool mn.focus) (.bool mn.paste) (.bool mn.lock) (.bool mn.line) (.int .i64 mn.mouse) (.int .i64 mn.coding) (.int .i64 mn.other); have kW := (a4.below hw6 a4.lt).far10 (b := w1.heap.size) (Nat.ne_of_lt a4.lt) (.bool mn.cursor) (.bool mn.keypad) (.bool mn.back) (.bool mn.focus) (.bool mn.paste) (.bool mn.lock) (.bool mn.line) (.int .i64 mn.mouse) (.int .i64 mn.coding) (.int .i64 mn.other); have kS := (a3.below hw6 a3.lt).far10 (b := w1.heap.size) (Nat.ne_of_lt a3.lt) (.bool mn.cursor) (.bool mn.keypad) (.bool mn.back) (.bool mn.focus) (.bool mn.paste) (.bool mn.lock) (.bool mn.line) (.int .i64 mn.mouse) (.int .i64 mn.coding) (.int .i64 mn.other); have kR := (a6.below hw6 a6.lt).far10 (b := w1.heap.size) (Nat.ne_of_lt a6.lt) (.bool mn.cursor) (.bool mn.keypad) (.bool mn.back) (.bool mn.focus) (.bool mn.paste) (.bool mn.lock) (.bool mn.line) (.int .i64 mn.mouse) (.int .i64 mn.coding) (.int .i64 mn.other); have hW := below_set10 (below_step hbw1 hw6 hbw1.size) (g := w1.heap.size) hbw1.size (.bool mn.cursor) (.bool mn.keypad) (.bool mn.back) (.bool mn.focus) (.bool mn.paste) (.bool mn.lock) (.bool mn.line) (.int .i64 mn.mouse) (.int .i64 mn.coding) (.int .i64 mn.other); clear kz)
                | (have kx := Blk.new w6 25 (moC mn); have kW := (a4.below hw6 a4.lt).alloc (.cells (moC mn) 25); have kS := (a3.below hw6 a3.lt).alloc (.cells (moC mn) 25); have kR := (a6.below hw6 a6.lt).alloc (.cells (moC mn) 25); have hW := (below_step hbw1 hw6 hbw1.size).alloc (below_step hbw1 hw6 hbw1.size).size (.cells (moC mn) 25); simp only [moC] at kx kW kS kR hW)
              obtain ⟨c0, c1, c2, c3, c4, c5, c6, c7, c8, c9⟩ := Blk.cells10 kx
              obtain ⟨p0, p1, p2, p3, p4, p5, p6, p7, p8, p9⟩ := Blk.cells10 kW
              have q0 := kW.frozen 0
              have q1 := kW.frozen 1
              have q2 := kW.frozen 2
              have q3 := kW.frozen 3
              have q4 := kW.frozen 4
              have q5 := kW.frozen 5
              have q6 := kW.frozen 6
              have q7 := kW.frozen 7
              have q8 := kW.frozen 8
              have q9 := kW.frozen 9
              have kE := kW.set10 (.bool mn.cursor) (.bool mn.keypad) (.bool mn.back) (.bool mn.focus) (.bool mn.paste) (.bool mn.lock) (.bool mn.line) (.int .i64 mn.mouse) (.int .i64 mn.coding) (.int .i64 mn.other)
              have kT := kS.far10 (b := w.heap.size + 1) (by omega) (.bool mn.cursor) (.bool mn.keypad) (.bool mn.back) (.bool mn.focus) (.bool mn.paste) (.bool mn.lock) (.bool mn.line) (.int .i64 mn.mouse) (.int .i64 mn.coding) (.int .i64 mn.other)
              have kU := kR.far10 (b := w.heap.size + 1) (by omega) (.bool mn.cursor) (.bool mn.keypad) (.bool mn.back) (.bool mn.focus) (.bool mn.paste) (.bool mn.lock) (.bool mn.line) (.int .i64 mn.mouse) (.int .i64 mn.coding) (.int .i64 mn.other)
              have hE := below_set10 hW (g := w.heap.size + 1) (by omega) (.bool mn.cursor) (.bool mn.keypad) (.bool mn.back) (.bool mn.focus) (.bool mn.paste) (.bool mn.lock) (.bool mn.line) (.int .i64 mn.mouse) (.int .i64 mn.coding) (.int .i64 mn.other)
              clear kx kW hW kS kR a3 a4 a6 hbw1
              go_wp2_with fail
              go_roundw
              case rel => exact ⟨k + 1, by omega, by go_num, kT, by rw [HS2.out]; exact kE, kU, hE⟩
              case measure => simp [intOf]; omega
          · have hst2 : restS s m (l.take (k + 1)) = mk := by rw [HST.out, HAT.out, if_neg hv1, if_neg hv2]
            have HS2 := Lib.hid hst2
            have co : w1.cell? ⟨w.heap.size, p, none⟩ = some (.int .u8 (v.toNat : Int)) := co0
            have n1 : (v.toNat : Int) ≠ 1 := fun e => hv1 (UInt8.toNat_inj.1 (by show v.toNat = 1; omega))
            have n2 : (v.toNat : Int) ≠ 2 := fun e => hv2 (UInt8.toNat_inj.1 (by show v.toNat = 2; omega))
            have t1 : ((v.toNat : Int) == 1) = false := beq_false_of_ne n1
            have t2 : ((v.toNat : Int) == 2) = false := beq_false_of_ne n2
            have t3 : decide ((v.toNat : Int) = 1) = false := decide_eq_false n1
            have t4 : decide ((v.toNat : Int) = 2) = false := decide_eq_false n2
            clear co0 hst2 hv1 hv2
            go_wp2_with fail
            go_roundw
            case rel => exact ⟨k + 1, by omega, by go_num, a3, by rw [HS2.out]; exact a4, a6, hbw1⟩
            case measure => simp [intOf]; omega
      · rw [placeI_no hp]
        have hc := HST.out
        rw [rest1_no HLen.out (by cases hh : canM true x with | false => rfl | true => exact absurd (place_lt.2 hh) hp)] at hc
        have HS2 := Lib.hid hc
        clear hc hp
        go_wp2_with fail
        go_roundw
        case rel => exact ⟨k + 1, by omega, by go_num, a3, by rw [HS2.out]; exact a4, a6, hbw1⟩
        case measure => simp [intOf]; omega
    · obtain rfl : k = n := by omega
      have e : l.take k = l := List.take_of_length_le (by rw [HN.out]; exact Nat.le_refl _)
      rw [e] at k4
      obtain ⟨mk, hmk⟩ : ∃ mk, restS s m l = mk := ⟨_, rfl⟩
      have HMK := Lib.hid hmk
      rw [hmk] at k4
      clear hmk e hr hlt hk
      obtain ⟨c0, c1, c2, c3, c4, c5, c6, c7, c8, c9⟩ := Blk.cells10 k4
      obtain ⟨q0, q1, q2, q3, q4, q5, q6, q7, q8, q9⟩ := Blk.cells10 k6
      have z0 := k6.frozen 0
      have z1 := k6.frozen 1
      have z2 := k6.frozen 2
      have z3 := k6.frozen 3
      have z4 := k6.frozen 4
      have z5 := k6.frozen 5
      have z6 := k6.frozen 6
      have z7 := k6.frozen 7
      have z8 := k6.frozen 8
      have z9 := k6.frozen 9
      have kE := k6.set10 (.bool mk.cursor) (.bool mk.keypad) (.bool mk.back) (.bool mk.focus) (.bool mk.paste) (.bool mk.lock) (.bool mk.line) (.int .i64 mk.mouse) (.int .i64 mk.coding) (.int .i64 mk.other)
      obtain ⟨r0, r1, r2, r3, r4, r5, r6, r7, r8, r9⟩ := Blk.cells10 kE
      go_wp2_with fail
      refine bodyPost_ret (v := moV mk) (by simp [results, Try.results13, go_sem, moV, r0, r1, r2, r3, r4, r5, r6, r7, r8, r9]) rfl ?_
      exact ⟨by rw [HMK.out], below_set10 hbw (by omega) _ _ _ _ _ _ _ _ _ _⟩
end Go.Proofs.Ytokhchejkfhmmaa
