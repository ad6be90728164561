/-
  Layer 7: the document's Save, walked.
-/
import Derived.Test.YtokhchejkfhmmaaSavP
import Derived.Test.YtokhchejkfhmmaaSavB
import Derived.Test.YtokhchejkfhmmaaModR
import Derived.Deep.RegionHeld3
namespace Go.Proofs.Ytokhchejkfhmmaa
open Go.RowKit

def SavE (s : List UInt8) (w : World) (e : Ending) (w' : World) : Prop := e = .returned (savV s) ∧ Below w.heap.size w w'
theorem take_saveS (s : List UInt8) (m : Mo) (l : List Int) (k : Nat) (h : k < l.length) : saveS s m (l.take (k + 1)) = save1 m (saveS s m (l.take k)) (l[k]'h) := by
  rw [List.take_succ_eq_append_getElem h, saveS_snoc]
set_option maxRecDepth 100000 in
set_option maxHeartbeats 16000000 in
theorem rsave_any (s : List UInt8) (hs : s.length = 12) (m : Mo) (A : Option Addr) (l : List Int) (c n : Nat) (hn : l.length = n) (hnl : n ≤ 4294967296) (w : World) (hr : Rd w A (is_ l)) :
    Calls Try.prog 11 #[savV s, moV m, .slice A n c] w (SavE (saveS s m l) w) := by
  obtain ⟨b0, b1, b2, b3, b4, b5, b6, b7, b8, b9, b10, b11, hb⟩ := of12 hs
  have hsav : savC s = #[.int .u8 (b0.toNat : Int), .int .u8 (b1.toNat : Int), .int .u8 (b2.toNat : Int), .int .u8 (b3.toNat : Int), .int .u8 (b4.toNat : Int), .int .u8 (b5.toNat : Int), .int .u8 (b6.toNat : Int), .int .u8 (b7.toNat : Int), .int .u8 (b8.toNat : Int), .int .u8 (b9.toNat : Int), .int .u8 (b10.toNat : Int), .int .u8 (b11.toNat : Int)] := by rw [hb]; rfl
  have hsv : savV s = .agg #[.int .u8 (b0.toNat : Int), .int .u8 (b1.toNat : Int), .int .u8 (b2.toNat : Int), .int .u8 (b3.toNat : Int), .int .u8 (b4.toNat : Int), .int .u8 (b5.toNat : Int), .int .u8 (b6.toNat : Int), .int .u8 (b7.toNat : Int), .int .u8 (b8.toNat : Int), .int .u8 (b9.toNat : Int), .int .u8 (b10.toNat : Int), .int .u8 (b11.toNat : Int)] := by rw [savV, hsav]
  have HN := Lib.hid hn
  have HLen := Lib.hid hs
  rw [hsv, moV]
  have hbe : Below w.heap.size w (((w.alloc (.cells #[.int .u8 (b0.toNat : Int), .int .u8 (b1.toNat : Int), .int .u8 (b2.toNat : Int), .int .u8 (b3.toNat : Int), .int .u8 (b4.toNat : Int), .int .u8 (b5.toNat : Int), .int .u8 (b6.toNat : Int), .int .u8 (b7.toNat : Int), .int .u8 (b8.toNat : Int), .int .u8 (b9.toNat : Int), .int .u8 (b10.toNat : Int), .int .u8 (b11.toNat : Int)] 23)).alloc (.cells #[.bool m.cursor, .bool m.keypad, .bool m.back, .bool m.focus, .bool m.paste, .bool m.lock, .bool m.line, .int .i64 m.mouse, .int .i64 m.coding, .int .i64 m.other] 25)).alloc (.cells #[.int .u8 0, .int .u8 0, .int .u8 0, .int .u8 0, .int .u8 0, .int .u8 0, .int .u8 0, .int .u8 0, .int .u8 0, .int .u8 0, .int .u8 0, .int .u8 0] 23)) := (((Below.refl _ w).alloc (Nat.le_refl _) _).alloc (by simp) _).alloc (by simp; omega) _
  have k3 := ((Blk.new w 23 #[.int .u8 (b0.toNat : Int), .int .u8 (b1.toNat : Int), .int .u8 (b2.toNat : Int), .int .u8 (b3.toNat : Int), .int .u8 (b4.toNat : Int), .int .u8 (b5.toNat : Int), .int .u8 (b6.toNat : Int), .int .u8 (b7.toNat : Int), .int .u8 (b8.toNat : Int), .int .u8 (b9.toNat : Int), .int .u8 (b10.toNat : Int), .int .u8 (b11.toNat : Int)]).alloc (.cells #[.bool m.cursor, .bool m.keypad, .bool m.back, .bool m.focus, .bool m.paste, .bool m.lock, .bool m.line, .int .i64 m.mouse, .int .i64 m.coding, .int .i64 m.other] 25)).alloc (.cells #[.int .u8 0, .int .u8 0, .int .u8 0, .int .u8 0, .int .u8 0, .int .u8 0, .int .u8 0, .int .u8 0, .int .u8 0, .int .u8 0, .int .u8 0, .int .u8 0] 23)
  have k4 := (Blk.new (w.alloc (.cells #[.int .u8 (b0.toNat : Int), .int .u8 (b1.toNat : Int), .int .u8 (b2.toNat : Int), .int .u8 (b3.toNat : Int), .int .u8 (b4.toNat : Int), .int .u8 (b5.toNat : Int), .int .u8 (b6.toNat : Int), .int .u8 (b7.toNat : Int), .int .u8 (b8.toNat : Int), .int .u8 (b9.toNat : Int), .int .u8 (b10.toNat : Int), .int .u8 (b11.toNat : Int)] 23)) 25 (moC m)).alloc (.cells #[.int .u8 0, .int .u8 0, .int .u8 0, .int .u8 0, .int .u8 0, .int .u8 0, .int .u8 0, .int .u8 0, .int .u8 0, .int .u8 0, .int .u8 0, .int .u8 0] 23)
  have k6 := Blk.new ((w.alloc (.cells #[.int .u8 (b0.toNat : Int), .int .u8 (b1.toNat : Int), .int .u8 (b2.toNat : Int), .int .u8 (b3.toNat : Int), .int .u8 (b4.toNat : Int), .int .u8 (b5.toNat : Int), .int .u8 (b6.toNat : Int), .int .u8 (b7.toNat : Int), .int .u8 (b8.toNat : Int), .int .u8 (b9.toNat : Int), .int .u8 (b10.toNat : Int), .int .u8 (b11.toNat : Int)] 23)).alloc (.cells #[.bool m.cursor, .bool m.keypad, .bool m.back, .bool m.focus, .bool m.paste, .bool m.lock, .bool m.line, .int .i64 m.mouse, .int .i64 m.coding, .int .i64 m.other] 25)) 23 #[.int .u8 0, .int .u8 0, .int .u8 0, .int .u8 0, .int .u8 0, .int .u8 0, .int .u8 0, .int .u8 0, .int .u8 0, .int .u8 0, .int .u8 0, .int .u8 0]
  simp only [World.size_alloc] at k4 k6
  clear hn hb hs hsv
  go_enter Try.func11, Try.ntmps11
  go_wp2_with fail
  go_loopw [7, 8] (fun i _ wr => ∃ k : Nat, k ≤ n ∧ i = .int .i64 k ∧ Blk wr w.heap.size 23 (savC (saveS s m (l.take k))) ∧ Blk wr (w.heap.size + 1) 25 (moC m) ∧ Blk wr (w.heap.size + 1 + 1) 23 #[.int .u8 0, .int .u8 0, .int .u8 0, .int .u8 0, .int .u8 0, .int .u8 0, .int .u8 0, .int .u8 0, .int .u8 0, .int .u8 0, .int .u8 0, .int .u8 0] ∧ Below w.heap.size w wr) (fun i _ _ => n - (intOf i).toNat)
  case atStart => exact ⟨0, Nat.zero_le _, rfl, by show Blk _ _ _ (savC s); rw [hsav]; exact k3, k4, k6, hbe⟩
  case round =>
    clear k3 k4 k6 hbe
    obtain ⟨k, hk, rfl, k3, k4, k6, hbw⟩ := hrel
    by_cases hlt : k < n
    · have hkl : k < l.length := by rw [HN.out]; exact hlt
      obtain ⟨b, o, rfl, hbl, hcell⟩ := hr.int_at (by omega)
      have hst := take_saveS s m l k hkl
      obtain ⟨x, hx⟩ : ∃ x, l[k]'hkl = x := ⟨_, rfl⟩
      have hckr : wr.cell? ⟨b, o + k, none⟩ = some (.int .i64 x) := by rw [← hx]; exact (hbw.cell (p := ⟨b, o + k, none⟩) hbl).trans (hcell k hkl)
      rw [hx] at hst
      obtain ⟨s1, hs1⟩ : ∃ s1, saveS s m (l.take k) = s1 := ⟨_, rfl⟩
      have hl1 : s1.length = 12 := by rw [← hs1, saveS_len, HLen.out]
      rw [hs1] at hst k3
      have HST := Lib.hid hst
      have gk0 : (0 : Int) ≤ (k : Int) := by omega
      have gk1 : (k : Int) < (n : Int) := by omega
      clear hcell hx hst hs1
      go_wp2_with fail
      refine (rplace_any x wr).mono ?_
      rintro e w1 ⟨rfl, hb1⟩
      have a3 := k3.below hb1 k3.lt
      have a4 := k4.below hb1 k4.lt
      have a6 := k6.below hb1 k6.lt
      have hbw1 := below_step hbw hb1 hbw.size
      have hck1 : w1.cell? ⟨b, o + k, none⟩ = some (.int .i64 x) := (hb1.cell (p := ⟨b, o + k, none⟩) (World.block_lt_of_cell? wr _ hckr)).trans hckr
      clear k3 k4 k6 hbw hb1 hckr
      by_cases hp : placeN x < 12
      · rw [placeI_yes hp]
        have hc := HST.out
        unfold save1 at hc
        obtain ⟨p, hpp⟩ : ∃ p, placeN x = p := ⟨_, rfl⟩
        rw [hpp] at hp hc ⊢
        obtain ⟨y, hy⟩ : ∃ y, getM m true x = y := ⟨_, rfl⟩
        unfold markN at hc
        rw [hy] at hc
        have HC := Lib.hid hc
        have HY := Lib.hid hy
        obtain ⟨v0, co⟩ : ∃ v : UInt8, w1.cell? ⟨w.heap.size, p, none⟩ = some (.int .u8 (v.toNat : Int)) := ⟨_, (a3.cell p).trans (savC_get (by omega : p < s1.length))⟩
        have zo := a3.frozen p
        have e3 := a3.set p (B8 2)
        rw [savC_set] at e3
        have e4 := a4.far (a := ⟨w.heap.size, p, none⟩) (by show w.heap.size + 1 ≠ w.heap.size; omega) (B8 2)
        have e6 := a6.far (a := ⟨w.heap.size, p, none⟩) (by show w.heap.size + 1 + 1 ≠ w.heap.size; omega) (B8 2)
        have hbw2 := hbw1.setCell (p := ⟨w.heap.size, p, none⟩) (Nat.le_refl _) (B8 2)
        have hck2 : (w1.setCell ⟨w.heap.size, p, none⟩ (B8 2)).cell? ⟨b, o + k, none⟩ = some (.int .i64 x) := by
          rw [World.cell?_setCell_far _ _ _ _ (by show w.heap.size ≠ b; omega)]; exact hck1
        have g0 : (0 : Int) ≤ (p : Int) := by omega
        have g1 : (p : Int) < 12 := by omega
        clear hc hy hpp a3 a4 a6 hbw1 hck1
        have hB8 : B8 2 = .int .u8 2 := rfl
        rw [hB8] at e3 e4 e6 hbw2 hck2
        obtain ⟨w2, hw2⟩ : ∃ w2, w1.setCell ⟨w.heap.size, p, none⟩ (.int .u8 2) = w2 := ⟨_, rfl⟩
        have co2 : w2.heap.size = w1.heap.size := by rw [← hw2]; simp
        rw [hw2] at e3 e4 e6 hbw2 hck2
        have HS : Hid (∀ W, Below w2.heap.size w2 W → Below w2.heap.size w2 W ∧ W.cell? ⟨b, o + k, none⟩ = some (.int .i64 x) ∧ W.cell? ⟨w.heap.size + 1, 0, none⟩ = some (.bool m.cursor) ∧ W.cell? ⟨w.heap.size + 1, 1, none⟩ = some (.bool m.keypad) ∧ W.cell? ⟨w.heap.size + 1, 2, none⟩ = some (.bool m.back) ∧ W.cell? ⟨w.heap.size + 1, 3, none⟩ = some (.bool m.focus) ∧ W.cell? ⟨w.heap.size + 1, 4, none⟩ = some (.bool m.paste) ∧ W.cell? ⟨w.heap.size + 1, 5, none⟩ = some (.bool m.lock) ∧ W.cell? ⟨w.heap.size + 1, 6, none⟩ = some (.bool m.line) ∧ W.cell? ⟨w.heap.size + 1, 7, none⟩ = some (.int .i64 m.mouse) ∧ W.cell? ⟨w.heap.size + 1, 8, none⟩ = some (.int .i64 m.coding) ∧ W.cell? ⟨w.heap.size + 1, 9, none⟩ = some (.int .i64 m.other)) := by
          have m2 := e4
          have hlt1 : b < w2.heap.size := World.block_lt_of_cell? w2 _ hck2
          have hlt3 := e4.lt
          exact Lib.hid fun W hb => ⟨hb, (hb.cell (p := ⟨b, o + k, none⟩) hlt1).trans hck2, (hb.cell (p := ⟨w.heap.size + 1, 0, none⟩) hlt3).trans (m2.cell 0), (hb.cell (p := ⟨w.heap.size + 1, 1, none⟩) hlt3).trans (m2.cell 1), (hb.cell (p := ⟨w.heap.size + 1, 2, none⟩) hlt3).trans (m2.cell 2), (hb.cell (p := ⟨w.heap.size + 1, 3, none⟩) hlt3).trans (m2.cell 3), (hb.cell (p := ⟨w.heap.size + 1, 4, none⟩) hlt3).trans (m2.cell 4), (hb.cell (p := ⟨w.heap.size + 1, 5, none⟩) hlt3).trans (m2.cell 5), (hb.cell (p := ⟨w.heap.size + 1, 6, none⟩) hlt3).trans (m2.cell 6), (hb.cell (p := ⟨w.heap.size + 1, 7, none⟩) hlt3).trans (m2.cell 7), (hb.cell (p := ⟨w.heap.size + 1, 8, none⟩) hlt3).trans (m2.cell 8), (hb.cell (p := ⟨w.heap.size + 1, 9, none⟩) hlt3).trans (m2.cell 9)⟩
        have HGET : Hid (∀ W, Calls Try.prog 20 #[.agg #[.bool m.cursor, .bool m.keypad, .bool m.back, .bool m.focus, .bool m.paste, .bool m.lock, .bool m.line, .int .i64 m.mouse, .int .i64 m.coding, .int .i64 m.other], .bool true, .int .i64 x] W fun e w' => e = .returned (.int .i64 y) ∧ Below W.heap.size W w') := Lib.hid fun W => (rget_any m true x W).mono fun e w' h => by rw [HY.out] at h; exact h
        clear co2 hck2
        by_cases hy1 : y = 1
        · subst hy1
          go_wp2_with fail
          go_region_held3 (fun W => Below w2.heap.size w2 W ∧ W.cell? ⟨b, o + k, none⟩ = some (.int .i64 x) ∧ W.cell? ⟨w.heap.size + 1, 0, none⟩ = some (.bool m.cursor) ∧ W.cell? ⟨w.heap.size + 1, 1, none⟩ = some (.bool m.keypad) ∧ W.cell? ⟨w.heap.size + 1, 2, none⟩ = some (.bool m.back) ∧ W.cell? ⟨w.heap.size + 1, 3, none⟩ = some (.bool m.focus) ∧ W.cell? ⟨w.heap.size + 1, 4, none⟩ = some (.bool m.paste) ∧ W.cell? ⟨w.heap.size + 1, 5, none⟩ = some (.bool m.lock) ∧ W.cell? ⟨w.heap.size + 1, 6, none⟩ = some (.bool m.line) ∧ W.cell? ⟨w.heap.size + 1, 7, none⟩ = some (.int .i64 m.mouse) ∧ W.cell? ⟨w.heap.size + 1, 8, none⟩ = some (.int .i64 m.coding) ∧ W.cell? ⟨w.heap.size + 1, 9, none⟩ = some (.int .i64 m.other))
            (first | with_reducible exact HS.out _ (Below.refl _ _).drew | with_reducible exact HS.out _ hw6)
            (first
              | (go_at_call 20; refine (HGET.out _).mono ?_; rintro e w6 ⟨rfl, hb6⟩; have hw6 : Below w2.heap.size w2 w6 := below_step (And.left (by assumption)) hb6 (Below.size (And.left (by assumption)))))
          all_goals
            have f3 := e3.below hw6 e3.lt
            have f4 := e4.below hw6 e4.lt
            have f6 := e6.below hw6 e6.lt
            have hbw3 := below_step hbw2 hw6 hbw2.size
            have c2 : w6.cell? ⟨w.heap.size, p, none⟩ = some (.int .u8 2) := by rw [f3.cell p, savC_get (by simp; omega)]; simp [B8]
            have z2 := f3.frozen p
            have h3 := f3.set p (B8 1)
            rw [savC_set, List.set_set] at h3
            have h4 := f4.far (a := ⟨w.heap.size, p, none⟩) (by show w.heap.size + 1 ≠ w.heap.size; omega) (B8 1)
            have h6 := f6.far (a := ⟨w.heap.size, p, none⟩) (by show w.heap.size + 1 + 1 ≠ w.heap.size; omega) (B8 1)
            have hbw4 := hbw3.setCell (p := ⟨w.heap.size, p, none⟩) (Nat.le_refl _) (B8 1)
            have hc2 := HC.out
            simp only [↓reduceIte] at hc2
            rw [← hc2] at h3
            clear hc2 f3 f4 f6 hbw3 e3 e4 e6 hbw2
            go_wp2_with fail
            go_roundw
            case rel => exact ⟨k + 1, by omega, by go_num, h3, h4, h6, hbw4⟩
            case measure => simp [intOf]; omega
        · have t1 : (y == 1) = false := beq_false_of_ne hy1
          have t2 : decide (y = 1) = false := decide_eq_false hy1
          have hc2 := HC.out
          rw [if_neg hy1] at hc2
          rw [← hc2] at e3
          clear hc2 hy1
          go_wp2_with fail
          go_region_held3 (fun W => Below w2.heap.size w2 W ∧ W.cell? ⟨b, o + k, none⟩ = some (.int .i64 x) ∧ W.cell? ⟨w.heap.size + 1, 0, none⟩ = some (.bool m.cursor) ∧ W.cell? ⟨w.heap.size + 1, 1, none⟩ = some (.bool m.keypad) ∧ W.cell? ⟨w.heap.size + 1, 2, none⟩ = some (.bool m.back) ∧ W.cell? ⟨w.heap.size + 1, 3, none⟩ = some (.bool m.focus) ∧ W.cell? ⟨w.heap.size + 1, 4, none⟩ = some (.bool m.paste) ∧ W.cell? ⟨w.heap.size + 1, 5, none⟩ = some (.bool m.lock) ∧ W.cell? ⟨w.heap.size + 1, 6, none⟩ = some (.bool m.line) ∧ W.cell? ⟨w.heap.size + 1, 7, none⟩ = some (.int .i64 m.mouse) ∧ W.cell? ⟨w.heap.size + 1, 8, none⟩ = some (.int .i64 m.coding) ∧ W.cell? ⟨w.heap.size + 1, 9, none⟩ = some (.int .i64 m.other))
            (first | with_reducible exact HS.out _ (Below.refl _ _).drew | with_reducible exact HS.out _ hw6)
            (first
              | (go_at_call 20; refine (HGET.out _).mono ?_; rintro e w6 ⟨rfl, hb6⟩; have hw6 : Below w2.heap.size w2 w6 := below_step (And.left (by assumption)) hb6 (Below.size (And.left (by assumption)))))
          all_goals
            have f3 := e3.below hw6 e3.lt
            have f4 := e4.below hw6 e4.lt
            have f6 := e6.below hw6 e6.lt
            have hbw3 := below_step hbw2 hw6 hbw2.size
            clear e3 e4 e6 hbw2
            go_wp2_with fail
            go_roundw
            case rel => exact ⟨k + 1, by omega, by go_num, f3, f4, f6, hbw3⟩
            case measure => simp [intOf]; omega
      · rw [placeI_no hp]
        have hc := HST.out
        rw [save1_no hl1 (by cases hh : canM true x with | false => rfl | true => exact absurd (place_lt.2 hh) hp)] at hc
        rw [← hc] at a3
        clear hc hp
        go_wp2_with fail
        go_roundw
        case rel => exact ⟨k + 1, by omega, by go_num, a3, a4, a6, hbw1⟩
        case measure => simp [intOf]; omega
    · obtain rfl : k = n := by omega
      have e : l.take k = l := List.take_of_length_le (by rw [HN.out]; exact Nat.le_refl _)
      rw [e] at k3
      obtain ⟨s1, hs1⟩ : ∃ s1, saveS s m l = s1 := ⟨_, rfl⟩
      have hl1 : s1.length = 12 := by rw [← hs1, saveS_len, HLen.out]
      rw [hs1] at k3
      obtain ⟨d0, d1, d2, d3, d4, d5, d6, d7, d8, d9, d10, d11, hd⟩ := of12 hl1
      have hsd : savC s1 = #[.int .u8 (d0.toNat : Int), .int .u8 (d1.toNat : Int), .int .u8 (d2.toNat : Int), .int .u8 (d3.toNat : Int), .int .u8 (d4.toNat : Int), .int .u8 (d5.toNat : Int), .int .u8 (d6.toNat : Int), .int .u8 (d7.toNat : Int), .int .u8 (d8.toNat : Int), .int .u8 (d9.toNat : Int), .int .u8 (d10.toNat : Int), .int .u8 (d11.toNat : Int)] := by rw [hd]; rfl
      have hsv : savV s1 = .agg #[.int .u8 (d0.toNat : Int), .int .u8 (d1.toNat : Int), .int .u8 (d2.toNat : Int), .int .u8 (d3.toNat : Int), .int .u8 (d4.toNat : Int), .int .u8 (d5.toNat : Int), .int .u8 (d6.toNat : Int), .int .u8 (d7.toNat : Int), .int .u8 (d8.toNat : Int), .int .u8 (d9.toNat : Int), .int .u8 (d10.toNat : Int), .int .u8 (d11.toNat : Int)] := by rw [savV, hsd]
      rw [hsd] at k3
      have HSV := Lib.hid hsv
      have HS1 := Lib.hid hs1
      clear hd hsd hsv hs1 hl1 e hr hlt hk
      obtain ⟨c0, c1, c2, c3, c4, c5, c6, c7, c8, c9, c10, c11⟩ := Blk.cells12 k3
      obtain ⟨q0, q1, q2, q3, q4, q5, q6, q7, q8, q9, q10, q11⟩ := Blk.cells12 k6
      have z0 := k6.frozen 0
      have z1 := k6.frozen 1
      have z2 := k6.frozen 2
      have z3 := k6.frozen 3
      have z4 := k6.frozen 4
      have z5 := k6.frozen 5
      have z6 := k6.frozen 6
      have z7 := k6.frozen 7
      have z8 := k6.frozen 8
      have z9 := k6.frozen 9
      have z10 := k6.frozen 10
      have z11 := k6.frozen 11
      have kE := k6.set12 (.int .u8 (d0.toNat : Int)) (.int .u8 (d1.toNat : Int)) (.int .u8 (d2.toNat : Int)) (.int .u8 (d3.toNat : Int)) (.int .u8 (d4.toNat : Int)) (.int .u8 (d5.toNat : Int)) (.int .u8 (d6.toNat : Int)) (.int .u8 (d7.toNat : Int)) (.int .u8 (d8.toNat : Int)) (.int .u8 (d9.toNat : Int)) (.int .u8 (d10.toNat : Int)) (.int .u8 (d11.toNat : Int))
      obtain ⟨r0, r1, r2, r3, r4, r5, r6, r7, r8, r9, r10, r11⟩ := Blk.cells12 kE
      go_wp2_with fail
      refine bodyPost_ret (v := .agg #[.int .u8 (d0.toNat : Int), .int .u8 (d1.toNat : Int), .int .u8 (d2.toNat : Int), .int .u8 (d3.toNat : Int), .int .u8 (d4.toNat : Int), .int .u8 (d5.toNat : Int), .int .u8 (d6.toNat : Int), .int .u8 (d7.toNat : Int), .int .u8 (d8.toNat : Int), .int .u8 (d9.toNat : Int), .int .u8 (d10.toNat : Int), .int .u8 (d11.toNat : Int)]) (by simp [results, Try.results11, go_sem, r0, r1, r2, r3, r4, r5, r6, r7, r8, r9, r10, r11]) rfl ?_
      exact ⟨by rw [HS1.out, HSV.out], below_set12 hbw (by omega) (.int .u8 (d0.toNat : Int)) (.int .u8 (d1.toNat : Int)) (.int .u8 (d2.toNat : Int)) (.int .u8 (d3.toNat : Int)) (.int .u8 (d4.toNat : Int)) (.int .u8 (d5.toNat : Int)) (.int .u8 (d6.toNat : Int)) (.int .u8 (d7.toNat : Int)) (.int .u8 (d8.toNat : Int)) (.int .u8 (d9.toNat : Int)) (.int .u8 (d10.toNat : Int)) (.int .u8 (d11.toNat : Int))⟩
end Go.Proofs.Ytokhchejkfhmmaa
