/-
  Layer 6: the walk of ModesOthers.
-/
import Derived.Test.YtdjglfgdmakjgaaLmO
import Derived.Test.YtdjglfgdmakjgaaIntsR
namespace Go.Proofs.Ytdjglfgdmakjgaa
open Go.RowKit

/-- What kind of mode one of those is that may be set: of the mouse, of its codings, or neither. -/
theorem own_kind {x : Int} (h : x ∈ ownM) : (9 ≤ x ∧ x ≤ 1003 ∧ x ≠ 66 ∧ x ≠ 67) ∨ (1005 ≤ x ∧ x ≤ 1015) ∨ (x = 1 ∨ x = 66 ∨ x = 67 ∨ x = 1004 ∨ x = 2004) := by
  simp only [ownM, List.mem_cons, List.mem_nil_iff, or_false] at h
  omega
section
variable {Inv : World → Prop}
set_option maxRecDepth 100000 in
set_option maxHeartbeats 32000000 in
theorem modesOthers_walk (H : ModC Inv) (m : Mo) (_hm : okM m) (n n1 : Int) (hn : -9223372036854775808 ≤ n ∧ n ≤ 9223372036854775807) (hn1 : -9223372036854775808 ≤ n1 ∧ n1 ≤ 9223372036854775807) (on : Bool) (w : World) (hv : Inv w) :
    Calls Try.prog 5 #[moV m, .agg #[.int .i64 n, .int .i64 n1], .bool on] w fun e w' => e = .returned (.bool true) ∧ Below w.heap.size w w' := by
  have HN := Lib.hid (show inI n from hn)
  have HN1 := Lib.hid (show inI n1 from hn1)
  obtain ⟨ma, q, hs⟩ : ∃ m' q, setM m true n on = (m', q) := ⟨_, _, rfl⟩
  have ho : ∀ x, x ≠ n → mouseN x = false → codingN x = false → getM ma true x = getM m true x := fun x h1 h2 h3 => by
    have := set_other m on h1 h2 h3
    rw [hs] at this
    exact this
  have hp : getM ma false n1 = getM m false n1 := by
    have := set_plain m n n1 on
    rw [hs] at this
    exact this
  have hk : ma.other = m.other := by
    have := set_keeps m true n on
    rw [hs] at this
    exact this
  have HS1 := Lib.hid hs
  have HOT := Lib.hid ho
  have HP := Lib.hid hp
  have HKE := Lib.hid hk
  clear hn hn1 hs ho hp hk
  have hbe : Below w.heap.size w ((w.alloc (.cells (moC m) 23)).alloc (.cells #[.int .i64 n, .int .i64 n1] 31)) := ((Below.refl _ w).alloc (Nat.le_refl _) _).alloc (by simp) _
  have L2 := ((Bl.nil w).add 23 (moC m)).add 31 #[.int .i64 n, .int .i64 n1]
  simp only [World.size_alloc, moC] at L2
  rw [moV]
  go_enter Try.func5, Try.ntmps5
  go_wp2_with fail
  refine (modesAwake H _ (H.invB hv hbe)).mono ?_
  rintro e w1 ⟨rfl, hb1⟩
  have L3 := L2.below hb1
  have hbe1 := below_step hbe hb1 hbe.size
  clear L2 hbe hb1
  obtain ⟨c0, c1, c2, c3, c4, c5, c6, c7, c8, c9⟩ := Blk.cells10 L3.tail.head
  have d0 := L3.head.cell 0
  have d1 := L3.head.cell 1
  go_wp2_with fail
  refine (H.set_at w1 (H.invB hv hbe1) HN.out HS1.out).mono ?_
  rintro e w2 ⟨rfl, hb2⟩
  have L4 := (L3.below hb2).add 23 (moC ma)
  have hbe2 := below_step hbe1 hb2 hbe1.size
  have hbe3 := hbe2.alloc hbe2.size (.cells (moC ma) 23)
  simp only [moC] at L4 hbe3
  clear c0 c1 c2 c3 c4 c5 c6 c7 c8 c9 d0 d1 L3 hbe1 hbe2 hb2
  rw [moV]
  go_wp2_with fail
  refine (H.own _ (H.invB hv hbe3)).mono ?_
  rintro e w3 ⟨A, c, rfl, hc12, hr, hb3⟩
  have L5 := L4.below hb3
  have hbe4 := below_step hbe3 hb3 hbe3.size
  have HR := Lib.hid hr
  obtain ⟨g, hg⟩ : ∃ g, w2.heap.size = g := ⟨_, rfl⟩
  rw [hg] at L5 ⊢
  clear L4 hbe3 hb3 hg
  obtain ⟨b, o, rfl, hbl, hcell⟩ := hr.int_at (by decide)
  clear hr
  go_wp2_with fail
  go_loopw [11, 12, 13] (fun i _ _ wr => ∃ k : Nat, k ≤ 12 ∧ i = .int .i64 k ∧ Below w3.heap.size w3 wr) (fun i _ _ _ => 12 - (intOf i).toNat)
  case atStart => exact ⟨0, Nat.zero_le _, rfl, Below.refl _ _⟩
  case round =>
    obtain ⟨k, hk, rfl, hbw⟩ := hrel
    by_cases hlt : k < 12
    · have hck := (hbw.cell (p := ⟨b, o + k, none⟩) hbl).trans (hcell k hlt)
      have hin := own_kind (List.getElem_mem hlt)
      have hxi := own_inI hlt
      obtain ⟨x, hx⟩ : ∃ x, ownM[k]'hlt = x := ⟨_, rfl⟩
      have hckr : wr.cell? ⟨b, o + k, none⟩ = some (.int .i64 x) := by rw [← hx]; exact hck
      rw [hx] at hin hxi
      have HX := Lib.hid hxi
      have L6 := L5.below hbw
      have kn : Blk wr (w.heap.size + 1) 31 #[.int .i64 n, .int .i64 n1] := L6.tail.head
      have d0 := kn.cell 0
      have gk0 : (0 : Int) ≤ (k : Int) := by omega
      have gk1 : (k : Int) < 12 := by omega
      clear hck hx hxi
      rcases hin with ⟨h1, h2, h3, h4⟩ | ⟨h1, h2⟩ | h1
      · by_cases hxn : x = n
        · subst hxn
          clear L6 kn
          go_wp2_with fail
          go_quiet (fail)
          go_wp2_with fail
          go_roundw
          case rel => exact ⟨k + 1, by omega, by go_num, below_drewN hbw _⟩
          case measure => simp [intOf]; omega
        · have t0 : (x == n) = false := beq_false_of_ne hxn
          have t1 : decide (x = n) = false := decide_eq_false hxn
          have t2 : (x != n) = true := by simp [bne, t0]
          have e6 : (x != 66 && x != 67) = true := by simp [h3, h4]
          have E6 := Lib.hid e6
          clear hxn L6 kn e6
          go_wp2_with fail
          rw [E6.out]
          go_quiet (fail)
          go_wp2_with fail
          go_roundw
          case rel => exact ⟨k + 1, by omega, by go_num, below_drewN hbw _⟩
          case measure => simp [intOf]; omega
      · by_cases hxn : x = n
        · subst hxn
          clear L6 kn
          go_wp2_with fail
          go_quiet (fail)
          go_wp2_with fail
          go_roundw
          case rel => exact ⟨k + 1, by omega, by go_num, below_drewN hbw _⟩
          case measure => simp [intOf]; omega
        · have t0 : (x == n) = false := beq_false_of_ne hxn
          have t1 : decide (x = n) = false := decide_eq_false hxn
          have t2 : (x != n) = true := by simp [bne, t0]
          clear hxn L6 kn
          go_wp2_with fail
          go_quiet (fail)
          go_wp2_with fail
          go_roundw
          case rel => exact ⟨k + 1, by omega, by go_num, below_drewN hbw _⟩
          case measure => simp [intOf]; omega
      · by_cases hxn : x = n
        · subst hxn
          clear L6 kn
          rcases h1 with rfl | rfl | rfl | rfl | rfl
          all_goals
            go_wp2_with fail
            go_quiet (fail)
            go_wp2_with fail
            go_roundw
            case rel => exact ⟨k + 1, by omega, by go_num, below_drewN hbw _⟩
            case measure => simp [intOf]; omega
        · have hge : getM ma true x = getM m true x := HOT.out x hxn (by
            cases hh : mouseN x with
            | false => rfl
            | true => have := (mouseN_iff x).1 hh; omega) (by
            cases hh : codingN x with
            | false => rfl
            | true => have := (codingN_iff x).1 hh; omega)
          obtain ⟨y, hy⟩ : ∃ y, getM m true x = y := ⟨_, rfl⟩
          have HG1 := Lib.hid (hge.trans hy)
          have HG2 := Lib.hid hy
          have t0 : (x == n) = false := beq_false_of_ne hxn
          have t1 : decide (x = n) = false := decide_eq_false hxn
          have t2 : (x != n) = true := by simp [bne, t0]
          have HS : Hid (∀ W, Below wr.heap.size wr W → Below wr.heap.size wr W ∧ W.cell? ⟨b, o + k, none⟩ = some (.int .i64 x) ∧ W.cell? ⟨w.heap.size + 1, 0, none⟩ = some (.int .i64 n) ∧ W.cell? ⟨w.heap.size, 0, none⟩ = some (.bool m.cursor) ∧ W.cell? ⟨w.heap.size, 1, none⟩ = some (.bool m.keypad) ∧ W.cell? ⟨w.heap.size, 2, none⟩ = some (.bool m.back) ∧ W.cell? ⟨w.heap.size, 3, none⟩ = some (.bool m.focus) ∧ W.cell? ⟨w.heap.size, 4, none⟩ = some (.bool m.paste) ∧ W.cell? ⟨w.heap.size, 5, none⟩ = some (.bool m.lock) ∧ W.cell? ⟨w.heap.size, 6, none⟩ = some (.bool m.line) ∧ W.cell? ⟨w.heap.size, 7, none⟩ = some (.int .i64 m.mouse) ∧ W.cell? ⟨w.heap.size, 8, none⟩ = some (.int .i64 m.coding) ∧ W.cell? ⟨w.heap.size, 9, none⟩ = some (.int .i64 m.other) ∧ W.cell? ⟨g, 0, none⟩ = some (.bool ma.cursor) ∧ W.cell? ⟨g, 1, none⟩ = some (.bool ma.keypad) ∧ W.cell? ⟨g, 2, none⟩ = some (.bool ma.back) ∧ W.cell? ⟨g, 3, none⟩ = some (.bool ma.focus) ∧ W.cell? ⟨g, 4, none⟩ = some (.bool ma.paste) ∧ W.cell? ⟨g, 5, none⟩ = some (.bool ma.lock) ∧ W.cell? ⟨g, 6, none⟩ = some (.bool ma.line) ∧ W.cell? ⟨g, 7, none⟩ = some (.int .i64 ma.mouse) ∧ W.cell? ⟨g, 8, none⟩ = some (.int .i64 ma.coding) ∧ W.cell? ⟨g, 9, none⟩ = some (.int .i64 ma.other)) := by
            have km : Blk wr w.heap.size 23 #[.bool m.cursor, .bool m.keypad, .bool m.back, .bool m.focus, .bool m.paste, .bool m.lock, .bool m.line, .int .i64 m.mouse, .int .i64 m.coding, .int .i64 m.other] := L6.tail.tail.head
            have ka : Blk wr g 23 #[.bool ma.cursor, .bool ma.keypad, .bool ma.back, .bool ma.focus, .bool ma.paste, .bool ma.lock, .bool ma.line, .int .i64 ma.mouse, .int .i64 ma.coding, .int .i64 ma.other] := L6.head
            have hlt1 : b < wr.heap.size := Nat.lt_of_lt_of_le hbl hbw.size
            have hlt2 := kn.lt
            have hlt3 := km.lt
            have hlt4 := ka.lt
            exact Lib.hid fun W hb => ⟨hb, (hb.cell (p := ⟨b, o + k, none⟩) hlt1).trans hckr, (hb.cell (p := ⟨w.heap.size + 1, 0, none⟩) hlt2).trans (kn.cell 0), (hb.cell (p := ⟨w.heap.size, 0, none⟩) hlt3).trans (km.cell 0), (hb.cell (p := ⟨w.heap.size, 1, none⟩) hlt3).trans (km.cell 1), (hb.cell (p := ⟨w.heap.size, 2, none⟩) hlt3).trans (km.cell 2), (hb.cell (p := ⟨w.heap.size, 3, none⟩) hlt3).trans (km.cell 3), (hb.cell (p := ⟨w.heap.size, 4, none⟩) hlt3).trans (km.cell 4), (hb.cell (p := ⟨w.heap.size, 5, none⟩) hlt3).trans (km.cell 5), (hb.cell (p := ⟨w.heap.size, 6, none⟩) hlt3).trans (km.cell 6), (hb.cell (p := ⟨w.heap.size, 7, none⟩) hlt3).trans (km.cell 7), (hb.cell (p := ⟨w.heap.size, 8, none⟩) hlt3).trans (km.cell 8), (hb.cell (p := ⟨w.heap.size, 9, none⟩) hlt3).trans (km.cell 9), (hb.cell (p := ⟨g, 0, none⟩) hlt4).trans (ka.cell 0), (hb.cell (p := ⟨g, 1, none⟩) hlt4).trans (ka.cell 1), (hb.cell (p := ⟨g, 2, none⟩) hlt4).trans (ka.cell 2), (hb.cell (p := ⟨g, 3, none⟩) hlt4).trans (ka.cell 3), (hb.cell (p := ⟨g, 4, none⟩) hlt4).trans (ka.cell 4), (hb.cell (p := ⟨g, 5, none⟩) hlt4).trans (ka.cell 5), (hb.cell (p := ⟨g, 6, none⟩) hlt4).trans (ka.cell 6), (hb.cell (p := ⟨g, 7, none⟩) hlt4).trans (ka.cell 7), (hb.cell (p := ⟨g, 8, none⟩) hlt4).trans (ka.cell 8), (hb.cell (p := ⟨g, 9, none⟩) hlt4).trans (ka.cell 9)⟩
          have HI : Hid (∀ W, Below wr.heap.size wr W → Below w3.heap.size w3 W) := Lib.hid fun W hb => below_step hbw hb hbw.size
          have HV : Hid (∀ W, Below wr.heap.size wr W → Inv W) := Lib.hid fun W hb => H.invB hv (below_step hbe4 (HI.out W hb) hbe4.size)
          clear hge hy hxn L6 kn
          rcases h1 with rfl | rfl | rfl | rfl | rfl
          · go_wp2_with fail
            go_region_held3 (fun W => Below wr.heap.size wr W ∧ W.cell? ⟨b, o + k, none⟩ = some (.int .i64 1) ∧ W.cell? ⟨w.heap.size + 1, 0, none⟩ = some (.int .i64 n) ∧ W.cell? ⟨w.heap.size, 0, none⟩ = some (.bool m.cursor) ∧ W.cell? ⟨w.heap.size, 1, none⟩ = some (.bool m.keypad) ∧ W.cell? ⟨w.heap.size, 2, none⟩ = some (.bool m.back) ∧ W.cell? ⟨w.heap.size, 3, none⟩ = some (.bool m.focus) ∧ W.cell? ⟨w.heap.size, 4, none⟩ = some (.bool m.paste) ∧ W.cell? ⟨w.heap.size, 5, none⟩ = some (.bool m.lock) ∧ W.cell? ⟨w.heap.size, 6, none⟩ = some (.bool m.line) ∧ W.cell? ⟨w.heap.size, 7, none⟩ = some (.int .i64 m.mouse) ∧ W.cell? ⟨w.heap.size, 8, none⟩ = some (.int .i64 m.coding) ∧ W.cell? ⟨w.heap.size, 9, none⟩ = some (.int .i64 m.other) ∧ W.cell? ⟨g, 0, none⟩ = some (.bool ma.cursor) ∧ W.cell? ⟨g, 1, none⟩ = some (.bool ma.keypad) ∧ W.cell? ⟨g, 2, none⟩ = some (.bool ma.back) ∧ W.cell? ⟨g, 3, none⟩ = some (.bool ma.focus) ∧ W.cell? ⟨g, 4, none⟩ = some (.bool ma.paste) ∧ W.cell? ⟨g, 5, none⟩ = some (.bool ma.lock) ∧ W.cell? ⟨g, 6, none⟩ = some (.bool ma.line) ∧ W.cell? ⟨g, 7, none⟩ = some (.int .i64 ma.mouse) ∧ W.cell? ⟨g, 8, none⟩ = some (.int .i64 ma.coding) ∧ W.cell? ⟨g, 9, none⟩ = some (.int .i64 ma.other))
              (first | with_reducible exact HS.out _ (Below.refl _ _).drew | with_reducible assumption | exact HS.out _ (Below.trans (And.left (by assumption)) (hb6.mono (Below.size (And.left (by assumption))))))
              (first
                | (go_at_call 12; (fail_if_success have := hb6); refine (H.get_at (m := ma) _ (HV.out _ (And.left (by assumption))) HX.out HG1.out).mono ?_; rintro e w6 ⟨rfl, hb6⟩)
                | (go_at_call 12; refine (H.get_at (m := m) _ (HV.out _ (And.left (by assumption))) HX.out HG2.out).mono ?_; rintro e w6 ⟨rfl, hb6⟩))
            all_goals
              go_wp2_with fail
              go_roundw
              case rel => exact ⟨k + 1, by omega, by go_num, HI.out _ (And.left (by assumption))⟩
              case measure => simp [intOf]; omega
          · go_wp2_with fail
            go_region_held3 (fun W => Below wr.heap.size wr W ∧ W.cell? ⟨b, o + k, none⟩ = some (.int .i64 66) ∧ W.cell? ⟨w.heap.size + 1, 0, none⟩ = some (.int .i64 n) ∧ W.cell? ⟨w.heap.size, 0, none⟩ = some (.bool m.cursor) ∧ W.cell? ⟨w.heap.size, 1, none⟩ = some (.bool m.keypad) ∧ W.cell? ⟨w.heap.size, 2, none⟩ = some (.bool m.back) ∧ W.cell? ⟨w.heap.size, 3, none⟩ = some (.bool m.focus) ∧ W.cell? ⟨w.heap.size, 4, none⟩ = some (.bool m.paste) ∧ W.cell? ⟨w.heap.size, 5, none⟩ = some (.bool m.lock) ∧ W.cell? ⟨w.heap.size, 6, none⟩ = some (.bool m.line) ∧ W.cell? ⟨w.heap.size, 7, none⟩ = some (.int .i64 m.mouse) ∧ W.cell? ⟨w.heap.size, 8, none⟩ = some (.int .i64 m.coding) ∧ W.cell? ⟨w.heap.size, 9, none⟩ = some (.int .i64 m.other) ∧ W.cell? ⟨g, 0, none⟩ = some (.bool ma.cursor) ∧ W.cell? ⟨g, 1, none⟩ = some (.bool ma.keypad) ∧ W.cell? ⟨g, 2, none⟩ = some (.bool ma.back) ∧ W.cell? ⟨g, 3, none⟩ = some (.bool ma.focus) ∧ W.cell? ⟨g, 4, none⟩ = some (.bool ma.paste) ∧ W.cell? ⟨g, 5, none⟩ = some (.bool ma.lock) ∧ W.cell? ⟨g, 6, none⟩ = some (.bool ma.line) ∧ W.cell? ⟨g, 7, none⟩ = some (.int .i64 ma.mouse) ∧ W.cell? ⟨g, 8, none⟩ = some (.int .i64 ma.coding) ∧ W.cell? ⟨g, 9, none⟩ = some (.int .i64 ma.other))
              (first | with_reducible exact HS.out _ (Below.refl _ _).drew | with_reducible assumption | exact HS.out _ (Below.trans (And.left (by assumption)) (hb6.mono (Below.size (And.left (by assumption))))))
              (first
                | (go_at_call 12; (fail_if_success have := hb6); refine (H.get_at (m := ma) _ (HV.out _ (And.left (by assumption))) HX.out HG1.out).mono ?_; rintro e w6 ⟨rfl, hb6⟩)
                | (go_at_call 12; refine (H.get_at (m := m) _ (HV.out _ (And.left (by assumption))) HX.out HG2.out).mono ?_; rintro e w6 ⟨rfl, hb6⟩))
            all_goals
              go_wp2_with fail
              go_roundw
              case rel => exact ⟨k + 1, by omega, by go_num, HI.out _ (And.left (by assumption))⟩
              case measure => simp [intOf]; omega
          · go_wp2_with fail
            go_region_held3 (fun W => Below wr.heap.size wr W ∧ W.cell? ⟨b, o + k, none⟩ = some (.int .i64 67) ∧ W.cell? ⟨w.heap.size + 1, 0, none⟩ = some (.int .i64 n) ∧ W.cell? ⟨w.heap.size, 0, none⟩ = some (.bool m.cursor) ∧ W.cell? ⟨w.heap.size, 1, none⟩ = some (.bool m.keypad) ∧ W.cell? ⟨w.heap.size, 2, none⟩ = some (.bool m.back) ∧ W.cell? ⟨w.heap.size, 3, none⟩ = some (.bool m.focus) ∧ W.cell? ⟨w.heap.size, 4, none⟩ = some (.bool m.paste) ∧ W.cell? ⟨w.heap.size, 5, none⟩ = some (.bool m.lock) ∧ W.cell? ⟨w.heap.size, 6, none⟩ = some (.bool m.line) ∧ W.cell? ⟨w.heap.size, 7, none⟩ = some (.int .i64 m.mouse) ∧ W.cell? ⟨w.heap.size, 8, none⟩ = some (.int .i64 m.coding) ∧ W.cell? ⟨w.heap.size, 9, none⟩ = some (.int .i64 m.other) ∧ W.cell? ⟨g, 0, none⟩ = some (.bool ma.cursor) ∧ W.cell? ⟨g, 1, none⟩ = some (.bool ma.keypad) ∧ W.cell? ⟨g, 2, none⟩ = some (.bool ma.back) ∧ W.cell? ⟨g, 3, none⟩ = some (.bool ma.focus) ∧ W.cell? ⟨g, 4, none⟩ = some (.bool ma.paste) ∧ W.cell? ⟨g, 5, none⟩ = some (.bool ma.lock) ∧ W.cell? ⟨g, 6, none⟩ = some (.bool ma.line) ∧ W.cell? ⟨g, 7, none⟩ = some (.int .i64 ma.mouse) ∧ W.cell? ⟨g, 8, none⟩ = some (.int .i64 ma.coding) ∧ W.cell? ⟨g, 9, none⟩ = some (.int .i64 ma.other))
              (first | with_reducible exact HS.out _ (Below.refl _ _).drew | with_reducible assumption | exact HS.out _ (Below.trans (And.left (by assumption)) (hb6.mono (Below.size (And.left (by assumption))))))
              (first
                | (go_at_call 12; (fail_if_success have := hb6); refine (H.get_at (m := ma) _ (HV.out _ (And.left (by assumption))) HX.out HG1.out).mono ?_; rintro e w6 ⟨rfl, hb6⟩)
                | (go_at_call 12; refine (H.get_at (m := m) _ (HV.out _ (And.left (by assumption))) HX.out HG2.out).mono ?_; rintro e w6 ⟨rfl, hb6⟩))
            all_goals
              go_wp2_with fail
              go_roundw
              case rel => exact ⟨k + 1, by omega, by go_num, HI.out _ (And.left (by assumption))⟩
              case measure => simp [intOf]; omega
          · go_wp2_with fail
            go_region_held3 (fun W => Below wr.heap.size wr W ∧ W.cell? ⟨b, o + k, none⟩ = some (.int .i64 1004) ∧ W.cell? ⟨w.heap.size + 1, 0, none⟩ = some (.int .i64 n) ∧ W.cell? ⟨w.heap.size, 0, none⟩ = some (.bool m.cursor) ∧ W.cell? ⟨w.heap.size, 1, none⟩ = some (.bool m.keypad) ∧ W.cell? ⟨w.heap.size, 2, none⟩ = some (.bool m.back) ∧ W.cell? ⟨w.heap.size, 3, none⟩ = some (.bool m.focus) ∧ W.cell? ⟨w.heap.size, 4, none⟩ = some (.bool m.paste) ∧ W.cell? ⟨w.heap.size, 5, none⟩ = some (.bool m.lock) ∧ W.cell? ⟨w.heap.size, 6, none⟩ = some (.bool m.line) ∧ W.cell? ⟨w.heap.size, 7, none⟩ = some (.int .i64 m.mouse) ∧ W.cell? ⟨w.heap.size, 8, none⟩ = some (.int .i64 m.coding) ∧ W.cell? ⟨w.heap.size, 9, none⟩ = some (.int .i64 m.other) ∧ W.cell? ⟨g, 0, none⟩ = some (.bool ma.cursor) ∧ W.cell? ⟨g, 1, none⟩ = some (.bool ma.keypad) ∧ W.cell? ⟨g, 2, none⟩ = some (.bool ma.back) ∧ W.cell? ⟨g, 3, none⟩ = some (.bool ma.focus) ∧ W.cell? ⟨g, 4, none⟩ = some (.bool ma.paste) ∧ W.cell? ⟨g, 5, none⟩ = some (.bool ma.lock) ∧ W.cell? ⟨g, 6, none⟩ = some (.bool ma.line) ∧ W.cell? ⟨g, 7, none⟩ = some (.int .i64 ma.mouse) ∧ W.cell? ⟨g, 8, none⟩ = some (.int .i64 ma.coding) ∧ W.cell? ⟨g, 9, none⟩ = some (.int .i64 ma.other))
              (first | with_reducible exact HS.out _ (Below.refl _ _).drew | with_reducible assumption | exact HS.out _ (Below.trans (And.left (by assumption)) (hb6.mono (Below.size (And.left (by assumption))))))
              (first
                | (go_at_call 12; (fail_if_success have := hb6); refine (H.get_at (m := ma) _ (HV.out _ (And.left (by assumption))) HX.out HG1.out).mono ?_; rintro e w6 ⟨rfl, hb6⟩)
                | (go_at_call 12; refine (H.get_at (m := m) _ (HV.out _ (And.left (by assumption))) HX.out HG2.out).mono ?_; rintro e w6 ⟨rfl, hb6⟩))
            all_goals
              go_wp2_with fail
              go_roundw
              case rel => exact ⟨k + 1, by omega, by go_num, HI.out _ (And.left (by assumption))⟩
              case measure => simp [intOf]; omega
          · go_wp2_with fail
            go_region_held3 (fun W => Below wr.heap.size wr W ∧ W.cell? ⟨b, o + k, none⟩ = some (.int .i64 2004) ∧ W.cell? ⟨w.heap.size + 1, 0, none⟩ = some (.int .i64 n) ∧ W.cell? ⟨w.heap.size, 0, none⟩ = some (.bool m.cursor) ∧ W.cell? ⟨w.heap.size, 1, none⟩ = some (.bool m.keypad) ∧ W.cell? ⟨w.heap.size, 2, none⟩ = some (.bool m.back) ∧ W.cell? ⟨w.heap.size, 3, none⟩ = some (.bool m.focus) ∧ W.cell? ⟨w.heap.size, 4, none⟩ = some (.bool m.paste) ∧ W.cell? ⟨w.heap.size, 5, none⟩ = some (.bool m.lock) ∧ W.cell? ⟨w.heap.size, 6, none⟩ = some (.bool m.line) ∧ W.cell? ⟨w.heap.size, 7, none⟩ = some (.int .i64 m.mouse) ∧ W.cell? ⟨w.heap.size, 8, none⟩ = some (.int .i64 m.coding) ∧ W.cell? ⟨w.heap.size, 9, none⟩ = some (.int .i64 m.other) ∧ W.cell? ⟨g, 0, none⟩ = some (.bool ma.cursor) ∧ W.cell? ⟨g, 1, none⟩ = some (.bool ma.keypad) ∧ W.cell? ⟨g, 2, none⟩ = some (.bool ma.back) ∧ W.cell? ⟨g, 3, none⟩ = some (.bool ma.focus) ∧ W.cell? ⟨g, 4, none⟩ = some (.bool ma.paste) ∧ W.cell? ⟨g, 5, none⟩ = some (.bool ma.lock) ∧ W.cell? ⟨g, 6, none⟩ = some (.bool ma.line) ∧ W.cell? ⟨g, 7, none⟩ = some (.int .i64 ma.mouse) ∧ W.cell? ⟨g, 8, none⟩ = some (.int .i64 ma.coding) ∧ W.cell? ⟨g, 9, none⟩ = some (.int .i64 ma.other))
              (first | with_reducible exact HS.out _ (Below.refl _ _).drew | with_reducible assumption | exact HS.out _ (Below.trans (And.left (by assumption)) (hb6.mono (Below.size (And.left (by assumption))))))
              (first
                | (go_at_call 12; (fail_if_success have := hb6); refine (H.get_at (m := ma) _ (HV.out _ (And.left (by assumption))) HX.out HG1.out).mono ?_; rintro e w6 ⟨rfl, hb6⟩)
                | (go_at_call 12; refine (H.get_at (m := m) _ (HV.out _ (And.left (by assumption))) HX.out HG2.out).mono ?_; rintro e w6 ⟨rfl, hb6⟩))
            all_goals
              go_wp2_with fail
              go_roundw
              case rel => exact ⟨k + 1, by omega, by go_num, HI.out _ (And.left (by assumption))⟩
              case measure => simp [intOf]; omega
    · obtain rfl : k = 12 := by omega
      obtain ⟨y, hy⟩ : ∃ y, getM m false n1 = y := ⟨_, rfl⟩
      have HG1 := Lib.hid (HP.out.trans hy)
      have HG2 := Lib.hid hy
      have L6 := L5.below hbw
      have HS : Hid (∀ W, Below wr.heap.size wr W → Below wr.heap.size wr W ∧ W.cell? ⟨w.heap.size + 1, 1, none⟩ = some (.int .i64 n1) ∧ W.cell? ⟨w.heap.size, 0, none⟩ = some (.bool m.cursor) ∧ W.cell? ⟨w.heap.size, 1, none⟩ = some (.bool m.keypad) ∧ W.cell? ⟨w.heap.size, 2, none⟩ = some (.bool m.back) ∧ W.cell? ⟨w.heap.size, 3, none⟩ = some (.bool m.focus) ∧ W.cell? ⟨w.heap.size, 4, none⟩ = some (.bool m.paste) ∧ W.cell? ⟨w.heap.size, 5, none⟩ = some (.bool m.lock) ∧ W.cell? ⟨w.heap.size, 6, none⟩ = some (.bool m.line) ∧ W.cell? ⟨w.heap.size, 7, none⟩ = some (.int .i64 m.mouse) ∧ W.cell? ⟨w.heap.size, 8, none⟩ = some (.int .i64 m.coding) ∧ W.cell? ⟨w.heap.size, 9, none⟩ = some (.int .i64 m.other) ∧ W.cell? ⟨g, 0, none⟩ = some (.bool ma.cursor) ∧ W.cell? ⟨g, 1, none⟩ = some (.bool ma.keypad) ∧ W.cell? ⟨g, 2, none⟩ = some (.bool ma.back) ∧ W.cell? ⟨g, 3, none⟩ = some (.bool ma.focus) ∧ W.cell? ⟨g, 4, none⟩ = some (.bool ma.paste) ∧ W.cell? ⟨g, 5, none⟩ = some (.bool ma.lock) ∧ W.cell? ⟨g, 6, none⟩ = some (.bool ma.line) ∧ W.cell? ⟨g, 7, none⟩ = some (.int .i64 ma.mouse) ∧ W.cell? ⟨g, 8, none⟩ = some (.int .i64 ma.coding) ∧ W.cell? ⟨g, 9, none⟩ = some (.int .i64 ma.other)) := by
        have km : Blk wr w.heap.size 23 #[.bool m.cursor, .bool m.keypad, .bool m.back, .bool m.focus, .bool m.paste, .bool m.lock, .bool m.line, .int .i64 m.mouse, .int .i64 m.coding, .int .i64 m.other] := L6.tail.tail.head
        have ka : Blk wr g 23 #[.bool ma.cursor, .bool ma.keypad, .bool ma.back, .bool ma.focus, .bool ma.paste, .bool ma.lock, .bool ma.line, .int .i64 ma.mouse, .int .i64 ma.coding, .int .i64 ma.other] := L6.head
        have kn : Blk wr (w.heap.size + 1) 31 #[.int .i64 n, .int .i64 n1] := L6.tail.head
        have hlt2 := kn.lt
        have hlt3 := km.lt
        have hlt4 := ka.lt
        exact Lib.hid fun W hb => ⟨hb, (hb.cell (p := ⟨w.heap.size + 1, 1, none⟩) hlt2).trans (kn.cell 1), (hb.cell (p := ⟨w.heap.size, 0, none⟩) hlt3).trans (km.cell 0), (hb.cell (p := ⟨w.heap.size, 1, none⟩) hlt3).trans (km.cell 1), (hb.cell (p := ⟨w.heap.size, 2, none⟩) hlt3).trans (km.cell 2), (hb.cell (p := ⟨w.heap.size, 3, none⟩) hlt3).trans (km.cell 3), (hb.cell (p := ⟨w.heap.size, 4, none⟩) hlt3).trans (km.cell 4), (hb.cell (p := ⟨w.heap.size, 5, none⟩) hlt3).trans (km.cell 5), (hb.cell (p := ⟨w.heap.size, 6, none⟩) hlt3).trans (km.cell 6), (hb.cell (p := ⟨w.heap.size, 7, none⟩) hlt3).trans (km.cell 7), (hb.cell (p := ⟨w.heap.size, 8, none⟩) hlt3).trans (km.cell 8), (hb.cell (p := ⟨w.heap.size, 9, none⟩) hlt3).trans (km.cell 9), (hb.cell (p := ⟨g, 0, none⟩) hlt4).trans (ka.cell 0), (hb.cell (p := ⟨g, 1, none⟩) hlt4).trans (ka.cell 1), (hb.cell (p := ⟨g, 2, none⟩) hlt4).trans (ka.cell 2), (hb.cell (p := ⟨g, 3, none⟩) hlt4).trans (ka.cell 3), (hb.cell (p := ⟨g, 4, none⟩) hlt4).trans (ka.cell 4), (hb.cell (p := ⟨g, 5, none⟩) hlt4).trans (ka.cell 5), (hb.cell (p := ⟨g, 6, none⟩) hlt4).trans (ka.cell 6), (hb.cell (p := ⟨g, 7, none⟩) hlt4).trans (ka.cell 7), (hb.cell (p := ⟨g, 8, none⟩) hlt4).trans (ka.cell 8), (hb.cell (p := ⟨g, 9, none⟩) hlt4).trans (ka.cell 9)⟩
      have HI : Hid (∀ W, Below wr.heap.size wr W → Below w3.heap.size w3 W) := Lib.hid fun W hb => below_step hbw hb hbw.size
      have HV : Hid (∀ W, Below wr.heap.size wr W → Inv W) := Lib.hid fun W hb => H.invB hv (below_step hbe4 (HI.out W hb) hbe4.size)
      clear hy L6 hcell hlt hk
      have hkk : (ma.other == m.other) = true := by rw [HKE.out]; simp
      go_wp2_with fail
      go_region_held3 (fun W => Below wr.heap.size wr W ∧ W.cell? ⟨w.heap.size + 1, 1, none⟩ = some (.int .i64 n1) ∧ W.cell? ⟨w.heap.size, 0, none⟩ = some (.bool m.cursor) ∧ W.cell? ⟨w.heap.size, 1, none⟩ = some (.bool m.keypad) ∧ W.cell? ⟨w.heap.size, 2, none⟩ = some (.bool m.back) ∧ W.cell? ⟨w.heap.size, 3, none⟩ = some (.bool m.focus) ∧ W.cell? ⟨w.heap.size, 4, none⟩ = some (.bool m.paste) ∧ W.cell? ⟨w.heap.size, 5, none⟩ = some (.bool m.lock) ∧ W.cell? ⟨w.heap.size, 6, none⟩ = some (.bool m.line) ∧ W.cell? ⟨w.heap.size, 7, none⟩ = some (.int .i64 m.mouse) ∧ W.cell? ⟨w.heap.size, 8, none⟩ = some (.int .i64 m.coding) ∧ W.cell? ⟨w.heap.size, 9, none⟩ = some (.int .i64 m.other) ∧ W.cell? ⟨g, 0, none⟩ = some (.bool ma.cursor) ∧ W.cell? ⟨g, 1, none⟩ = some (.bool ma.keypad) ∧ W.cell? ⟨g, 2, none⟩ = some (.bool ma.back) ∧ W.cell? ⟨g, 3, none⟩ = some (.bool ma.focus) ∧ W.cell? ⟨g, 4, none⟩ = some (.bool ma.paste) ∧ W.cell? ⟨g, 5, none⟩ = some (.bool ma.lock) ∧ W.cell? ⟨g, 6, none⟩ = some (.bool ma.line) ∧ W.cell? ⟨g, 7, none⟩ = some (.int .i64 ma.mouse) ∧ W.cell? ⟨g, 8, none⟩ = some (.int .i64 ma.coding) ∧ W.cell? ⟨g, 9, none⟩ = some (.int .i64 ma.other))
        (first | with_reducible exact HS.out _ (Below.refl _ _).drew | with_reducible assumption | exact HS.out _ (Below.trans (And.left (by assumption)) (hb6.mono (Below.size (And.left (by assumption))))))
        (first
          | (go_at_call 12; (fail_if_success have := hb6); refine (H.get_at (m := ma) _ (HV.out _ (And.left (by assumption))) HN1.out HG1.out).mono ?_; rintro e w6 ⟨rfl, hb6⟩)
          | (go_at_call 12; refine (H.get_at (m := m) _ (HV.out _ (And.left (by assumption))) HN1.out HG2.out).mono ?_; rintro e w6 ⟨rfl, hb6⟩)
          | (go_at_call 18; refine (rown_any _).mono ?_; rintro e w6 ⟨A2, k2, rfl, hk2, hr2, hb6⟩)
          | (go_at_call 17; refine (ints_at _ _ 12 12 _ _ ownM ownM true _ rfl rfl (decide_eq_true rfl) (by decide) (by decide) (HR.out.below (HI.out _ (And.left (by assumption)))) hr2).mono ?_; rintro e w6 ⟨rfl, hb6⟩))
      all_goals
        go_wp2
        go_ret
        exact ⟨rfl, below_step hbe4 (HI.out _ (And.left (by assumption))) hbe4.size⟩
end
end Go.Proofs.Ytdjglfgdmakjgaa
