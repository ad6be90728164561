/-
  Layer 6: the landed Set, walked.
-/
import Derived.Test.YtokhchejkfhmmaaModI
import Derived.Test.YtokhchejkfhmmaaModO
namespace Go.Proofs.Ytokhchejkfhmmaa
open Go.RowKit Go.Maps

/-- The box of modes, and the result's. -/
theorem two_boxes (w : World) (cs : Array Value) (t : TypeId) (zs : Array Value) : Blk ((w.alloc (.cells cs t)).alloc (.cells zs t)) w.heap.size t cs ∧ Blk ((w.alloc (.cells cs t)).alloc (.cells zs t)) (w.heap.size + 1) t zs ∧ Below w.heap.size w ((w.alloc (.cells cs t)).alloc (.cells zs t)) := by
  refine ⟨(Blk.new w t cs).alloc _, ?_, ((Below.refl _ w).alloc (Nat.le_refl _) _).alloc (by simp) _⟩
  have := Blk.new (w.alloc (.cells cs t)) t zs
  simpa only [World.size_alloc] using this
set_option maxRecDepth 100000 in
set_option maxHeartbeats 8000000 in
theorem pset_no (m : Mo) (p : Bool) (n : Int) (on : Bool) (w : World) (hn : inI n) (hc : canM p n = false) : Calls Try.prog 14 #[moV m, .bool p, .int .i64 n, .bool on] w (MoE m false w) := by
  have HN := Lib.hid hn
  have HC := Lib.hid hc
  clear hn hc
  obtain ⟨k0, k1, hb0⟩ := two_boxes w (moC m) 25 (moC mo0)
  rw [moV]
  go_enter Try.func14, Try.ntmps14
  go_wp2_with fail
  refine (fields_of p w.heap.size _).mono ?_
  rintro e w1 ⟨b, k, rfl, hbs, hown, hb1⟩
  have hbb1 := below_step hb0 hb1 hb0.size
  have hl := (look_at hown HN.out (field_no w.heap.size HC.out).1 (field_no w.heap.size HC.out).2).1
  rw [nilF] at hl
  have hbb2 := hbb1.alloc hbb1.size (.cells #[.pointer none, .pointer none] 53)
  have a0 := (k0.below hb1 k0.lt).alloc (.cells #[.pointer none, .pointer none] 53)
  have a1 := (k1.below hb1 k1.lt).alloc (.cells #[.pointer none, .pointer none] 53)
  clear hown hb0 hb1 hbb1 hbs k0 k1
  obtain ⟨c0, c1, c2, c3, c4, c5, c6, c7, c8, c9⟩ := Blk.cells10 a0
  obtain ⟨d0, d1, d2, d3, d4, d5, d6, d7, d8, d9⟩ := Blk.cells10 a1
  have z0 := a1.frozen 0
  have z1 := a1.frozen 1
  have z2 := a1.frozen 2
  have z3 := a1.frozen 3
  have z4 := a1.frozen 4
  have z5 := a1.frozen 5
  have z6 := a1.frozen 6
  have z7 := a1.frozen 7
  have z8 := a1.frozen 8
  have z9 := a1.frozen 9
  have k9 := a1.set10 (.bool m.cursor) (.bool m.keypad) (.bool m.back) (.bool m.focus) (.bool m.paste) (.bool m.lock) (.bool m.line) (.int .i64 m.mouse) (.int .i64 m.coding) (.int .i64 m.other)
  obtain ⟨r0, r1, r2, r3, r4, r5, r6, r7, r8, r9⟩ := Blk.cells10 k9
  go_wp2_with fail
  refine bodyPost_ret (v := .tuple #[moV m, .bool false]) (by simp [results, Try.results14, go_sem, moV, r0, r1, r2, r3, r4, r5, r6, r7, r8, r9]) rfl ?_
  exact ⟨rfl, below_set10 hbb2 (by omega) _ _ _ _ _ _ _ _ _ _⟩
set_option maxRecDepth 100000 in
set_option maxHeartbeats 8000000 in
theorem pset_fl (m m' : Mo) (p : Bool) (n : Int) (on q0 : Bool) (o : Nat) (w : World) (hn : inI n) (hf : FlAt p n o) (hq : (moC m)[o]? = some (.bool q0)) (hs : (moC m).setIfInBounds o (.bool on) = moC m') : Calls Try.prog 14 #[moV m, .bool p, .int .i64 n, .bool on] w (MoE m' true w) := by
  have HN := Lib.hid hn
  have HQ := Lib.hid hq
  clear hn hq
  obtain ⟨k0, k1, hb0⟩ := two_boxes w (moC m) 25 (moC mo0)
  rw [moV]
  go_enter Try.func14, Try.ntmps14
  go_wp2_with fail
  refine (fields_of p w.heap.size _).mono ?_
  rintro e w1 ⟨b, k, rfl, hbs, hown, hb1⟩
  have hbb1 := below_step hb0 hb1 hb0.size
  have hl := (look_at hown HN.out (hf.at_ _) (hf.has _)).1
  rw [flV] at hl
  have hbb2 := hbb1.alloc hbb1.size (.cells #[.pointer (some ⟨w.heap.size, o, none⟩), .pointer none] 53)
  have a0 := (k0.below hb1 k0.lt).alloc (.cells #[.pointer (some ⟨w.heap.size, o, none⟩), .pointer none] 53)
  have a1 := (k1.below hb1 k1.lt).alloc (.cells #[.pointer (some ⟨w.heap.size, o, none⟩), .pointer none] 53)
  have co := (a0.cell o).trans HQ.out
  have zo := a0.frozen o
  have b0 := a0.set o (.bool on)
  have b1 := a1.far (a := ⟨w.heap.size, o, none⟩) (by show w.heap.size + 1 ≠ w.heap.size; omega) (.bool on)
  have hbb3 := hbb2.setCell (p := ⟨w.heap.size, o, none⟩) (Nat.le_refl _) (.bool on)
  rw [hs] at b0
  clear hown hb0 hb1 hbb1 hbs k0 k1 a0 a1 hbb2 hf hs
  obtain ⟨c0, c1, c2, c3, c4, c5, c6, c7, c8, c9⟩ := Blk.cells10 b0
  obtain ⟨d0, d1, d2, d3, d4, d5, d6, d7, d8, d9⟩ := Blk.cells10 b1
  have z0 := b1.frozen 0
  have z1 := b1.frozen 1
  have z2 := b1.frozen 2
  have z3 := b1.frozen 3
  have z4 := b1.frozen 4
  have z5 := b1.frozen 5
  have z6 := b1.frozen 6
  have z7 := b1.frozen 7
  have z8 := b1.frozen 8
  have z9 := b1.frozen 9
  have k9 := b1.set10 (.bool m'.cursor) (.bool m'.keypad) (.bool m'.back) (.bool m'.focus) (.bool m'.paste) (.bool m'.lock) (.bool m'.line) (.int .i64 m'.mouse) (.int .i64 m'.coding) (.int .i64 m'.other)
  obtain ⟨r0, r1, r2, r3, r4, r5, r6, r7, r8, r9⟩ := Blk.cells10 k9
  go_wp2_with fail
  refine bodyPost_ret (v := .tuple #[moV m', .bool true]) (by simp [results, Try.results14, go_sem, moV, r0, r1, r2, r3, r4, r5, r6, r7, r8, r9]) rfl ?_
  exact ⟨rfl, below_set10 hbb3 (by omega) _ _ _ _ _ _ _ _ _ _⟩
set_option maxRecDepth 100000 in
set_option maxHeartbeats 8000000 in
theorem pset_on (m m' : Mo) (p : Bool) (n i : Int) (o : Nat) (w : World) (hn : inI n) (hf : ChAt p n o) (hq : (moC m)[o]? = some (.int .i64 i)) (hs : (moC m).setIfInBounds o (.int .i64 n) = moC m') : Calls Try.prog 14 #[moV m, .bool p, .int .i64 n, .bool true] w (MoE m' true w) := by
  have HN := Lib.hid hn
  have HQ := Lib.hid hq
  clear hn hq
  obtain ⟨k0, k1, hb0⟩ := two_boxes w (moC m) 25 (moC mo0)
  rw [moV]
  go_enter Try.func14, Try.ntmps14
  go_wp2_with fail
  refine (fields_of p w.heap.size _).mono ?_
  rintro e w1 ⟨b, k, rfl, hbs, hown, hb1⟩
  have hbb1 := below_step hb0 hb1 hb0.size
  have hl := (look_at hown HN.out (hf.at_ _) (hf.has _)).1
  rw [chV] at hl
  have hbb2 := hbb1.alloc hbb1.size (.cells #[.pointer none, .pointer (some ⟨w.heap.size, o, none⟩)] 53)
  have a0 := (k0.below hb1 k0.lt).alloc (.cells #[.pointer none, .pointer (some ⟨w.heap.size, o, none⟩)] 53)
  have a1 := (k1.below hb1 k1.lt).alloc (.cells #[.pointer none, .pointer (some ⟨w.heap.size, o, none⟩)] 53)
  have co := (a0.cell o).trans HQ.out
  have zo := a0.frozen o
  have b0 := a0.set o (.int .i64 n)
  have b1 := a1.far (a := ⟨w.heap.size, o, none⟩) (by show w.heap.size + 1 ≠ w.heap.size; omega) (.int .i64 n)
  have hbb3 := hbb2.setCell (p := ⟨w.heap.size, o, none⟩) (Nat.le_refl _) (.int .i64 n)
  rw [hs] at b0
  clear hown hb0 hb1 hbb1 hbs k0 k1 a0 a1 hbb2 hf hs
  obtain ⟨c0, c1, c2, c3, c4, c5, c6, c7, c8, c9⟩ := Blk.cells10 b0
  obtain ⟨d0, d1, d2, d3, d4, d5, d6, d7, d8, d9⟩ := Blk.cells10 b1
  have z0 := b1.frozen 0
  have z1 := b1.frozen 1
  have z2 := b1.frozen 2
  have z3 := b1.frozen 3
  have z4 := b1.frozen 4
  have z5 := b1.frozen 5
  have z6 := b1.frozen 6
  have z7 := b1.frozen 7
  have z8 := b1.frozen 8
  have z9 := b1.frozen 9
  have k9 := b1.set10 (.bool m'.cursor) (.bool m'.keypad) (.bool m'.back) (.bool m'.focus) (.bool m'.paste) (.bool m'.lock) (.bool m'.line) (.int .i64 m'.mouse) (.int .i64 m'.coding) (.int .i64 m'.other)
  obtain ⟨r0, r1, r2, r3, r4, r5, r6, r7, r8, r9⟩ := Blk.cells10 k9
  go_wp2_with fail
  refine bodyPost_ret (v := .tuple #[moV m', .bool true]) (by simp [results, Try.results14, go_sem, moV, r0, r1, r2, r3, r4, r5, r6, r7, r8, r9]) rfl ?_
  exact ⟨rfl, below_set10 hbb3 (by omega) _ _ _ _ _ _ _ _ _ _⟩
set_option maxRecDepth 100000 in
set_option maxHeartbeats 8000000 in
theorem pset_off (m m' : Mo) (p : Bool) (n i : Int) (o : Nat) (w : World) (hn : inI n) (hf : ChAt p n o) (hq : (moC m)[o]? = some (.int .i64 i)) (hs : (moC m).setIfInBounds o (.int .i64 (if decide (i = n) = true then 0 else i)) = moC m') : Calls Try.prog 14 #[moV m, .bool p, .int .i64 n, .bool false] w (MoE m' true w) := by
  have HN := Lib.hid hn
  have HQ := Lib.hid hq
  clear hn hq
  obtain ⟨k0, k1, hb0⟩ := two_boxes w (moC m) 25 (moC mo0)
  rw [moV]
  go_enter Try.func14, Try.ntmps14
  go_wp2_with fail
  refine (fields_of p w.heap.size _).mono ?_
  rintro e w1 ⟨b, k, rfl, hbs, hown, hb1⟩
  have hbb1 := below_step hb0 hb1 hb0.size
  have hl := (look_at hown HN.out (hf.at_ _) (hf.has _)).1
  rw [chV] at hl
  have hbb2 := hbb1.alloc hbb1.size (.cells #[.pointer none, .pointer (some ⟨w.heap.size, o, none⟩)] 53)
  have a0 := (k0.below hb1 k0.lt).alloc (.cells #[.pointer none, .pointer (some ⟨w.heap.size, o, none⟩)] 53)
  have a1 := (k1.below hb1 k1.lt).alloc (.cells #[.pointer none, .pointer (some ⟨w.heap.size, o, none⟩)] 53)
  have kf := Blk.new w1 53 #[.pointer none, .pointer (some ⟨w.heap.size, o, none⟩)]
  have co := (a0.cell o).trans HQ.out
  obtain ⟨q, hqq⟩ : ∃ q, decide (i = n) = q := ⟨_, rfl⟩
  have R := isSet_ch n co
  rw [hqq] at R hs
  clear hown hb0 hb1 hbb1 hbs k0 k1 hf hqq co
  go_wp2_with fail
  refine R.mono ?_
  clear R
  rintro e w2 ⟨rfl, hb2⟩
  have e0 := a0.below hb2 a0.lt
  have e1 := a1.below hb2 a1.lt
  have ef := kf.below hb2 kf.lt
  have hbb3 := below_step hbb2 hb2 hbb2.size
  have f1 := ef.cell 1
  have f0 := ef.cell 0
  clear a0 a1 kf hbb2 hb2 hl
  have co := (e0.cell o).trans HQ.out
  have zo := e0.frozen o
  cases q with
  | true =>
    have b0 := e0.set o (.int .i64 0)
    have b1 := e1.far (a := ⟨w.heap.size, o, none⟩) (by show w.heap.size + 1 ≠ w.heap.size; omega) (.int .i64 0)
    have hbb4 := hbb3.setCell (p := ⟨w.heap.size, o, none⟩) (Nat.le_refl _) (.int .i64 0)
    rw [if_pos rfl] at hs
    rw [hs] at b0
    clear hs e0 e1 ef hbb3
    obtain ⟨c0, c1, c2, c3, c4, c5, c6, c7, c8, c9⟩ := Blk.cells10 b0
    obtain ⟨d0, d1, d2, d3, d4, d5, d6, d7, d8, d9⟩ := Blk.cells10 b1
    have z0 := b1.frozen 0
    have z1 := b1.frozen 1
    have z2 := b1.frozen 2
    have z3 := b1.frozen 3
    have z4 := b1.frozen 4
    have z5 := b1.frozen 5
    have z6 := b1.frozen 6
    have z7 := b1.frozen 7
    have z8 := b1.frozen 8
    have z9 := b1.frozen 9
    have k9 := b1.set10 (.bool m'.cursor) (.bool m'.keypad) (.bool m'.back) (.bool m'.focus) (.bool m'.paste) (.bool m'.lock) (.bool m'.line) (.int .i64 m'.mouse) (.int .i64 m'.coding) (.int .i64 m'.other)
    obtain ⟨r0, r1, r2, r3, r4, r5, r6, r7, r8, r9⟩ := Blk.cells10 k9
    go_wp2_with fail
    refine bodyPost_ret (v := .tuple #[moV m', .bool true]) (by simp [results, Try.results14, go_sem, moV, r0, r1, r2, r3, r4, r5, r6, r7, r8, r9]) rfl ?_
    exact ⟨rfl, below_set10 hbb4 (by omega) _ _ _ _ _ _ _ _ _ _⟩
  | false =>
    rw [if_neg (by decide)] at hs
    have hmm : moC m = moC m' := by
      rw [← hs]
      apply Array.ext_getElem?
      intro j
      by_cases hj : o = j
      · subst hj
        have ho : o < (moC m).size := (Array.getElem?_eq_some_iff.1 HQ.out).1
        rw [Array.getElem?_setIfInBounds_self_of_lt ho, HQ.out]
      · rw [Array.getElem?_setIfInBounds_ne hj]
    rw [hmm] at e0
    clear hs hmm ef
    obtain ⟨c0, c1, c2, c3, c4, c5, c6, c7, c8, c9⟩ := Blk.cells10 e0
    obtain ⟨d0, d1, d2, d3, d4, d5, d6, d7, d8, d9⟩ := Blk.cells10 e1
    have z0 := e1.frozen 0
    have z1 := e1.frozen 1
    have z2 := e1.frozen 2
    have z3 := e1.frozen 3
    have z4 := e1.frozen 4
    have z5 := e1.frozen 5
    have z6 := e1.frozen 6
    have z7 := e1.frozen 7
    have z8 := e1.frozen 8
    have z9 := e1.frozen 9
    have k9 := e1.set10 (.bool m'.cursor) (.bool m'.keypad) (.bool m'.back) (.bool m'.focus) (.bool m'.paste) (.bool m'.lock) (.bool m'.line) (.int .i64 m'.mouse) (.int .i64 m'.coding) (.int .i64 m'.other)
    obtain ⟨r0, r1, r2, r3, r4, r5, r6, r7, r8, r9⟩ := Blk.cells10 k9
    go_wp2_with fail
    refine bodyPost_ret (v := .tuple #[moV m', .bool true]) (by simp [results, Try.results14, go_sem, moV, r0, r1, r2, r3, r4, r5, r6, r7, r8, r9]) rfl ?_
    exact ⟨rfl, below_set10 hbb3 (by omega) _ _ _ _ _ _ _ _ _ _⟩
theorem pset_any (m : Mo) (p : Bool) (n : Int) (on : Bool) (w : World) (hn : inI n) : Calls Try.prog 14 #[moV m, .bool p, .int .i64 n, .bool on] w (MoE (setM m p n on).1 (setM m p n on).2 w) := by
  by_cases h : canM p n = true
  · rw [set_can, h]
    rcases can_where h with ⟨rfl, rfl | rfl⟩ | ⟨rfl, rfl | rfl | rfl | rfl | rfl⟩ | ⟨rfl, hx⟩
    · exact pset_fl m _ _ _ on m.lock 5 w hn ⟨fun g => by kernel_rfl, fun g => by kernel_rfl⟩ rfl rfl
    · exact pset_fl m _ _ _ on m.line 6 w hn ⟨fun g => by kernel_rfl, fun g => by kernel_rfl⟩ rfl rfl
    · exact pset_fl m _ _ _ on m.cursor 0 w hn ⟨fun g => by kernel_rfl, fun g => by kernel_rfl⟩ rfl rfl
    · exact pset_fl m _ _ _ on m.keypad 1 w hn ⟨fun g => by kernel_rfl, fun g => by kernel_rfl⟩ rfl rfl
    · exact pset_fl m _ _ _ on m.back 2 w hn ⟨fun g => by kernel_rfl, fun g => by kernel_rfl⟩ rfl rfl
    · exact pset_fl m _ _ _ on m.focus 3 w hn ⟨fun g => by kernel_rfl, fun g => by kernel_rfl⟩ rfl rfl
    · exact pset_fl m _ _ _ on m.paste 4 w hn ⟨fun g => by kernel_rfl, fun g => by kernel_rfl⟩ rfl rfl
    · have hne : n ≠ 1 ∧ n ≠ 66 ∧ n ≠ 67 ∧ n ≠ 1004 ∧ n ≠ 2004 := by
        rcases hx with h1 | h1
        · have := (mouseN_iff n).1 h1; omega
        · have := (codingN_iff n).1 h1; omega
      have hc := chAt hx
      by_cases hm : mouseN n = true
      · rw [if_pos hm] at hc
        have hs : (setM m true n on).1 = { m with mouse := oneM m.mouse n on } := by
          unfold setM
          rw [if_neg (by decide), if_neg hne.1, if_neg hne.2.1, if_neg hne.2.2.1, if_neg hne.2.2.2.1, if_neg hne.2.2.2.2, if_pos hm]
        rw [hs]
        cases on with
        | true => exact pset_on m _ _ _ m.mouse 7 w hn hc rfl rfl
        | false => exact pset_off m _ _ _ m.mouse 7 w hn hc rfl (by simp [moC, oneM])
      · rw [if_neg hm] at hc
        have hs : (setM m true n on).1 = { m with coding := oneM m.coding n on } := by
          unfold setM
          rw [if_neg (by decide), if_neg hne.1, if_neg hne.2.1, if_neg hne.2.2.1, if_neg hne.2.2.2.1, if_neg hne.2.2.2.2, if_neg hm, if_pos (hx.resolve_left hm)]
        rw [hs]
        cases on with
        | true => exact pset_on m _ _ _ m.coding 8 w hn hc rfl rfl
        | false => exact pset_off m _ _ _ m.coding 8 w hn hc rfl (by simp [moC, oneM])
  · have h' : canM p n = false := by simpa using h
    rw [set_no h']
    exact pset_no m p n on w hn h'
theorem pset_at {m m' : Mo} {p : Bool} {n : Int} {on q : Bool} (w : World) (hn : inI n) (h : setM m p n on = (m', q)) : Calls Try.prog 14 #[moV m, .bool p, .int .i64 n, .bool on] w (MoE m' q w) := by
  have := pset_any m p n on w hn
  rw [h] at this
  exact this
theorem pget_at {m : Mo} {p : Bool} {n k : Int} (w : World) (hn : inI n) (h : getM m p n = k) : Calls Try.prog 15 #[moV m, .bool p, .int .i64 n] w (ValE (.int .i64 k) w) := by
  have := pget_any m p n w hn
  rw [h] at this
  exact this
end Go.Proofs.Ytokhchejkfhmmaa
