/-
  Layer 6: the landed Get, walked.
-/
import Derived.Test.YtokhchejkfhmmaaModG
namespace Go.Proofs.Ytokhchejkfhmmaa
open Go.RowKit Go.Maps

theorem fields_of (p : Bool) (g : Nat) (w : World) : Calls Try.prog 22 #[.pointer (some ⟨g, 0, none⟩), .bool p] w (FieldsE p g w) := by
  cases p
  · exact fields_no g w
  · exact fields_yes g w
/-- A mode stands in a flag at that place, or in a choice. -/
structure FlAt (p : Bool) (n : Int) (o : Nat) : Prop where
  at_ : ∀ g, (DataW.map (fieldL p g)).atKey (.int .i64 n) (.held nilF) = .held (flV g o)
  has : ∀ g, Maps.has (DataW.map (fieldL p g)) (.int .i64 n) = true
structure ChAt (p : Bool) (n : Int) (o : Nat) : Prop where
  at_ : ∀ g, (DataW.map (fieldL p g)).atKey (.int .i64 n) (.held nilF) = .held (chV g o)
  has : ∀ g, Maps.has (DataW.map (fieldL p g)) (.int .i64 n) = true
set_option maxRecDepth 100000 in
set_option maxHeartbeats 4000000 in
theorem pget_no (m : Mo) (p : Bool) (n : Int) (w : World) (hn : inI n) (hc : canM p n = false) : Calls Try.prog 15 #[moV m, .bool p, .int .i64 n] w (ValE (.int .i64 (getM m p n)) w) := by
  have HG := Lib.hid (get_no (m := m) hc)
  have HN := Lib.hid hn
  have HC := Lib.hid hc
  clear hn hc
  have hb0 : Below w.heap.size w (w.alloc (.cells (moC m) 25)) := (Below.refl _ w).alloc (Nat.le_refl _) _
  rw [moV]
  go_enter Try.func15, Try.ntmps15
  go_wp2_with fail
  refine (fields_of p w.heap.size _).mono ?_
  rintro e w1 ⟨b, k, rfl, hbs, hown, hb1⟩
  have hbb1 := below_step hb0 hb1 hb0.size
  have hl := (look_at hown HN.out (field_no w.heap.size HC.out).1 (field_no w.heap.size HC.out).2).1
  rw [nilF] at hl
  have hbb2 := hbb1.alloc hbb1.size (.cells #[.pointer none, .pointer none] 53)
  clear hown hb0 hb1 hbb1 hbs
  go_wp2_with fail
  refine (fixed_of p _).mono ?_
  rintro e w2 ⟨b2, k2, rfl, hown2, hb2⟩
  have hbb3 := below_step hbb2 hb2 hbb2.size
  have hl2 := fixed_at hown2 HN.out
  clear hown2 hbb2 hb2 hl
  go_wp2_with fail
  go_ret
  exact ⟨ret_i HG.out.symm, hbb3⟩
set_option maxRecDepth 100000 in
set_option maxHeartbeats 4000000 in
theorem pget_fl (m : Mo) (p : Bool) (n : Int) (o : Nat) (q : Bool) (w : World) (hn : inI n) (hf : FlAt p n o) (hq : (moC m)[o]? = some (.bool q)) (hg : getM m p n = if q = true then 1 else 2) : Calls Try.prog 15 #[moV m, .bool p, .int .i64 n] w (ValE (.int .i64 (getM m p n)) w) := by
  have HG := Lib.hid hg
  have HN := Lib.hid hn
  have HQ := Lib.hid hq
  clear hn hg hq
  have k0 := Blk.new w 25 (moC m)
  have hb0 : Below w.heap.size w (w.alloc (.cells (moC m) 25)) := (Below.refl _ w).alloc (Nat.le_refl _) _
  rw [moV]
  go_enter Try.func15, Try.ntmps15
  go_wp2_with fail
  refine (fields_of p w.heap.size _).mono ?_
  rintro e w1 ⟨b, k, rfl, hbs, hown, hb1⟩
  have hbb1 := below_step hb0 hb1 hb0.size
  have hl := (look_at hown HN.out (hf.at_ _) (hf.has _)).1
  rw [flV] at hl
  have hbb2 := hbb1.alloc hbb1.size (.cells #[.pointer (some ⟨w.heap.size, o, none⟩), .pointer none] 53)
  have hc := (((k0.below hb1 k0.lt).alloc (.cells #[.pointer (some ⟨w.heap.size, o, none⟩), .pointer none] 53)).cell o).trans HQ.out
  clear hown hb0 hb1 hbb1 hbs hf k0
  have HC := Lib.hid hc
  clear hc
  go_wp2_with fail
  refine (isSet_fl n HC.out).mono ?_
  rintro e w2 ⟨rfl, hb2⟩
  have hbb3 := below_step hbb2 hb2 hbb2.size
  clear hbb2 hb2 hl
  cases q with
  | true =>
    go_wp2_with fail
    go_ret
    exact ⟨ret_i (by rw [HG.out]; rfl), hbb3⟩
  | false =>
    go_wp2_with fail
    go_ret
    exact ⟨ret_i (by rw [HG.out]; rfl), hbb3⟩
set_option maxRecDepth 100000 in
set_option maxHeartbeats 4000000 in
theorem pget_ch (m : Mo) (p : Bool) (n : Int) (o : Nat) (i : Int) (w : World) (hn : inI n) (hf : ChAt p n o) (hq : (moC m)[o]? = some (.int .i64 i)) (hg : getM m p n = if decide (i = n) = true then 1 else 2) : Calls Try.prog 15 #[moV m, .bool p, .int .i64 n] w (ValE (.int .i64 (getM m p n)) w) := by
  have HG := Lib.hid hg
  have HN := Lib.hid hn
  have HQ := Lib.hid hq
  clear hn hg hq
  have k0 := Blk.new w 25 (moC m)
  have hb0 : Below w.heap.size w (w.alloc (.cells (moC m) 25)) := (Below.refl _ w).alloc (Nat.le_refl _) _
  rw [moV]
  go_enter Try.func15, Try.ntmps15
  go_wp2_with fail
  refine (fields_of p w.heap.size _).mono ?_
  rintro e w1 ⟨b, k, rfl, hbs, hown, hb1⟩
  have hbb1 := below_step hb0 hb1 hb0.size
  have hl := (look_at hown HN.out (hf.at_ _) (hf.has _)).1
  rw [chV] at hl
  have hbb2 := hbb1.alloc hbb1.size (.cells #[.pointer none, .pointer (some ⟨w.heap.size, o, none⟩)] 53)
  have hc := (((k0.below hb1 k0.lt).alloc (.cells #[.pointer none, .pointer (some ⟨w.heap.size, o, none⟩)] 53)).cell o).trans HQ.out
  clear hown hb0 hb1 hbb1 hbs hf k0
  have HC := Lib.hid hc
  clear hc
  obtain ⟨q, hq⟩ : ∃ q, decide (i = n) = q := ⟨_, rfl⟩
  have R := isSet_ch n HC.out
  rw [hq] at R
  have HG2 := Lib.hid (show getM m p n = if q = true then 1 else 2 by rw [HG.out, hq])
  clear hq HG
  go_wp2_with fail
  refine R.mono ?_
  clear R
  rintro e w2 ⟨rfl, hb2⟩
  have hbb3 := below_step hbb2 hb2 hbb2.size
  clear hbb2 hb2 hl
  cases q with
  | true =>
    go_wp2_with fail
    go_ret
    exact ⟨ret_i (by rw [HG2.out]; rfl), hbb3⟩
  | false =>
    go_wp2_with fail
    go_ret
    exact ⟨ret_i (by rw [HG2.out]; rfl), hbb3⟩
theorem chAt {n : Int} (h : mouseN n = true ∨ codingN n = true) : ChAt true n (if mouseN n = true then 7 else 8) := by
  rcases h with h | h
  · rw [if_pos h]
    rcases (mouseN_iff n).1 h with rfl | rfl | rfl | rfl <;> exact ⟨fun g => by kernel_rfl, fun g => by kernel_rfl⟩
  · have hm : ¬ mouseN n = true := by
      rw [mouseN_iff]
      have := (codingN_iff n).1 h
      omega
    rw [if_neg hm]
    rcases (codingN_iff n).1 h with rfl | rfl | rfl <;> exact ⟨fun g => by kernel_rfl, fun g => by kernel_rfl⟩
/-- Whatever may be set is a flag, or of a choice. -/
theorem can_where {p : Bool} {n : Int} (h : canM p n = true) : (p = false ∧ (n = 2 ∨ n = 20)) ∨ (p = true ∧ (n = 1 ∨ n = 66 ∨ n = 67 ∨ n = 1004 ∨ n = 2004)) ∨ (p = true ∧ (mouseN n = true ∨ codingN n = true)) := by
  cases p with
  | false => exact .inl ⟨rfl, by simpa [canM] using h⟩
  | true =>
    have hx : (n = 1 ∨ n = 66 ∨ n = 67 ∨ n = 1004 ∨ n = 2004) ∨ (mouseN n = true ∨ codingN n = true) := by simpa [canM] using h
    rcases hx with h1 | h1
    · exact .inr (.inl ⟨rfl, h1⟩)
    · exact .inr (.inr ⟨rfl, h1⟩)
theorem pget_any (m : Mo) (p : Bool) (n : Int) (w : World) (hn : inI n) : Calls Try.prog 15 #[moV m, .bool p, .int .i64 n] w (ValE (.int .i64 (getM m p n)) w) := by
  by_cases h : canM p n = true
  · have hg := get_is (m := m) h
    rcases can_where h with ⟨rfl, rfl | rfl⟩ | ⟨rfl, rfl | rfl | rfl | rfl | rfl⟩ | ⟨rfl, hx⟩
    · exact pget_fl m _ _ 5 m.lock w hn ⟨fun g => by kernel_rfl, fun g => by kernel_rfl⟩ rfl hg
    · exact pget_fl m _ _ 6 m.line w hn ⟨fun g => by kernel_rfl, fun g => by kernel_rfl⟩ rfl hg
    · exact pget_fl m _ _ 0 m.cursor w hn ⟨fun g => by kernel_rfl, fun g => by kernel_rfl⟩ rfl hg
    · exact pget_fl m _ _ 1 m.keypad w hn ⟨fun g => by kernel_rfl, fun g => by kernel_rfl⟩ rfl hg
    · exact pget_fl m _ _ 2 m.back w hn ⟨fun g => by kernel_rfl, fun g => by kernel_rfl⟩ rfl hg
    · exact pget_fl m _ _ 3 m.focus w hn ⟨fun g => by kernel_rfl, fun g => by kernel_rfl⟩ rfl hg
    · exact pget_fl m _ _ 4 m.paste w hn ⟨fun g => by kernel_rfl, fun g => by kernel_rfl⟩ rfl hg
    · have hne : n ≠ 1 ∧ n ≠ 66 ∧ n ≠ 67 ∧ n ≠ 1004 ∧ n ≠ 2004 := by
        rcases hx with h1 | h1
        · have := (mouseN_iff n).1 h1; omega
        · have := (codingN_iff n).1 h1; omega
      have hc := chAt hx
      have hi : isM m true n = if mouseN n = true then decide (m.mouse = n) else decide (m.coding = n) := by
        unfold isM
        rw [if_neg (by decide), if_neg hne.1, if_neg hne.2.1, if_neg hne.2.2.1, if_neg hne.2.2.2.1, if_neg hne.2.2.2.2]
      rw [hi] at hg
      by_cases hm : mouseN n = true
      · rw [if_pos hm] at hc hg
        exact pget_ch m _ _ 7 m.mouse w hn hc rfl hg
      · rw [if_neg hm] at hc hg
        exact pget_ch m _ _ 8 m.coding w hn hc rfl hg
  · exact pget_no m p n w hn (by simpa using h)
end Go.Proofs.Ytokhchejkfhmmaa
