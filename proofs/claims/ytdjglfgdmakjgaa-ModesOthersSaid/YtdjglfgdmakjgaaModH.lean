/-
  Layer 6: the landed May, walked.
-/
import Derived.Test.YtdjglfgdmakjgaaModG
import Derived.LaidEqlPtr
namespace Go.Proofs.Ytdjglfgdmakjgaa
open Go.RowKit Go.Maps

theorem run_eql_nil_ptr {P : Program} (w : World) {tp te : TypeId} (hp : P.underlying tp = some (.pointer te)) (a : Addr) : (binOp .eql tp (.pointer none) (.pointer (some a))).run P w = .ok (.bool false) w := by
  have h : ∀ d : Nat, (Op.equalIn (d + 1) tp (.pointer none) (.pointer (some a))).run P w = .ok false w := fun d => by simp [Op.equalIn, run_underlying hp]
  simp only [binOp]
  simp [Op.equal, Op.maxDepth, h 9999]
/-- Whether a number is of the choice at that place. -/
def ofCh (o : Nat) (i : Int) : Bool := if o = 7 then mouseN i else codingN i
theorem field_any {g o : Nat} (i : Int) (ho : o = 7 ∨ o = 8) : ∃ a b, (DataW.map (fieldL true g)).atKey (.int .i64 i) (.held nilF) = .held (.agg #[.pointer a, .pointer b]) ∧ decide (b = some (⟨g, o, none⟩ : Addr)) = ofCh o i ∧ (b = none ∨ b = some ⟨g, 7, none⟩ ∨ b = some ⟨g, 8, none⟩) := by
  by_cases h : canM true i = true
  · have hx : (i = 1 ∨ i = 66 ∨ i = 67 ∨ i = 1004 ∨ i = 2004) ∨ (i = 9 ∨ i = 1000 ∨ i = 1002 ∨ i = 1003) ∨ (i = 1005 ∨ i = 1006 ∨ i = 1015) := by simpa [canM, mouseN, codingN] using h
    rcases hx with (rfl | rfl | rfl | rfl | rfl) | (rfl | rfl | rfl | rfl) | (rfl | rfl | rfl)
    · exact ⟨some ⟨g, 0, none⟩, none, by kernel_rfl, by rcases ho with rfl | rfl <;> simp [ofCh, mouseN, codingN], by simp⟩
    · exact ⟨some ⟨g, 1, none⟩, none, by kernel_rfl, by rcases ho with rfl | rfl <;> simp [ofCh, mouseN, codingN], by simp⟩
    · exact ⟨some ⟨g, 2, none⟩, none, by kernel_rfl, by rcases ho with rfl | rfl <;> simp [ofCh, mouseN, codingN], by simp⟩
    · exact ⟨some ⟨g, 3, none⟩, none, by kernel_rfl, by rcases ho with rfl | rfl <;> simp [ofCh, mouseN, codingN], by simp⟩
    · exact ⟨some ⟨g, 4, none⟩, none, by kernel_rfl, by rcases ho with rfl | rfl <;> simp [ofCh, mouseN, codingN], by simp⟩
    · exact ⟨none, some ⟨g, 7, none⟩, by kernel_rfl, by rcases ho with rfl | rfl <;> simp [ofCh, mouseN, codingN], by simp⟩
    · exact ⟨none, some ⟨g, 7, none⟩, by kernel_rfl, by rcases ho with rfl | rfl <;> simp [ofCh, mouseN, codingN], by simp⟩
    · exact ⟨none, some ⟨g, 7, none⟩, by kernel_rfl, by rcases ho with rfl | rfl <;> simp [ofCh, mouseN, codingN], by simp⟩
    · exact ⟨none, some ⟨g, 7, none⟩, by kernel_rfl, by rcases ho with rfl | rfl <;> simp [ofCh, mouseN, codingN], by simp⟩
    · exact ⟨none, some ⟨g, 8, none⟩, by kernel_rfl, by rcases ho with rfl | rfl <;> simp [ofCh, mouseN, codingN], by simp⟩
    · exact ⟨none, some ⟨g, 8, none⟩, by kernel_rfl, by rcases ho with rfl | rfl <;> simp [ofCh, mouseN, codingN], by simp⟩
    · exact ⟨none, some ⟨g, 8, none⟩, by kernel_rfl, by rcases ho with rfl | rfl <;> simp [ofCh, mouseN, codingN], by simp⟩
  · have h' : canM true i = false := by simpa using h
    refine ⟨none, none, (field_no g h').1, ?_, .inl rfl⟩
    have hx : ¬ (mouseN i = true) ∧ ¬ (codingN i = true) := by
      constructor <;> (intro hh; apply h; simp [canM, hh])
    rcases ho with rfl | rfl <;> simp [ofCh, hx.1, hx.2]
set_option maxRecDepth 100000 in
set_option maxHeartbeats 4000000 in
theorem may1_any {g o c b k : Nat} {i : Int} {cs : Array Value} {w : World} (hk : Blk w g 23 cs) (ho : o = 7 ∨ o = 8) (hi : inI i) (hc : w.cell? ⟨g, o, none⟩ = some (.int .i64 i)) (hm : w.cell? ⟨c, 0, none⟩ = some (.map (some b))) (hown : w.ownsMap Try.prog 3 hel b k (.map (fieldL true g))) :
    Calls Try.prog 25 #[.pointer (some ⟨g, o, none⟩), .pointer (some ⟨c, 0, none⟩)] w (ValE (.bool (decide (i = 0) || ofCh o i)) w) := by
  obtain ⟨x, y, hat, hy, hy3⟩ := field_any (g := g) i ho
  have hl : ∀ W : World, W.heap = w.heap → (Instr.lookup 45 (.map (some b)) (.int .i64 i) false).run Try.prog W = .ok (.agg #[.pointer x, .pointer y]) W := fun W hW => (look_at (show W.ownsMap Try.prog 3 hel b k (.map (fieldL true g)) from by unfold World.ownsMap at *; rw [hW]; exact hown) hi hat rfl).2
  have hl1 := hl w rfl
  have hl2 : ∀ n, (Instr.lookup 45 (.map (some b)) (.int .i64 i) false).run Try.prog (w.drewN n) = .ok (.agg #[.pointer x, .pointer y]) (w.drewN n) := fun n => hl _ rfl
  have HY := Lib.hid hy
  have hf : ∀ W : World, (Instr.field 43 (.agg #[.pointer x, .pointer y]) 1).run Try.prog W = .ok (.pointer y) W := fun W => by kernel_rfl
  have hB : ∀ n, Below w.heap.size w (w.drewN n) := fun n => ⟨rfl, rfl, rfl, Nat.le_refl _, fun _ _ => rfl⟩
  clear hl hown hat hy
  by_cases h0 : i = 0
  · subst h0
    have e : (decide ((0 : Int) = 0) || ofCh o 0) = true := by simp
    rw [e]
    clear e
    go_enter Try.func25, Try.ntmps25
    go_wp2_with fail
    go_quiet (fail)
    go_wp2_with fail
    go_ret
    exact ⟨rfl, hB _⟩
  · have e : (decide (i = 0) || ofCh o i) = ofCh o i := by simp [h0]
    rw [e]
    clear e
    have h1 : (i == 0) = false := beq_false_of_ne h0
    have h2 : decide (i = 0) = false := decide_eq_false h0
    clear h0
    have hq : ∀ W : World, W.heap = w.heap → (binOp .eql 41 (.pointer y) (.pointer (some ⟨g, o, none⟩))).run Try.prog W = .ok (.bool (ofCh o i)) W := fun W hW => by
      have hkW : W.heap[g]? = some (.cells cs 23 (0, 0)) := by rw [hW]; exact hk
      rw [← HY.out]
      obtain ⟨j, hj, _, hz, _⟩ := info_parts (show (Try.prog.info? 3).map (fun i => (i.zero, i.size, i.bytes)) = some (some (.int .i64 0), 1, 8) by kernel_rfl)
      rcases ho with rfl | rfl <;> rcases hy3 with rfl | rfl | rfl
      · simpa using run_eql_nil_ptr W Try.underlying41 _
      · simpa using run_eql_ptr_same W ⟨g, 7, none⟩ Try.underlying41 hj
      · simpa using run_eql_ptr_other W Try.underlying41 hj (by rw [hz]; decide) (a := ⟨g, 8, none⟩) (b := ⟨g, 7, none⟩) (by simp) hkW hkW
      · simpa using run_eql_nil_ptr W Try.underlying41 _
      · simpa using run_eql_ptr_other W Try.underlying41 hj (by rw [hz]; decide) (a := ⟨g, 7, none⟩) (b := ⟨g, 8, none⟩) (by simp) hkW hkW
      · simpa using run_eql_ptr_same W ⟨g, 8, none⟩ Try.underlying41 hj
    have hq1 := hq w rfl
    have hq2 : ∀ n, (binOp .eql 41 (.pointer y) (.pointer (some ⟨g, o, none⟩))).run Try.prog (w.drewN n) = .ok (.bool (ofCh o i)) (w.drewN n) := fun n => hq _ rfl
    clear hq hy3 hk
    go_enter Try.func25, Try.ntmps25
    go_wp2_with fail
    go_quiet (fail)
    go_wp2_with fail
    go_ret
    exact ⟨rfl, hB _⟩
theorem own_below {w w' : World} {K : TypeId} {b n : Nat} {D : DataW Value} (h : w.ownsMap Try.prog K hel b n D) (hb : Below w.heap.size w w') : w'.ownsMap Try.prog K hel b n D := by
  have hlt := h.lt
  obtain ⟨es, clock, h1, h2⟩ := h
  exact ⟨es, clock, (hb.block b hlt).trans h1, h2⟩
theorem may_split (m : Mo) : mayM m = ((decide (m.mouse = 0) || ofCh 7 m.mouse) && ((decide (m.coding = 0) || ofCh 8 m.coding) && (decide (0 ≤ m.other) && decide (m.other ≤ 2)))) := by
  unfold mayM ofCh
  simp
set_option maxRecDepth 100000 in
set_option maxHeartbeats 8000000 in
theorem pmay_any (m : Mo) (w : World) (hm : okM m) : Calls Try.prog 14 #[moV m] w (ValE (.bool (mayM m)) w) := by
  obtain ⟨q1, h1⟩ : ∃ q, (decide (m.mouse = 0) || ofCh 7 m.mouse) = q := ⟨_, rfl⟩
  obtain ⟨q2, h2⟩ : ∃ q, (decide (m.coding = 0) || ofCh 8 m.coding) = q := ⟨_, rfl⟩
  have HM := Lib.hid (show mayM m = (q1 && (q2 && (decide (0 ≤ m.other) && decide (m.other ≤ 2)))) by rw [may_split, h1, h2])
  have HO := Lib.hid hm
  have H1 := Lib.hid h1
  have H2 := Lib.hid h2
  clear hm h1 h2
  have k0 := Blk.new w 23 (moC m)
  have hb0 : Below w.heap.size w (w.alloc (.cells (moC m) 23)) := (Below.refl _ w).alloc (Nat.le_refl _) _
  rw [moV]
  go_enter Try.func14, Try.ntmps14
  go_wp2_with fail
  refine (fields_yes w.heap.size _).mono ?_
  rintro e w1 ⟨b, n, rfl, hbs, hown, hb1⟩
  have k1 := k0.below hb1 k0.lt
  have hbb1 := below_step hb0 hb1 hb0.size
  clear hb0 hb1 k0
  go_wp2_with fail
  have k2 := k1.alloc (.cells #[.map (some b)] 45)
  have c2 := Blk.new w1 45 #[.map (some b)]
  have o2 := hown.alloc (.cells #[.map (some b)] 45)
  have hbb2 := hbb1.alloc hbb1.size (.cells #[.map (some b)] 45)
  clear k1 hown hbb1
  have m1 := may1_any (o := 7) k2 (.inl rfl) HO.out.1 (k2.cell 7) (c2.cell 0) o2
  rw [H1.out] at m1
  refine m1.mono ?_
  clear m1
  rintro e w3 ⟨rfl, hb3⟩
  have k3 := k2.below hb3 k2.lt
  have c3 := c2.below hb3 c2.lt
  have o3 := own_below o2 hb3
  have hbb3 := below_step hbb2 hb3 hbb2.size
  clear k2 c2 o2 hbb2 hb3
  cases q1 with
  | false =>
    go_wp2_with fail
    go_ret
    exact ⟨ret_b (by rw [HM.out]; rfl), hbb3⟩
  | true =>
    go_wp2_with fail
    have m1 := may1_any (o := 8) k3 (.inr rfl) HO.out.2 (k3.cell 8) (c3.cell 0) o3
    rw [H2.out] at m1
    refine m1.mono ?_
    clear m1
    rintro e w4 ⟨rfl, hb4⟩
    have k4 := k3.below hb4 k3.lt
    have hbb4 := below_step hbb3 hb4 hbb3.size
    clear k3 c3 o3 hbb3 hb4
    obtain ⟨c0, c1, c2, c3, c4, c5, c6, c7, c8, c9⟩ := Blk.cells10 k4
    cases q2 with
    | false =>
      go_wp2_with fail
      go_ret
      exact ⟨ret_b (by rw [HM.out]; rfl), hbb4⟩
    | true =>
      go_wp2_with fail
      all_goals
        go_ret
        refine ⟨ret_b ?_, hbb4⟩
        rw [HM.out]
        first | (simp [*]; done) | (simp [*]; omega)
end Go.Proofs.Ytdjglfgdmakjgaa
