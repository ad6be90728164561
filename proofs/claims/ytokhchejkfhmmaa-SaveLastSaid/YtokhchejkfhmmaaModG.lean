/-
  Layer 6: looking into the landed map of fields; fixed, isSet, walked.
-/
import Derived.Test.YtokhchejkfhmmaaModF
import Derived.Test.YtokhchejkfhmmaaModB
namespace Go.Proofs.Ytokhchejkfhmmaa
open Go.RowKit Go.Maps

theorem kint : Keyed Try.prog 3 := int_keyed Try.underlying3
theorem wfI {n : Int} (h : inI n) : (Lit.int .i64 n).wf = true := WalkArith.wf_i64 (by have := h.1; have := h.2; omega)
theorem keyI {n : Int} (h : inI n) : keyOf Try.prog 3 (.int .i64 n) = some (.int .i64 n) := keyOf_int_mk Try.underlying3 (wfI h)
def nilF : Value := .agg #[.pointer none, .pointer none]
theorem zeroF (w : World) : (zeroValue 53).run Try.prog w = .ok nilF w := by kernel_rfl
theorem look_at {w : World} {b k : Nat} {D : DataW Value} {n : Int} {v : Value} {q : Bool} (h : w.ownsMap Try.prog 3 hel b k D) (hn : inI n) (ha : D.atKey (.int .i64 n) (.held nilF) = .held v) (hq : Maps.has D (.int .i64 n) = q) :
    (Instr.lookup 55 (.map (some b)) (.int .i64 n) true).run Try.prog w = .ok (.tuple #[v, .bool q]) w ∧ (Instr.lookup 55 (.map (some b)) (.int .i64 n) false).run Try.prog w = .ok v w := by
  obtain ⟨v1, p1, h1, e1⟩ := h.look_ok kint Try.underlying55 (zeroF w) (show hel nilF = some (.held nilF, []) from rfl) (keyI hn)
  obtain ⟨v2, p2, h2, e2⟩ := h.lookup kint Try.underlying55 (zeroF w) (show hel nilF = some (.held nilF, []) from rfl) (keyI hn)
  rw [ha] at e1 e2
  have e1' : v1 = v := by simpa [hel] using congrArg (Option.map Prod.fst) e1
  have e2' : v2 = v := by simpa [hel] using congrArg (Option.map Prod.fst) e2
  rw [e1', hq] at h1
  rw [e2'] at h2
  exact ⟨h1, h2⟩
theorem field_no {p : Bool} {n : Int} (g : Nat) (h : canM p n = false) : (DataW.map (fieldL p g)).atKey (.int .i64 n) (.held nilF) = .held nilF ∧ Maps.has (DataW.map (fieldL p g)) (.int .i64 n) = false := by
  have key : ∀ q ∈ fieldL p g, q.1 ≠ Lit.int .i64 n := by
    cases p with
    | false =>
      have hx : ¬ (n = 2 ∨ n = 20) := by simpa [canM] using h
      intro q hq
      simp only [fieldL, Bool.false_eq_true, if_false, List.mem_cons, List.not_mem_nil, or_false] at hq
      rcases hq with rfl | rfl <;> (intro e; simp at e; omega)
    | true =>
      have hx : ¬ ((n = 1 ∨ n = 66 ∨ n = 67 ∨ n = 1004 ∨ n = 2004) ∨ (n = 9 ∨ n = 1000 ∨ n = 1002 ∨ n = 1003) ∨ (n = 1005 ∨ n = 1006 ∨ n = 1015)) := by
        intro hh
        have : canM true n = true := by simpa [canM, mouseN, codingN] using hh
        rw [this] at h
        cases h
      intro q hq
      simp only [fieldL, if_true, List.mem_cons, List.not_mem_nil, or_false] at hq
      rcases hq with rfl | rfl | rfl | rfl | rfl | rfl | rfl | rfl | rfl | rfl | rfl | rfl <;> (intro e; simp at e; omega)
  exact ⟨WideAt.atKey_none _ key, has_false_of_atKey fun z => WideAt.atKey_none z key⟩
def fixedL (p : Bool) : List (Lit × DataW Value) :=
  if p = true then [(.int .i64 7, .held (.int .i64 3)), (.int .i64 25, .held (.int .i64 3))] else [(.int .i64 4, .held (.int .i64 4)), (.int .i64 12, .held (.int .i64 4))]
def FixedE (p : Bool) (w : World) (e : Ending) (w' : World) : Prop := ∃ b n, e = .returned (.map (some b)) ∧ w'.ownsMap Try.prog 3 hel b n (.map (fixedL p)) ∧ Below w.heap.size w w'
set_option maxRecDepth 100000 in
theorem fixed_of (p : Bool) (w : World) : Calls Try.prog 24 #[.bool p] w (FixedE p w) := by
  have i7 : inI 7 := ⟨by decide, by decide⟩
  have i25 : inI 25 := ⟨by decide, by decide⟩
  have i4 : inI 4 := ⟨by decide, by decide⟩
  have i12 : inI 12 := ⟨by decide, by decide⟩
  have hB : Below w.heap.size w (w.alloc (.map #[] 0)) := (Below.refl _ w).alloc (Nat.le_refl _) _
  have hmm := @run_makeMap Try.prog
  have o0 := World.ownsMap_made w Try.prog 3 hel
  cases p with
  | true =>
    obtain ⟨w1, r1, o1, t1⟩ := o0.store kint Try.underlying59 (by decide) (keyI i7) (show hel (.int .i64 3) = some (.held (.int .i64 3), []) from rfl)
    obtain ⟨w2, r2, o2, t2⟩ := o1.store kint Try.underlying59 (by decide) (keyI i25) (show hel (.int .i64 3) = some (.held (.int .i64 3), []) from rfl)
    have hb2 := below_but (below_but hB t1.grown hB.size (Nat.le_refl _)) t2.grown (Nat.le_trans hB.size t1.grown.size) (Nat.le_refl _)
    clear o0 o1 t1 t2 hB i7 i25 i4 i12
    have O2 := Lib.hid o2
    clear o2
    go_enter Try.func24, Try.ntmps24
    go_wp2_with fail
    go_ret
    exact ⟨_, _, rfl, O2.out, hb2⟩
  | false =>
    obtain ⟨w1, r1, o1, t1⟩ := o0.store kint Try.underlying59 (by decide) (keyI i4) (show hel (.int .i64 4) = some (.held (.int .i64 4), []) from rfl)
    obtain ⟨w2, r2, o2, t2⟩ := o1.store kint Try.underlying59 (by decide) (keyI i12) (show hel (.int .i64 4) = some (.held (.int .i64 4), []) from rfl)
    have hb2 := below_but (below_but hB t1.grown hB.size (Nat.le_refl _)) t2.grown (Nat.le_trans hB.size t1.grown.size) (Nat.le_refl _)
    clear o0 o1 t1 t2 hB i7 i25 i4 i12
    have O2 := Lib.hid o2
    clear o2
    go_enter Try.func24, Try.ntmps24
    go_wp2_with fail
    go_ret
    exact ⟨_, _, rfl, O2.out, hb2⟩
theorem fixed_at {w : World} {b k : Nat} {p : Bool} {n : Int} (h : w.ownsMap Try.prog 3 hel b k (.map (fixedL p))) (hn : inI n) :
    (Instr.lookup 59 (.map (some b)) (.int .i64 n) false).run Try.prog w = .ok (.int .i64 (fixedM p n)) w := by
  obtain ⟨v2, p2, h2, e2⟩ := h.lookup kint Try.underlying59 (show (zeroValue 3).run Try.prog w = .ok (.int .i64 0) w by kernel_rfl) (show hel (.int .i64 0) = some (.held (.int .i64 0), []) from rfl) (keyI hn)
  have ha : (DataW.map (fixedL p)).atKey (.int .i64 n) (.held (.int .i64 0)) = .held (.int .i64 (fixedM p n)) := by
    cases p with
    | true =>
      by_cases h7 : n = 7
      · subst h7; kernel_rfl
      by_cases h25 : n = 25
      · subst h25; kernel_rfl
      rw [show fixedM true n = 0 by simp [fixedM, h7, h25]]
      refine WideAt.atKey_none _ fun q hq => ?_
      simp only [fixedL, if_true, List.mem_cons, List.not_mem_nil, or_false] at hq
      rcases hq with rfl | rfl <;> (intro e; simp at e; omega)
    | false =>
      by_cases h7 : n = 4
      · subst h7; kernel_rfl
      by_cases h25 : n = 12
      · subst h25; kernel_rfl
      rw [show fixedM false n = 0 by simp [fixedM, h7, h25]]
      refine WideAt.atKey_none _ fun q hq => ?_
      simp only [fixedL, Bool.false_eq_true, if_false, List.mem_cons, List.not_mem_nil, or_false] at hq
      rcases hq with rfl | rfl <;> (intro e; simp at e; omega)
  rw [ha] at e2
  have e2' : v2 = .int .i64 (fixedM p n) := by simpa [hel] using congrArg (Option.map Prod.fst) e2
  rw [← e2']
  exact h2
set_option maxRecDepth 100000 in
theorem isSet_fl {g o : Nat} {q : Bool} (n : Int) {w : World} (hc : w.cell? ⟨g, o, none⟩ = some (.bool q)) : Calls Try.prog 23 #[flV g o, .int .i64 n] w (ValE (.bool q) w) := by
  have hlt : g < w.heap.size := World.block_lt_of_cell? w ⟨g, o, none⟩ hc
  have hb : Below w.heap.size w (w.alloc (.cells #[.pointer (some ⟨g, o, none⟩), .pointer none] 53)) := (Below.refl _ w).alloc (Nat.le_refl _) _
  have hc2 := (hb.cell (p := ⟨g, o, none⟩) hlt).trans hc
  have HB := Lib.hid hb
  clear hb hc
  rw [flV]
  go_enter Try.func23, Try.ntmps23
  go_wp2_with fail
  go_ret
  exact ⟨rfl, HB.out⟩
set_option maxRecDepth 100000 in
theorem isSet_ch {g o : Nat} {i : Int} (n : Int) {w : World} (hc : w.cell? ⟨g, o, none⟩ = some (.int .i64 i)) : Calls Try.prog 23 #[chV g o, .int .i64 n] w (ValE (.bool (decide (i = n))) w) := by
  have hlt : g < w.heap.size := World.block_lt_of_cell? w ⟨g, o, none⟩ hc
  have hb : Below w.heap.size w (w.alloc (.cells #[.pointer none, .pointer (some ⟨g, o, none⟩)] 53)) := (Below.refl _ w).alloc (Nat.le_refl _) _
  have hc2 := (hb.cell (p := ⟨g, o, none⟩) hlt).trans hc
  have HB := Lib.hid hb
  clear hb hc
  rw [chV]
  go_enter Try.func23, Try.ntmps23
  go_wp2_with fail
  go_ret
  exact ⟨ret_b (by first | rfl | simp), HB.out⟩
end Go.Proofs.Ytokhchejkfhmmaa
