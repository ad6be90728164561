/-
  Stage 19, the landed report, walked: fact, facts, setting. Layer 6: looking into the landed map of fields; fixed, isSet, walked.
-/
import Derived.Test.YtfifeofmfpjgfaaDoorG17
import Derived.Test.YtfifeofmfpjgfaaDoorG19
import Derived.Test.YtfifeofmfpjgfaaDoorG23
import Derived.Test.YtfifeofmfpjgfaaDoorG25
namespace Go.Proofs.YtfifeofmfpjgfaaDoor
open Go.RowKit
theorem pfact_any (n f : Int) (hf : factR n = f) (w : World) : Calls Tryd.prog 29 #[.int .i64 n] w fun e w' => e = .returned (.int .i64 f) ∧ Below w.heap.size w w' := by
 obtain ⟨N, hN⟩ : ∃ N, max n 0 = N := ⟨_, rfl⟩
 have hmax := max_run n N hN (P := Tryd.prog)
 have hmin := min_run N f (by rw [← hN, ← hf]; rfl) (P := Tryd.prog)
 clear hf hN
 go_enter Tryd.func29, Tryd.ntmps29
 go_wp2_with fail
 go_ret
 exact ⟨rfl, Below.refl _ _⟩
def factsL (l : List Int) : List UInt8 := Lib.join (l.map fun n => textL (factR n)) [59]
set_option maxRecDepth 100000 in
set_option maxHeartbeats 16000000 in
theorem pfacts_any (A : Option Addr) (l : List Int) (n c : Nat) (T : List UInt8) (hn : l.length = n) (hT : factsL l = T) (hln : n ≤ 1000) (hlT : T.length ≤ 140737488355328) (w : World) (ht : Tab w) (hr : Rd w A (is_ l)) :
 Calls Tryd.prog 47 #[.slice A n c] w fun e w' => e = .returned (.string ⟨T.toArray⟩) ∧ Below w.heap.size w w' := by
 obtain ⟨i0, hi, hz0, hz1, hz2⟩ : ∃ i, Tryd.prog.info? 9 = some i ∧ i.zero = some (.string ⟨#[]⟩) ∧ i.size = 1 ∧ i.bytes = 16 := ⟨_, rfl, rfl, rfl, rfl⟩
 have HN := Lib.hid hn
 have HLT := Lib.hid hlT
 have HJ := Lib.hid (show Lib.join (l.map fun n => textL (factR n)) [59] = T from hT)
 clear hlT hn hT
 go_enter Tryd.func47, Tryd.ntmps47
 go_wp2_with (at_make; refine wpList_make_full _ rfl _ _ 89 rfl w.heap.size 9 i0 _ 1 Tryd.underlying89 hi hz0 hz1 _ _ _ _ n rfl rfl ?d0 ?d1 ?d2 ?d3 ?d4 ?_)
 case d0 => rfl
 case d1 => rfl
 case d2 => rw [hz2]; omega
 case d3 => simp only [maxLen]; omega
 case d4 => exact Nat.le_refl _
 intro w1 hown1 hg1
 have hb1 : Below w.heap.size w w1 := (Below.refl _ _).grown hg1 (Nat.le_refl _) (by simp)
 have ho1 := Own.of hown1
 clear hg1 hown1
 obtain ⟨g, hg⟩ : ∃ g, w.heap.size = g := ⟨_, rfl⟩
 rw [hg] at ho1 ⊢
 have HG := Lib.hid hg
 go_wp2_with fail
 go_loopw [11] (fun z wr => ∃ (j : Nat) (ys : List Value), j ≤ n ∧ z = .int .i64 j ∧ Own wr g 9 1 (.slice (some ⟨g, 0, none⟩) n n) n ys ∧ Hid (Fill j ys (l.map fun n => textL (factR n))) ∧ Below w.heap.size w wr) (fun z _ => n - (intOf z).toNat)
 case atStart => exact ⟨0, _, Nat.zero_le _, rfl, ho1, Lib.hid fun j hj => absurd hj (by omega), hb1⟩
 case round =>
  obtain ⟨j, ys, hj', rfl, hoy, hfy, hbv⟩ := hrel
  clear ho1 hb1
  by_cases hlj : j < n
  ·have v1 : (j : Int) < (n : Int) := by omega
   have v0 : (0 : Int) ≤ (j : Int) := by omega
   have v2 : IntKind.i64.wrap ((j : Int) + 1) = (j : Int) + 1 := by rw [IntKind.wrap_i64]; omega
   have hjj : j < l.length := by have := HN.out; omega
   obtain ⟨b', o', hA', hbb', hcc'⟩ := (hr.below hbv).int_at (by omega)
   subst hA'
   have hcj := hcc' j hjj
   have HST : Hid ((l.map fun n => textL (factR n))[j]'(by rw [List.length_map]; exact hjj) = textL (factR l[j])) := Lib.hid (by rw [List.getElem_map])
   obtain ⟨x, hx⟩ : ∃ x, l[j] = x := ⟨_, rfl⟩
   rw [hx] at hcj HST
   have hfr := fact_rng x
   obtain ⟨f, hf⟩ : ∃ f, factR x = f := ⟨_, rfl⟩
   rw [hf] at HST hfr
   have HF := Lib.hid hf
   have HR := Lib.hid hfr
   clear hcc' hx hf hfr
   go_wp2_with fail
   refine (pfact_any x f HF.out _).mono ?_
   rintro e w3 ⟨rfl, hb3⟩
   have hbv3 := hbv.trans (hb3.mono hbv.size)
   have ho3 := hoy.behind hb3
   clear hb3 hbv hoy hcj
   go_wp2_with fail
   refine (text_any f _ (by have := HR.out; omega) (by have := HR.out; omega) (ht.below hbv3)).mono ?_
   rintro e w4 ⟨rfl, hb4⟩
   have ho4 := ho3.behind hb4
   have hbv4 := hbv3.trans (hb4.mono hbv3.size)
   have hyl : j < ys.length := by have := ho3.1; omega
   have hce := ho4.cellAt j hyl
   have hfe := ho4.frozenAt j hyl
   clear ho3 hbv3 hb4
   go_wp2_with fail
   go_roundw
   case rel => exact ⟨j + 1, _, by omega, by go_num, ho4.stored j _, Lib.hid (hfy.out.step (by rw [List.length_map]; exact hjj) hyl HST.out), hbv4.setCell (p := ⟨g, j, none⟩) (Nat.le_of_eq HG.out) _⟩
   case measure => simp [intOf]; omega
  ·have v1 : ¬ ((j : Int) < (n : Int)) := by omega
   obtain rfl : n = j := by omega
   have hyx : ys = ss_ (l.map fun n => textL (factR n)) := Fill.all (by rw [List.length_map, HN.out]; exact hfy.out) (by have := hoy.1; rw [List.length_map, HN.out]; omega)
   rw [hyx] at hoy
   clear hyx hfy
   have hrs := hoy.rd
   have HLm := Lib.hid (show (l.map fun n => textL (factR n)).length = n by rw [List.length_map]; exact HN.out)
   clear hoy
   go_wp2_with fail
   refine (sjoin_any _ n _ (l.map fun n => textL (factR n)) [59] T _ HLm.out HJ.out (by omega) (Nat.le_refl _) HLT.out hrs).mono ?_
   rintro e w5 ⟨rfl, hb5⟩
   have hB5 := hbv.trans (hb5.mono hbv.size)
   go_wp2_with fail
   go_ret
   exact ⟨rfl, hB5⟩
end Go.Proofs.YtfifeofmfpjgfaaDoor
namespace Go.Proofs.YtfifeofmfpjgfaaDoor
open Go.RowKit Go.Maps
theorem kint : Keyed Tryd.prog 3 := int_keyed Tryd.underlying3
theorem wfI {n : Int} (h : inI n) : (Lit.int .i64 n).wf = true := WalkArith.wf_i64 (by have := h.1; have := h.2; omega)
theorem keyI {n : Int} (h : inI n) : keyOf Tryd.prog 3 (.int .i64 n) = some (.int .i64 n) := keyOf_int_mk Tryd.underlying3 (wfI h)
def nilF : Value := .agg #[.pointer none, .pointer none]
theorem zeroF (w : World) : (zeroValue 79).run Tryd.prog w = .ok nilF w := by kernel_rfl
theorem look_at {w : World} {b k : Nat} {D : DataW Value} {n : Int} {v : Value} {q : Bool} (h : w.ownsMap Tryd.prog 3 hel b k D) (hn : inI n) (ha : D.atKey (.int .i64 n) (.held nilF) = .held v) (hq : Maps.has D (.int .i64 n) = q) :
 (Instr.lookup 81 (.map (some b)) (.int .i64 n) true).run Tryd.prog w = .ok (.tuple #[v, .bool q]) w ∧ (Instr.lookup 81 (.map (some b)) (.int .i64 n) false).run Tryd.prog w = .ok v w := by
 obtain ⟨v1, p1, h1, e1⟩ := h.look_ok kint Tryd.underlying81 (zeroF w) (show hel nilF = some (.held nilF, []) from rfl) (keyI hn)
 obtain ⟨v2, p2, h2, e2⟩ := h.lookup kint Tryd.underlying81 (zeroF w) (show hel nilF = some (.held nilF, []) from rfl) (keyI hn)
 rw [ha] at e1 e2
 have e1' : v1 = v := by simpa [hel] using congrArg (Option.map Prod.fst) e1
 have e2' : v2 = v := by simpa [hel] using congrArg (Option.map Prod.fst) e2
 rw [e1', hq] at h1
 rw [e2'] at h2
 exact ⟨h1, h2⟩
theorem field_no {p : Bool} {n : Int} (g : Nat) (h : canM p n = false) : (DataW.map (fieldL p g)).atKey (.int .i64 n) (.held nilF) = .held nilF ∧ Maps.has (DataW.map (fieldL p g)) (.int .i64 n) = false := by
 have key : ∀ q ∈ fieldL p g, q.1 ≠ Lit.int .i64 n := by
  cases p with
  | false =>
    have hx : ¬ (n = 2 ∨ n = 20) := by simpa [canM] using h
    intro q hq
    simp only [fieldL, Bool.false_eq_true, if_false, List.mem_cons, List.not_mem_nil, or_false] at hq
    rcases hq with rfl | rfl <;> (intro e; simp at e; omega)
  | true =>
    have hx : ¬ ((n = 1 ∨ n = 66 ∨ n = 67 ∨ n = 1004 ∨ n = 2004) ∨ (n = 9 ∨ n = 1000 ∨ n = 1002 ∨ n = 1003) ∨ (n = 1005 ∨ n = 1006 ∨ n = 1015)) := by
     intro hh
     have : canM true n = true := by simpa [canM, mouseN, codingN] using hh
     rw [this] at h
     cases h
    intro q hq
    simp only [fieldL, if_true, List.mem_cons, List.not_mem_nil, or_false] at hq
    rcases hq with rfl | rfl | rfl | rfl | rfl | rfl | rfl | rfl | rfl | rfl | rfl | rfl <;> (intro e; simp at e; omega)
 exact ⟨WideAt.atKey_none _ key, has_false_of_atKey fun z => WideAt.atKey_none z key⟩
def fixedL (p : Bool) : List (Lit × DataW Value) :=
 if p = true then [(.int .i64 7, .held (.int .i64 3)), (.int .i64 25, .held (.int .i64 3))] else [(.int .i64 4, .held (.int .i64 4)), (.int .i64 12, .held (.int .i64 4))]
def FixedE (p : Bool) (w : World) (e : Ending) (w' : World) : Prop := ∃ b n, e = .returned (.map (some b)) ∧ w'.ownsMap Tryd.prog 3 hel b n (.map (fixedL p)) ∧ Below w.heap.size w w'
set_option maxRecDepth 100000 in
theorem fixed_of (p : Bool) (w : World) : Calls Tryd.prog 60 #[.bool p] w (FixedE p w) := by
 have i7 : inI 7 := ⟨by decide, by decide⟩
 have i25 : inI 25 := ⟨by decide, by decide⟩
 have i4 : inI 4 := ⟨by decide, by decide⟩
 have i12 : inI 12 := ⟨by decide, by decide⟩
 have hB : Below w.heap.size w (w.alloc (.map #[] 0)) := (Below.refl _ w).alloc (Nat.le_refl _) _
 have hmm := @run_makeMap Tryd.prog
 have o0 := World.ownsMap_made w Tryd.prog 3 hel
 cases p with
 | true =>
   obtain ⟨w1, r1, o1, t1⟩ := o0.store kint Tryd.underlying84 (by decide) (keyI i7) (show hel (.int .i64 3) = some (.held (.int .i64 3), []) from rfl)
   obtain ⟨w2, r2, o2, t2⟩ := o1.store kint Tryd.underlying84 (by decide) (keyI i25) (show hel (.int .i64 3) = some (.held (.int .i64 3), []) from rfl)
   have hb2 := below_but (below_but hB t1.grown hB.size (Nat.le_refl _)) t2.grown (Nat.le_trans hB.size t1.grown.size) (Nat.le_refl _)
   clear o0 o1 t1 t2 hB i7 i25 i4 i12
   have O2 := Lib.hid o2
   clear o2
   go_enter Tryd.func60, Tryd.ntmps60
   go_wp2_with fail
   go_ret
   exact ⟨_, _, rfl, O2.out, hb2⟩
 | false =>
   obtain ⟨w1, r1, o1, t1⟩ := o0.store kint Tryd.underlying84 (by decide) (keyI i4) (show hel (.int .i64 4) = some (.held (.int .i64 4), []) from rfl)
   obtain ⟨w2, r2, o2, t2⟩ := o1.store kint Tryd.underlying84 (by decide) (keyI i12) (show hel (.int .i64 4) = some (.held (.int .i64 4), []) from rfl)
   have hb2 := below_but (below_but hB t1.grown hB.size (Nat.le_refl _)) t2.grown (Nat.le_trans hB.size t1.grown.size) (Nat.le_refl _)
   clear o0 o1 t1 t2 hB i7 i25 i4 i12
   have O2 := Lib.hid o2
   clear o2
   go_enter Tryd.func60, Tryd.ntmps60
   go_wp2_with fail
   go_ret
   exact ⟨_, _, rfl, O2.out, hb2⟩
theorem fixed_at {w : World} {b k : Nat} {p : Bool} {n : Int} (h : w.ownsMap Tryd.prog 3 hel b k (.map (fixedL p))) (hn : inI n) :
 (Instr.lookup 84 (.map (some b)) (.int .i64 n) false).run Tryd.prog w = .ok (.int .i64 (fixedM p n)) w := by
 obtain ⟨v2, p2, h2, e2⟩ := h.lookup kint Tryd.underlying84 (show (zeroValue 3).run Tryd.prog w = .ok (.int .i64 0) w by kernel_rfl) (show hel (.int .i64 0) = some (.held (.int .i64 0), []) from rfl) (keyI hn)
 have ha : (DataW.map (fixedL p)).atKey (.int .i64 n) (.held (.int .i64 0)) = .held (.int .i64 (fixedM p n)) := by
  cases p with
  | true =>
    by_cases h7 : n = 7
    ·subst h7; kernel_rfl
    by_cases h25 : n = 25
    ·subst h25; kernel_rfl
    rw [show fixedM true n = 0 by simp [fixedM, h7, h25]]
    refine WideAt.atKey_none _ fun q hq => ?_
    simp only [fixedL, if_true, List.mem_cons, List.not_mem_nil, or_false] at hq
    rcases hq with rfl | rfl <;> (intro e; simp at e; omega)
  | false =>
    by_cases h7 : n = 4
    ·subst h7; kernel_rfl
    by_cases h25 : n = 12
    ·subst h25; kernel_rfl
    rw [show fixedM false n = 0 by simp [fixedM, h7, h25]]
    refine WideAt.atKey_none _ fun q hq => ?_
    simp only [fixedL, Bool.false_eq_true, if_false, List.mem_cons, List.not_mem_nil, or_false] at hq
    rcases hq with rfl | rfl <;> (intro e; simp at e; omega)
 rw [ha] at e2
 have e2' : v2 = .int .i64 (fixedM p n) := by simpa [hel] using congrArg (Option.map Prod.fst) e2
 rw [← e2']
 exact h2
set_option maxRecDepth 100000 in
theorem isSet_fl {g o : Nat} {q : Bool} (n : Int) {w : World} (hc : w.cell? ⟨g, o, none⟩ = some (.bool q)) : Calls Tryd.prog 61 #[flV g o, .int .i64 n] w (ValE (.bool q) w) := by
 have hlt : g < w.heap.size := World.block_lt_of_cell? w ⟨g, o, none⟩ hc
 have hb : Below w.heap.size w (w.alloc (.cells #[.pointer (some ⟨g, o, none⟩), .pointer none] 79)) := (Below.refl _ w).alloc (Nat.le_refl _) _
 have hc2 := (hb.cell (p := ⟨g, o, none⟩) hlt).trans hc
 have HB := Lib.hid hb
 clear hb hc
 rw [flV]
 go_enter Tryd.func61, Tryd.ntmps61
 go_wp2_with fail
 go_ret
 exact ⟨rfl, HB.out⟩
set_option maxRecDepth 100000 in
theorem isSet_ch {g o : Nat} {i : Int} (n : Int) {w : World} (hc : w.cell? ⟨g, o, none⟩ = some (.int .i64 i)) : Calls Tryd.prog 61 #[chV g o, .int .i64 n] w (ValE (.bool (decide (i = n))) w) := by
 have hlt : g < w.heap.size := World.block_lt_of_cell? w ⟨g, o, none⟩ hc
 have hb : Below w.heap.size w (w.alloc (.cells #[.pointer none, .pointer (some ⟨g, o, none⟩)] 79)) := (Below.refl _ w).alloc (Nat.le_refl _) _
 have hc2 := (hb.cell (p := ⟨g, o, none⟩) hlt).trans hc
 have HB := Lib.hid hb
 clear hb hc
 rw [chV]
 go_enter Tryd.func61, Tryd.ntmps61
 go_wp2_with fail
 go_ret
 exact ⟨ret_b (by first | rfl | simp), HB.out⟩
end Go.Proofs.YtfifeofmfpjgfaaDoor
