/-
  A region that draws its order, whose operations each yield one value in every world that meets S, and leave a world that meets S (loads, moves, tests, and calls whose answers hang on S alone): one look at each operation serves whatever order is picked.
-/
import Derived.Test.YtbdpjhlfaelgpaaBase
import Derived.Orders
import Derived.Laws.StructEq
import Derived.Test.YtbdpjhlfaelgpaaMid
namespace Go.Proofs.Ytbdpjhlfaelgpaa
open Go.RowKit

section
variable {P : Program} {ops : Array Oper} {Q : Exit → Act → World → Prop} {md : Region.Mode} {S : World → Prop}

/-- What an operation does in every world that meets S. -/
def Goes (P : Program) (S : World → Prop) (o : Oper) (a : Act) (v : Value) : Prop := ∀ w, S w →
  (∃ w', (execOp a.eval o).run P w = .ok (.value v) w' ∧ S w') ∨
  (∃ f args w1, (execOp a.eval o).run P w = .ok (.enter f args) w1 ∧ Calls P f args w1 fun e w' => e = .returned v ∧ S w')
/-- All operations, seen from the frame in which all have come up. -/
def GoesAll (P : Program) (S : World → Prop) (ops : Array Oper) (aF : Act) : Prop :=
  ∀ (i : Nat) (o : Oper), ops[i]? = some o → ∃ v, (∀ d, o.dst = some d → aF.tmps[d]? = some v) ∧ (if Region.wanted o (yielded ops aF.tmps) = true then Goes P S o aF v else v = undef)
/-- What an operation looks at is written, if at all, by those that it waits for; edges go back. -/
def regCheck (md : Region.Mode) (ops : Array Oper) : Bool :=
  (List.range ops.size).all fun i =>
    match ops[i]? with
    | none => true
    | some o => (o.looksAt ops).all (fun t => (List.range ops.size).all fun j => ((ops[j]?).map fun oj => oj.dst != some t || o.after.any fun e => Region.binds md e && e.on == j).getD true) &&
        o.after.all (fun e => !Region.binds md e || decide (e.on < i))
/-- The frame agrees with the last one in all slots whose writers have come up. -/
structure Near (ops : Array Oper) (aF : Act) (l : Array Bool) (a : Act) : Prop where
  defers : a.defers = aF.defers
  size : a.tmps.size = aF.tmps.size
  at_ : ∀ t, (∀ (j : Nat) (o : Oper), ops[j]? = some o → o.dst = some t → l.getD j false = true) → a.tmps[t]? = aF.tmps[t]?
theorem unl_set : ∀ (l : List Bool) (i : Nat), l[i]? = some false → (l.set i true).countP (fun b => !b) + 1 = l.countP (fun b => !b)
  | [], _, h => by simp at h
  | b :: l, 0, h => by
    simp at h
    subst h
    simp
  | b :: l, i + 1, h => by
    have := unl_set l i (by simpa using h)
    simp only [List.set_cons_succ, List.countP_cons]
    omega
theorem unl_none (l : List Bool) (h : l.countP (fun b => !b) = 0) : ∀ i, i < l.length → l[i]? = some true := fun i hi => by
  have := List.countP_eq_zero.1 h l[i] (List.getElem_mem hi)
  rw [List.getElem?_eq_getElem hi]
  simpa using this
theorem Near.eq {aF a : Act} {l : Array Bool} (h : Near ops aF l a) (hl : ∀ j, j < ops.size → l.getD j false = true) : a = aF := by
  obtain ⟨t, d⟩ := a
  obtain ⟨t', d'⟩ := aF
  have h1 := h.defers
  have h2 : t = t' := Array.ext_getElem? fun i => h.at_ i fun j o ho _ => hl j (Array.getElem?_eq_some_iff.1 ho).1
  simp only at h1
  rw [h1, h2]
theorem Near.put {aF a : Act} {l : Array Bool} (h : Near ops aF l a) {i : Nat} {o : Oper} (ho : ops[i]? = some o) {v : Value} (hv : ∀ d, o.dst = some d → aF.tmps[d]? = some v) : Near ops aF (l.setIfInBounds i true) (a.put o.dst v) := by
  cases hd : o.dst with
  | none =>
    refine ⟨h.defers, h.size, fun t ht => h.at_ t fun j oj hj hdj => ?_⟩
    have := ht j oj hj hdj
    by_cases hij : i = j
    · subst hij
      rw [ho] at hj
      obtain rfl := Option.some.inj hj
      rw [hd] at hdj
      cases hdj
    · rwa [getD_set_ne false hij] at this
  | some d =>
    have hF := hv d hd
    have hlt : d < a.tmps.size := by rw [h.size]; exact (Array.getElem?_eq_some_iff.1 hF).1
    refine ⟨h.defers, by simp [Act.put, h.size], fun t ht => ?_⟩
    show (a.tmps.setIfInBounds d v)[t]? = aF.tmps[t]?
    by_cases hdt : d = t
    · subst hdt
      rw [Array.getElem?_setIfInBounds_self_of_lt hlt, hF]
    · rw [Array.getElem?_setIfInBounds_ne hdt]
      refine h.at_ t fun j oj hj hdj => ?_
      have := ht j oj hj hdj
      by_cases hij : i = j
      · subst hij
        rw [ho] at hj
        obtain rfl := Option.some.inj hj
        rw [hd] at hdj
        exact absurd (Option.some.inj hdj) hdt
      · rwa [getD_set_ne false hij] at this
theorem Near.eval {aF a : Act} {l : Array Bool} (h : Near ops aF l a) (x : Operand) (hx : ∀ t, x = .tmp t → ∀ (j : Nat) (o : Oper), ops[j]? = some o → o.dst = some t → l.getD j false = true) : a.eval x = aF.eval x := by
  cases x with
  | tmp t =>
    have := h.at_ t (hx t rfl)
    show a.tmps.getD t undef = aF.tmps.getD t undef
    rw [Array.getD_eq_getD_getElem?, Array.getD_eq_getD_getElem?, this]
  | _ => rfl
theorem waits (hc : regCheck md ops = true) {i : Nat} {o : Oper} (ho : ops[i]? = some o) {l : Array Bool} (hr : ∀ e ∈ o.after, Region.binds md e = true → l.getD e.on false = true) {t : Tmp} (ht : t ∈ o.looksAt ops) : ∀ (j : Nat) (oj : Oper), ops[j]? = some oj → oj.dst = some t → l.getD j false = true := fun j oj hj hd => by
  have hi : i < ops.size := (Array.getElem?_eq_some_iff.1 ho).1
  have h1 := List.all_eq_true.1 hc i (List.mem_range.2 hi)
  simp only [ho, Bool.and_eq_true] at h1
  have h2 := List.all_eq_true.1 h1.1 t ht
  have hjs : j < ops.size := (Array.getElem?_eq_some_iff.1 hj).1
  have h3 := List.all_eq_true.1 h2 j (List.mem_range.2 hjs)
  simp only [hj, Option.map_some, Option.getD_some, hd, bne_self_eq_false, Bool.false_or] at h3
  obtain ⟨e, he, hb⟩ := Array.any_eq_true'.1 h3
  simp only [Bool.and_eq_true, beq_iff_eq] at hb
  rw [← hb.2]
  exact hr e he hb.1
theorem wpAny_goes (hc : regCheck md ops = true) (hs : Region.noSelect ops = true) {aF : Act} (hg : GoesAll P S ops aF) (hQ : ∀ w, S w → Q .normal aF w) :
    ∀ (fuel : Nat) (l : Array Bool) (a : Act) (w : World), l.size = ops.size → l.toList.countP (fun b => !b) ≤ fuel → Near ops aF l a → S w → wpAny P md ops Q fuel l a w := by
  have fin : ∀ (l : Array Bool) (a : Act) (w : World), l.size = ops.size → Region.ready md ops l = [] → Near ops aF l a → S w → Q .normal a w := fun l a w hsz hr hn hS => by
    have all : ∀ j, j < ops.size → l.getD j false = true := by
      intro j
      induction j using Nat.strongRecOn with
      | _ j ih =>
        intro hj
        have ho : ops[j]? = some ops[j] := Array.getElem?_eq_getElem hj
        cases hh : l.getD j false with
        | true => rfl
        | false =>
          exfalso
          have hm : j ∈ Region.ready md ops l := mem_ready.2 ⟨by
            rw [Array.getD_eq_getD_getElem?] at hh ⊢
            rw [Array.getElem?_eq_getElem (by omega)] at hh ⊢
            exact hh, ops[j], ho, fun e he hb => by
            have h1 := List.all_eq_true.1 hc j (List.mem_range.2 hj)
            simp only [ho, Bool.and_eq_true] at h1
            have h2 := Array.all_eq_true_iff_forall_mem.1 h1.2 e he
            simp only [hb, Bool.not_true, Bool.false_or, decide_eq_true_eq] at h2
            exact ih e.on h2 (by omega)⟩
          rw [hr] at hm
          cases hm
    rw [hn.eq all]
    exact hQ w hS
  intro fuel
  induction fuel with
  | zero =>
    intro l a w hsz hcnt hn hS
    have h0 := unl_none l.toList (by omega)
    have hr : Region.ready md ops l = [] := by
      rw [List.eq_nil_iff_forall_not_mem]
      intro j hj
      obtain ⟨h1, o, ho, _⟩ := mem_ready.1 hj
      have hlt : j < l.size := by rw [hsz]; exact (Array.getElem?_eq_some_iff.1 ho).1
      have h2 := h0 j (by simpa using hlt)
      rw [Array.getElem?_toList] at h2
      rw [Array.getD_eq_getD_getElem?, h2] at h1
      cases h1
    exact ⟨hr, fin l a w hsz hr hn hS⟩
  | succ fuel ih =>
    intro l a w hsz hcnt hn hS
    refine ⟨fun hr => fin l a w hsz hr hn hS, fun i hi => ?_⟩
    obtain ⟨h1, o, ho, hall⟩ := mem_ready.1 hi
    have hlt : i < l.size := by rw [hsz]; exact (Array.getElem?_eq_some_iff.1 ho).1
    have hli : l.toList[i]? = some false := by
      rw [Array.getElem?_toList, Array.getElem?_eq_getElem hlt]
      rw [Array.getD_eq_getD_getElem?, Array.getElem?_eq_getElem hlt] at h1
      exact congrArg some h1
    have hstep : ∀ (v : Value) (w' : World), (∀ d, o.dst = some d → aF.tmps[d]? = some v) → S w' → wpAny P md ops Q fuel (l.setIfInBounds i true) (a.put o.dst v) w' := fun v w' hv hS' =>
      ih _ _ w' (by simpa using hsz) (by
        have := unl_set l.toList i hli
        rw [Array.toList_setIfInBounds]
        omega) (hn.put ho hv) hS'
    obtain ⟨v, hv, hw⟩ := hg i o ho
    have he : execOp a.eval o = execOp aF.eval o := execOp_congr o (fun cs b => Region.noSelect_spec hs i o cs b ho) fun x hx => hn.eval x fun t ht => waits hc ho hall (by
      subst ht
      exact List.mem_append_left _ (List.mem_filterMap.2 ⟨.tmp t, by simpa using hx, rfl⟩))
    have hwt : Region.wanted o (yielded ops a.tmps) = Region.wanted o (yielded ops aF.tmps) := by
      unfold Region.wanted
      cases hgd : o.guard with
      | none => rfl
      | some gw =>
        obtain ⟨g, want⟩ := gw
        have hy : yielded ops a.tmps g = yielded ops aF.tmps g := by
          unfold yielded
          cases ht : (ops[g]?).bind (·.dst) with
          | none => rfl
          | some t =>
            have := hn.at_ t (waits hc ho hall (by simp [Oper.looksAt, hgd, ht]))
            show (match (some t).bind (a.tmps[·]?) with | some (.bool b) => some b | _ => none) = (match (some t).bind (aF.tmps[·]?) with | some (.bool b) => some b | _ => none)
            simp only [Option.bind_some, this]
        simp only [hy]
    unfold wpOp
    simp only [ho]
    rw [hwt]
    by_cases hq : Region.wanted o (yielded ops aF.tmps) = true
    · rw [if_pos hq] at hw ⊢
      refine .inl ?_
      unfold Oper.wp
      rw [he]
      rcases hw w hS with ⟨w', hrun, hS'⟩ | ⟨f, args, w1, hrun, hcall⟩
      · rw [hrun, Oper.upon_value]
        exact hstep v w' hv hS'
      · rw [hrun, Oper.upon_enter]
        refine hcall.mono ?_
        rintro e w' ⟨rfl, hS'⟩
        exact hstep v w' hv hS'
    · rw [if_neg hq] at hw ⊢
      rw [hw] at hv
      exact hstep undef w hv hS
/-- The region, whatever order is picked. -/
theorem wp_region_goes {id : Nat} {a : Act} {w : World} (hm : P.follows .mixedOrders = true) (hc : regCheck .any ops = true) (hs : Region.noSelect ops = true) (aF : Act) (hn : Near ops aF (Array.replicate ops.size false) a) (hS : S w.drew) (hg : GoesAll P S ops aF) (hQ : ∀ w, S w → Q .normal aF w) :
    (Code.region id ops true).wp P Q a w :=
  wp_region_any hm (wpAny_goes hc hs hg hQ ops.size _ a _ (by simp) (by
    refine Nat.le_trans List.countP_le_length ?_
    simp) hn hS)
/-- The frame in which all have come up. -/
def goF (a : Act) : List Oper → List Value → Act
  | o :: os, v :: vs => goF (a.put o.dst v) os vs
  | _, _ => a
theorem goF_near (a0 : Act) : ∀ (os : List Oper) (vs : List Value) (a : Act), a.defers = a0.defers → a.tmps.size = a0.tmps.size → (∀ t, (∀ o ∈ os, o.dst ≠ some t) → a.tmps[t]? = a0.tmps[t]? → (goF a os vs).tmps[t]? = a0.tmps[t]?) ∧ (goF a os vs).defers = a0.defers ∧ (goF a os vs).tmps.size = a0.tmps.size
  | [], _, a, h1, h2 => ⟨fun _ _ h => h, h1, h2⟩
  | _ :: _, [], a, h1, h2 => ⟨fun _ _ h => h, h1, h2⟩
  | o :: os, v :: vs, a, h1, h2 => by
    have hd : (a.put o.dst v).defers = a.defers := by cases o.dst <;> rfl
    have hz : (a.put o.dst v).tmps.size = a.tmps.size := by cases o.dst <;> simp [Act.put]
    obtain ⟨q1, q2, q3⟩ := goF_near a0 os vs (a.put o.dst v) (hd.trans h1) (hz.trans h2)
    refine ⟨fun t ht h => q1 t (fun o' ho' => ht o' (List.mem_cons_of_mem _ ho')) ?_, q2, q3⟩
    have hne := ht o (List.mem_cons_self ..)
    rw [← h]
    cases hdst : o.dst with
    | none => rfl
    | some d =>
      show (a.tmps.setIfInBounds d v)[t]? = _
      rw [Array.getElem?_setIfInBounds_ne (fun e => hne (by rw [hdst, e]))]
theorem near_goF (a : Act) (vs : List Value) : Near ops (goF a ops.toList vs) (Array.replicate ops.size false) a := by
  obtain ⟨q1, q2, q3⟩ := goF_near a ops.toList vs a rfl rfl
  refine ⟨q2.symm, q3.symm, fun t ht => (q1 t (fun o ho hd => ?_) rfl).symm⟩
  obtain ⟨i, hi, he⟩ := List.getElem_of_mem ho
  have := ht i o (by rw [← Array.getElem?_toList, List.getElem?_eq_getElem hi, he]) hd
  rw [Array.getD_eq_getD_getElem?, Array.getElem?_replicate] at this
  split at this <;> cases this
theorem near_of {a aF : Act} (vs : List Value) (h : goF a ops.toList vs = aF) : Near ops aF (Array.replicate ops.size false) a := by
  rw [← h]
  exact near_goF a vs
theorem goesAll_of {aF : Act} (h : ∀ o ∈ ops.toList, ∃ v, (∀ d, o.dst = some d → aF.tmps[d]? = some v) ∧ (if Region.wanted o (yielded ops aF.tmps) = true then Goes P S o aF v else v = undef)) : GoesAll P S ops aF := fun i o ho => h o (by
  rw [← Array.getElem?_toList] at ho
  exact List.mem_of_getElem? ho)
theorem goes_at {aF : Act} {o : Oper} {d : Tmp} (v : Value) (hd : o.dst = some d) (ht : aF.tmps[d]? = some v) (hw : Region.wanted o (yielded ops aF.tmps) = true) (hg : Goes P S o aF v) :
    ∃ v, (∀ d, o.dst = some d → aF.tmps[d]? = some v) ∧ (if Region.wanted o (yielded ops aF.tmps) = true then Goes P S o aF v else v = undef) :=
  ⟨v, fun d' hd' => by rw [hd] at hd'; cases hd'; exact ht, by rw [if_pos hw]; exact hg⟩
theorem goes_val {aF : Act} {o : Oper} {v : Value} (h : ∀ w, S w → (execOp aF.eval o).run P w = .ok (.value v) w) : Goes P S o aF v := fun w hS => .inl ⟨w, h w hS, hS⟩
theorem goes_load {aF : Act} {o : Oper} {ty : TypeId} {x : Operand} {g : Nat} {cs : Array Value} {d : TypeDesc} (ho : o.op = .load ty x) (hx : aF.eval x = .pointer (some ⟨g, 0, none⟩)) (hk : ∀ w, S w → Blk w g ty cs) (hu : P.underlying ty = some d) (hd : d.isRow = true) (hi : (P.info? ty).map (·.size) = some cs.size) : Goes P S o aF (.agg cs) :=
  goes_val fun w hS => by
    unfold execOp
    simp only [ho, hx, Instr.loadAt, Instr.sureAddr, Sem.run_bind, Sem.run_pure, Result.andThen_ok, run_loadVar_mid w g 0 ty cs.toList d (hk w hS).range hu hd (by rw [hi]; simp)]
theorem goes_call {aF : Act} {o : Oper} {v : Value} {f : FuncId} {args : Array Value} (hr : ∀ w, (execOp aF.eval o).run P w = .ok (.enter f args) w) (hc : ∀ w, S w → Calls P f args w fun e w' => e = .returned v ∧ Below w.heap.size w w') (hS : ∀ w w', S w → Below w.heap.size w w' → S w') : Goes P S o aF v := fun w hw =>
  .inr ⟨f, args, w, hr w, (hc w hw).mono fun _ _ ⟨h1, h2⟩ => ⟨h1, hS w _ hw h2⟩⟩
theorem goes_eql {aF : Act} {o : Oper} {ty ty2 : TypeId} {x y : Operand} {xs ys : Array Value} {b : Bool} (ho : o.op = .binOp .eql ty x y ty2) (hx : aF.eval x = .agg xs) (hy : aF.eval y = .agg ys) (hg : P.eqGuardType P.depth ty = false) (h : ∀ w, (binOp .eql ty (.agg xs) (.agg ys)).run P w = .ok (.bool b) w) : Goes P S o aF (.bool b) :=
  goes_val fun w _ => by
    unfold execOp
    simp only [ho, hx, hy]
    simp [run_eqGuard_agg w .eql ty x y xs ys hg, h w, Result.andThen]
end
end Go.Proofs.Ytbdpjhlfaelgpaa
