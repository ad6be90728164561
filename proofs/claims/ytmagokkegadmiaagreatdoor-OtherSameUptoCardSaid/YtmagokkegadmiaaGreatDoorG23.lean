/-
  A region that draws its order, whose operations each yield one value in every world that meets S, and leave a world that meets S (loads, moves, tests, and calls whose answers hang on S alone): one look at each operation serves whatever order is picked. A region that draws its order, in which memory is made: what an operation yields may hang on what the run alone tells (where a new block lies): one look at each operation serves whatever order is picked. Layer 3, walked: the program's reader: run.
-/
import Derived.Test.YtmagokkegadmiaaGreatDoorG01
import Derived.Test.YtmagokkegadmiaaGreatDoorG22
import Derived.Orders
import Derived.Laws.StructEq
import Derived.Laws.NewFold
namespace Go.Proofs.YtmagokkegadmiaaGreatDoor
open Go.RowKit

section
variable {P : Program} {ops : Array Oper} {Q : Exit → Act → World → Prop} {md : Region.Mode} {S : World → Prop}

/-- What an operation does in every world that meets S. -/
def Goes (P : Program) (S : World → Prop) (o : Oper) (a : Act) (v : Value) : Prop := ∀ w, S w →
  (∃ w', (execOp a.eval o).run P w = .ok (.value v) w' ∧ S w') ∨
  (∃ f args w1, (execOp a.eval o).run P w = .ok (.enter f args) w1 ∧ Calls P f args w1 fun e w' => e = .returned v ∧ S w')
/-- All operations, seen from the frame in which all have come up. -/
def GoesAll (P : Program) (S : World → Prop) (ops : Array Oper) (aF : Act) : Prop :=
  ∀ (i : Nat) (o : Oper), ops[i]? = some o → ∃ v, (∀ d, o.dst = some d → aF.tmps[d]? = some v) ∧ (if Region.wanted o (yielded ops aF.tmps) = true then Goes P S o aF v else v = undef)
/-- What an operation looks at is written, if at all, by those that it waits for; edges go back. -/
def regCheck (md : Region.Mode) (ops : Array Oper) : Bool :=
  (List.range ops.size).all fun i =>
    match ops[i]? with
    | none => true
    | some o => (o.looksAt ops).all (fun t => (List.range ops.size).all fun j => ((ops[j]?).map fun oj => oj.dst != some t || o.after.any fun e => Region.binds md e && e.on == j).getD true) &&
        o.after.all (fun e => !Region.binds md e || decide (e.on < i))
/-- The frame agrees with the last one in all slots whose writers have come up. -/
structure Near (ops : Array Oper) (aF : Act) (l : Array Bool) (a : Act) : Prop where
  defers : a.defers = aF.defers
  size : a.tmps.size = aF.tmps.size
  at_ : ∀ t, (∀ (j : Nat) (o : Oper), ops[j]? = some o → o.dst = some t → l.getD j false = true) → a.tmps[t]? = aF.tmps[t]?
theorem unl_set : ∀ (l : List Bool) (i : Nat), l[i]? = some false → (l.set i true).countP (fun b => !b) + 1 = l.countP (fun b => !b)
  | [], _, h => by simp at h
  | b :: l, 0, h => by
    simp at h
    subst h
    simp
  | b :: l, i + 1, h => by
    have := unl_set l i (by simpa using h)
    simp only [List.set_cons_succ, List.countP_cons]
    omega
theorem unl_none (l : List Bool) (h : l.countP (fun b => !b) = 0) : ∀ i, i < l.length → l[i]? = some true := fun i hi => by
  have := List.countP_eq_zero.1 h l[i] (List.getElem_mem hi)
  rw [List.getElem?_eq_getElem hi]
  simpa using this
theorem Near.eq {aF a : Act} {l : Array Bool} (h : Near ops aF l a) (hl : ∀ j, j < ops.size → l.getD j false = true) : a = aF := by
  obtain ⟨t, d⟩ := a
  obtain ⟨t', d'⟩ := aF
  have h1 := h.defers
  have h2 : t = t' := Array.ext_getElem? fun i => h.at_ i fun j o ho _ => hl j (Array.getElem?_eq_some_iff.1 ho).1
  simp only at h1
  rw [h1, h2]
theorem Near.put {aF a : Act} {l : Array Bool} (h : Near ops aF l a) {i : Nat} {o : Oper} (ho : ops[i]? = some o) {v : Value} (hv : ∀ d, o.dst = some d → aF.tmps[d]? = some v) : Near ops aF (l.setIfInBounds i true) (a.put o.dst v) := by
  cases hd : o.dst with
  | none =>
    refine ⟨h.defers, h.size, fun t ht => h.at_ t fun j oj hj hdj => ?_⟩
    have := ht j oj hj hdj
    by_cases hij : i = j
    · subst hij
      rw [ho] at hj
      obtain rfl := Option.some.inj hj
      rw [hd] at hdj
      cases hdj
    · rwa [getD_set_ne false hij] at this
  | some d =>
    have hF := hv d hd
    have hlt : d < a.tmps.size := by rw [h.size]; exact (Array.getElem?_eq_some_iff.1 hF).1
    refine ⟨h.defers, by simp [Act.put, h.size], fun t ht => ?_⟩
    show (a.tmps.setIfInBounds d v)[t]? = aF.tmps[t]?
    by_cases hdt : d = t
    · subst hdt
      rw [Array.getElem?_setIfInBounds_self_of_lt hlt, hF]
    · rw [Array.getElem?_setIfInBounds_ne hdt]
      refine h.at_ t fun j oj hj hdj => ?_
      have := ht j oj hj hdj
      by_cases hij : i = j
      · subst hij
        rw [ho] at hj
        obtain rfl := Option.some.inj hj
        rw [hd] at hdj
        exact absurd (Option.some.inj hdj) hdt
      · rwa [getD_set_ne false hij] at this
theorem Near.eval {aF a : Act} {l : Array Bool} (h : Near ops aF l a) (x : Operand) (hx : ∀ t, x = .tmp t → ∀ (j : Nat) (o : Oper), ops[j]? = some o → o.dst = some t → l.getD j false = true) : a.eval x = aF.eval x := by
  cases x with
  | tmp t =>
    have := h.at_ t (hx t rfl)
    show a.tmps.getD t undef = aF.tmps.getD t undef
    rw [Array.getD_eq_getD_getElem?, Array.getD_eq_getD_getElem?, this]
  | _ => rfl
theorem waits (hc : regCheck md ops = true) {i : Nat} {o : Oper} (ho : ops[i]? = some o) {l : Array Bool} (hr : ∀ e ∈ o.after, Region.binds md e = true → l.getD e.on false = true) {t : Tmp} (ht : t ∈ o.looksAt ops) : ∀ (j : Nat) (oj : Oper), ops[j]? = some oj → oj.dst = some t → l.getD j false = true := fun j oj hj hd => by
  have hi : i < ops.size := (Array.getElem?_eq_some_iff.1 ho).1
  have h1 := List.all_eq_true.1 hc i (List.mem_range.2 hi)
  simp only [ho, Bool.and_eq_true] at h1
  have h2 := List.all_eq_true.1 h1.1 t ht
  have hjs : j < ops.size := (Array.getElem?_eq_some_iff.1 hj).1
  have h3 := List.all_eq_true.1 h2 j (List.mem_range.2 hjs)
  simp only [hj, Option.map_some, Option.getD_some, hd, bne_self_eq_false, Bool.false_or] at h3
  obtain ⟨e, he, hb⟩ := Array.any_eq_true'.1 h3
  simp only [Bool.and_eq_true, beq_iff_eq] at hb
  rw [← hb.2]
  exact hr e he hb.1
theorem wpAny_goes (hc : regCheck md ops = true) (hs : Region.noSelect ops = true) {aF : Act} (hg : GoesAll P S ops aF) (hQ : ∀ w, S w → Q .normal aF w) :
    ∀ (fuel : Nat) (l : Array Bool) (a : Act) (w : World), l.size = ops.size → l.toList.countP (fun b => !b) ≤ fuel → Near ops aF l a → S w → wpAny P md ops Q fuel l a w := by
  have fin : ∀ (l : Array Bool) (a : Act) (w : World), l.size = ops.size → Region.ready md ops l = [] → Near ops aF l a → S w → Q .normal a w := fun l a w hsz hr hn hS => by
    have all : ∀ j, j < ops.size → l.getD j false = true := by
      intro j
      induction j using Nat.strongRecOn with
      | _ j ih =>
        intro hj
        have ho : ops[j]? = some ops[j] := Array.getElem?_eq_getElem hj
        cases hh : l.getD j false with
        | true => rfl
        | false =>
          exfalso
          have hm : j ∈ Region.ready md ops l := mem_ready.2 ⟨by
            rw [Array.getD_eq_getD_getElem?] at hh ⊢
            rw [Array.getElem?_eq_getElem (by omega)] at hh ⊢
            exact hh, ops[j], ho, fun e he hb => by
            have h1 := List.all_eq_true.1 hc j (List.mem_range.2 hj)
            simp only [ho, Bool.and_eq_true] at h1
            have h2 := Array.all_eq_true_iff_forall_mem.1 h1.2 e he
            simp only [hb, Bool.not_true, Bool.false_or, decide_eq_true_eq] at h2
            exact ih e.on h2 (by omega)⟩
          rw [hr] at hm
          cases hm
    rw [hn.eq all]
    exact hQ w hS
  intro fuel
  induction fuel with
  | zero =>
    intro l a w hsz hcnt hn hS
    have h0 := unl_none l.toList (by omega)
    have hr : Region.ready md ops l = [] := by
      rw [List.eq_nil_iff_forall_not_mem]
      intro j hj
      obtain ⟨h1, o, ho, _⟩ := mem_ready.1 hj
      have hlt : j < l.size := by rw [hsz]; exact (Array.getElem?_eq_some_iff.1 ho).1
      have h2 := h0 j (by simpa using hlt)
      rw [Array.getElem?_toList] at h2
      rw [Array.getD_eq_getD_getElem?, h2] at h1
      cases h1
    exact ⟨hr, fin l a w hsz hr hn hS⟩
  | succ fuel ih =>
    intro l a w hsz hcnt hn hS
    refine ⟨fun hr => fin l a w hsz hr hn hS, fun i hi => ?_⟩
    obtain ⟨h1, o, ho, hall⟩ := mem_ready.1 hi
    have hlt : i < l.size := by rw [hsz]; exact (Array.getElem?_eq_some_iff.1 ho).1
    have hli : l.toList[i]? = some false := by
      rw [Array.getElem?_toList, Array.getElem?_eq_getElem hlt]
      rw [Array.getD_eq_getD_getElem?, Array.getElem?_eq_getElem hlt] at h1
      exact congrArg some h1
    have hstep : ∀ (v : Value) (w' : World), (∀ d, o.dst = some d → aF.tmps[d]? = some v) → S w' → wpAny P md ops Q fuel (l.setIfInBounds i true) (a.put o.dst v) w' := fun v w' hv hS' =>
      ih _ _ w' (by simpa using hsz) (by
        have := unl_set l.toList i hli
        rw [Array.toList_setIfInBounds]
        omega) (hn.put ho hv) hS'
    obtain ⟨v, hv, hw⟩ := hg i o ho
    have he : execOp a.eval o = execOp aF.eval o := execOp_congr o (fun cs b => Region.noSelect_spec hs i o cs b ho) fun x hx => hn.eval x fun t ht => waits hc ho hall (by
      subst ht
      exact List.mem_append_left _ (List.mem_filterMap.2 ⟨.tmp t, by simpa using hx, rfl⟩))
    have hwt : Region.wanted o (yielded ops a.tmps) = Region.wanted o (yielded ops aF.tmps) := by
      unfold Region.wanted
      cases hgd : o.guard with
      | none => rfl
      | some gw =>
        obtain ⟨g, want⟩ := gw
        have hy : yielded ops a.tmps g = yielded ops aF.tmps g := by
          unfold yielded
          cases ht : (ops[g]?).bind (·.dst) with
          | none => rfl
          | some t =>
            have := hn.at_ t (waits hc ho hall (by simp [Oper.looksAt, hgd, ht]))
            show (match (some t).bind (a.tmps[·]?) with | some (.bool b) => some b | _ => none) = (match (some t).bind (aF.tmps[·]?) with | some (.bool b) => some b | _ => none)
            simp only [Option.bind_some, this]
        simp only [hy]
    unfold wpOp
    simp only [ho]
    rw [hwt]
    by_cases hq : Region.wanted o (yielded ops aF.tmps) = true
    · rw [if_pos hq] at hw ⊢
      refine .inl ?_
      unfold Oper.wp
      rw [he]
      rcases hw w hS with ⟨w', hrun, hS'⟩ | ⟨f, args, w1, hrun, hcall⟩
      · rw [hrun, Oper.upon_value]
        exact hstep v w' hv hS'
      · rw [hrun, Oper.upon_enter]
        refine hcall.mono ?_
        rintro e w' ⟨rfl, hS'⟩
        exact hstep v w' hv hS'
    · rw [if_neg hq] at hw ⊢
      rw [hw] at hv
      exact hstep undef w hv hS
/-- The region, whatever order is picked. -/
theorem wp_region_goes {id : Nat} {a : Act} {w : World} (hm : P.follows .mixedOrders = true) (hc : regCheck .any ops = true) (hs : Region.noSelect ops = true) (aF : Act) (hn : Near ops aF (Array.replicate ops.size false) a) (hS : S w.drew) (hg : GoesAll P S ops aF) (hQ : ∀ w, S w → Q .normal aF w) :
    (Code.region id ops true).wp P Q a w :=
  wp_region_any hm (wpAny_goes hc hs hg hQ ops.size _ a _ (by simp) (by
    refine Nat.le_trans List.countP_le_length ?_
    simp) hn hS)
/-- The frame in which all have come up. -/
def goF (a : Act) : List Oper → List Value → Act
  | o :: os, v :: vs => goF (a.put o.dst v) os vs
  | _, _ => a
theorem goF_near (a0 : Act) : ∀ (os : List Oper) (vs : List Value) (a : Act), a.defers = a0.defers → a.tmps.size = a0.tmps.size → (∀ t, (∀ o ∈ os, o.dst ≠ some t) → a.tmps[t]? = a0.tmps[t]? → (goF a os vs).tmps[t]? = a0.tmps[t]?) ∧ (goF a os vs).defers = a0.defers ∧ (goF a os vs).tmps.size = a0.tmps.size
  | [], _, a, h1, h2 => ⟨fun _ _ h => h, h1, h2⟩
  | _ :: _, [], a, h1, h2 => ⟨fun _ _ h => h, h1, h2⟩
  | o :: os, v :: vs, a, h1, h2 => by
    have hd : (a.put o.dst v).defers = a.defers := by cases o.dst <;> rfl
    have hz : (a.put o.dst v).tmps.size = a.tmps.size := by cases o.dst <;> simp [Act.put]
    obtain ⟨q1, q2, q3⟩ := goF_near a0 os vs (a.put o.dst v) (hd.trans h1) (hz.trans h2)
    refine ⟨fun t ht h => q1 t (fun o' ho' => ht o' (List.mem_cons_of_mem _ ho')) ?_, q2, q3⟩
    have hne := ht o (List.mem_cons_self ..)
    rw [← h]
    cases hdst : o.dst with
    | none => rfl
    | some d =>
      show (a.tmps.setIfInBounds d v)[t]? = _
      rw [Array.getElem?_setIfInBounds_ne (fun e => hne (by rw [hdst, e]))]
theorem near_goF (a : Act) (vs : List Value) : Near ops (goF a ops.toList vs) (Array.replicate ops.size false) a := by
  obtain ⟨q1, q2, q3⟩ := goF_near a ops.toList vs a rfl rfl
  refine ⟨q2.symm, q3.symm, fun t ht => (q1 t (fun o ho hd => ?_) rfl).symm⟩
  obtain ⟨i, hi, he⟩ := List.getElem_of_mem ho
  have := ht i o (by rw [← Array.getElem?_toList, List.getElem?_eq_getElem hi, he]) hd
  rw [Array.getD_eq_getD_getElem?, Array.getElem?_replicate] at this
  split at this <;> cases this
theorem near_of {a aF : Act} (vs : List Value) (h : goF a ops.toList vs = aF) : Near ops aF (Array.replicate ops.size false) a := by
  rw [← h]
  exact near_goF a vs
theorem goesAll_of {aF : Act} (h : ∀ o ∈ ops.toList, ∃ v, (∀ d, o.dst = some d → aF.tmps[d]? = some v) ∧ (if Region.wanted o (yielded ops aF.tmps) = true then Goes P S o aF v else v = undef)) : GoesAll P S ops aF := fun i o ho => h o (by
  rw [← Array.getElem?_toList] at ho
  exact List.mem_of_getElem? ho)
theorem goes_at {aF : Act} {o : Oper} {d : Tmp} (v : Value) (hd : o.dst = some d) (ht : aF.tmps[d]? = some v) (hw : Region.wanted o (yielded ops aF.tmps) = true) (hg : Goes P S o aF v) :
    ∃ v, (∀ d, o.dst = some d → aF.tmps[d]? = some v) ∧ (if Region.wanted o (yielded ops aF.tmps) = true then Goes P S o aF v else v = undef) :=
  ⟨v, fun d' hd' => by rw [hd] at hd'; cases hd'; exact ht, by rw [if_pos hw]; exact hg⟩
theorem goes_val {aF : Act} {o : Oper} {v : Value} (h : ∀ w, S w → (execOp aF.eval o).run P w = .ok (.value v) w) : Goes P S o aF v := fun w hS => .inl ⟨w, h w hS, hS⟩
theorem goes_load {aF : Act} {o : Oper} {ty : TypeId} {x : Operand} {g : Nat} {cs : Array Value} {d : TypeDesc} (ho : o.op = .load ty x) (hx : aF.eval x = .pointer (some ⟨g, 0, none⟩)) (hk : ∀ w, S w → Blk w g ty cs) (hu : P.underlying ty = some d) (hd : d.isRow = true) (hi : (P.info? ty).map (·.size) = some cs.size) : Goes P S o aF (.agg cs) :=
  goes_val fun w hS => by
    unfold execOp
    simp only [ho, hx, Instr.loadAt, Instr.sureAddr, Sem.run_bind, Sem.run_pure, Result.andThen_ok, run_loadVar_mid w g 0 ty cs.toList d (hk w hS).range hu hd (by rw [hi]; simp)]
theorem goes_call {aF : Act} {o : Oper} {v : Value} {f : FuncId} {args : Array Value} (hr : ∀ w, (execOp aF.eval o).run P w = .ok (.enter f args) w) (hc : ∀ w, S w → Calls P f args w fun e w' => e = .returned v ∧ Below w.heap.size w w') (hS : ∀ w w', S w → Below w.heap.size w w' → S w') : Goes P S o aF v := fun w hw =>
  .inr ⟨f, args, w, hr w, (hc w hw).mono fun _ _ ⟨h1, h2⟩ => ⟨h1, hS w _ hw h2⟩⟩
theorem goes_eql {aF : Act} {o : Oper} {ty ty2 : TypeId} {x y : Operand} {xs ys : Array Value} {b : Bool} (ho : o.op = .binOp .eql ty x y ty2) (hx : aF.eval x = .agg xs) (hy : aF.eval y = .agg ys) (hg : P.eqGuardType P.depth ty = false) (h : ∀ w, (binOp .eql ty (.agg xs) (.agg ys)).run P w = .ok (.bool b) w) : Goes P S o aF (.bool b) :=
  goes_val fun w _ => by
    unfold execOp
    simp only [ho, hx, hy]
    simp [run_eqGuard_agg w .eql ty x y xs ys hg, h w, Result.andThen]
end
end Go.Proofs.YtmagokkegadmiaaGreatDoor
namespace Go.Proofs.YtmagokkegadmiaaGreatDoor
open Go.RowKit

section
variable {P : Program} {ops : Array Oper} {Q : Exit → Act → World → Prop} {md : Region.Mode}

/-- What the run alone tells of some slots, with one of them told anew. -/
def upd (g : Tmp → Value) (d : Tmp) (v : Value) : Tmp → Value := fun t => if t = d then v else g t
theorem upd_at (g : Tmp → Value) (d : Tmp) (v : Value) : upd g d v d = v := if_pos rfl
theorem upd_ne (g : Tmp → Value) {d t : Tmp} (v : Value) (h : t ≠ d) : upd g d v t = g t := if_neg h
/-- The frame, with the slots ds as g tells. -/
def fillT (g : Tmp → Value) : List Tmp → Array Value → Array Value
  | [], t => t
  | d :: ds, t => fillT g ds (t.setIfInBounds d (g d))
def fillA (a : Act) (ds : List Tmp) (g : Tmp → Value) : Act := ⟨fillT g ds a.tmps, a.defers⟩
theorem fillT_size (g : Tmp → Value) : ∀ (ds : List Tmp) (t : Array Value), (fillT g ds t).size = t.size
  | [], _ => rfl
  | d :: ds, t => by
    show (fillT g ds _).size = _
    rw [fillT_size g ds, Array.size_setIfInBounds]
theorem fillT_other (g : Tmp → Value) (d : Tmp) (v : Value) {t : Tmp} (ht : t ≠ d) : ∀ (ds : List Tmp) (s s' : Array Value), s.size = s'.size → s[t]? = s'[t]? → (fillT (upd g d v) ds s)[t]? = (fillT g ds s')[t]?
  | [], _, _, _, h => h
  | x :: ds, s, s', hz, h => by
    refine fillT_other g d v ht ds _ _ (by simp [hz]) ?_
    by_cases hx : x = t
    · subst hx
      rw [upd_ne g v ht]
      by_cases hl : x < s.size
      · rw [Array.getElem?_setIfInBounds_self_of_lt hl, Array.getElem?_setIfInBounds_self_of_lt (hz ▸ hl)]
      · rw [Array.getElem?_eq_none (by rw [Array.size_setIfInBounds]; exact Nat.le_of_not_lt hl), Array.getElem?_eq_none (by rw [Array.size_setIfInBounds, ← hz]; exact Nat.le_of_not_lt hl)]
    · rw [Array.getElem?_setIfInBounds_ne hx, Array.getElem?_setIfInBounds_ne hx, h]
/-- What an operation yields, and leaves: the run may tell one slot anew, the operation's own. -/
def After (aF : (Tmp → Value) → Act) (S : Array Bool → (Tmp → Value) → World → Prop) (i : Nat) (o : Oper) (l : Array Bool) (g : Tmp → Value) (v : Value) (w : World) : Prop :=
  ∃ g', (g' = g ∨ ∃ d u, o.dst = some d ∧ g' = upd g d u) ∧ (∀ d, o.dst = some d → (aF g').tmps[d]? = some v) ∧ S (l.setIfInBounds i true) g' w
/-- What an operation does in every state that meets S. -/
def GoesM (P : Program) (md : Region.Mode) (ops : Array Oper) (aF : (Tmp → Value) → Act) (S : Array Bool → (Tmp → Value) → World → Prop) (i : Nat) (o : Oper) : Prop :=
  ∀ l g w, l.size = ops.size → l.getD i false = false → (∀ e ∈ o.after, Region.binds md e = true → l.getD e.on false = true) → S l g w →
    if Region.wanted o (yielded ops (aF g).tmps) = true then
      (∃ v w', ((execOp (aF g).eval o).run P w = .ok (.value v) w' ∨ ((execOp (aF g).eval o).run P w = .ok .skip w' ∧ v = undef)) ∧ After aF S i o l g v w') ∨
      (∃ f args w1, (execOp (aF g).eval o).run P w = .ok (.enter f args) w1 ∧ Calls P f args w1 fun e w' => ∃ v, e = .returned v ∧ After aF S i o l g v w')
    else After aF S i o l g undef w
def GoesAllM (P : Program) (md : Region.Mode) (ops : Array Oper) (aF : (Tmp → Value) → Act) (S : Array Bool → (Tmp → Value) → World → Prop) : Prop :=
  ∀ (i : Nat) (o : Oper), ops[i]? = some o → GoesM P md ops aF S i o
theorem Near.turn {aF : (Tmp → Value) → Act} (hF : ∀ g d v, (∀ t, t ≠ d → (aF (upd g d v)).tmps[t]? = (aF g).tmps[t]?) ∧ (aF (upd g d v)).defers = (aF g).defers ∧ (aF (upd g d v)).tmps.size = (aF g).tmps.size)
    {g g' : Tmp → Value} {l : Array Bool} {a : Act} {i : Nat} {o : Oper} (ho : ops[i]? = some o) (hl : l.getD i false = false) (hg : g' = g ∨ ∃ d u, o.dst = some d ∧ g' = upd g d u) (h : Near ops (aF g) l a) : Near ops (aF g') l a := by
  rcases hg with rfl | ⟨d, u, hd, rfl⟩
  · exact h
  · obtain ⟨h1, h2, h3⟩ := hF g d u
    refine ⟨h.defers.trans h2.symm, h.size.trans h3.symm, fun t ht => ?_⟩
    have hne : t ≠ d := fun e => by
      have := ht i o ho (by rw [hd, e])
      rw [hl] at this
      cases this
    rw [h1 t hne]
    exact h.at_ t ht
theorem wpAny_made (hc : regCheck md ops = true) (hs : Region.noSelect ops = true) {aF : (Tmp → Value) → Act} {S : Array Bool → (Tmp → Value) → World → Prop}
    (hF : ∀ g d v, (∀ t, t ≠ d → (aF (upd g d v)).tmps[t]? = (aF g).tmps[t]?) ∧ (aF (upd g d v)).defers = (aF g).defers ∧ (aF (upd g d v)).tmps.size = (aF g).tmps.size)
    (hg : GoesAllM P md ops aF S) (hQ : ∀ l g w, (∀ j, j < ops.size → l.getD j false = true) → S l g w → Q .normal (aF g) w) :
    ∀ (fuel : Nat) (l : Array Bool) (a : Act) (w : World), l.size = ops.size → l.toList.countP (fun b => !b) ≤ fuel → (∃ g, Near ops (aF g) l a ∧ S l g w) → wpAny P md ops Q fuel l a w := by
  have fin : ∀ (l : Array Bool) (a : Act) (w : World), l.size = ops.size → Region.ready md ops l = [] → (∃ g, Near ops (aF g) l a ∧ S l g w) → Q .normal a w := fun l a w hsz hr ⟨g, hn, hS⟩ => by
    have all : ∀ j, j < ops.size → l.getD j false = true := by
      intro j
      induction j using Nat.strongRecOn with
      | _ j ih =>
        intro hj
        have ho : ops[j]? = some ops[j] := Array.getElem?_eq_getElem hj
        cases hh : l.getD j false with
        | true => rfl
        | false =>
          exfalso
          have hm : j ∈ Region.ready md ops l := mem_ready.2 ⟨by
            rw [Array.getD_eq_getD_getElem?] at hh ⊢
            rw [Array.getElem?_eq_getElem (by omega)] at hh ⊢
            exact hh, ops[j], ho, fun e he hb => by
            have h1 := List.all_eq_true.1 hc j (List.mem_range.2 hj)
            simp only [ho, Bool.and_eq_true] at h1
            have h2 := Array.all_eq_true_iff_forall_mem.1 h1.2 e he
            simp only [hb, Bool.not_true, Bool.false_or, decide_eq_true_eq] at h2
            exact ih e.on h2 (by omega)⟩
          rw [hr] at hm
          cases hm
    rw [hn.eq all]
    exact hQ l g w all hS
  intro fuel
  induction fuel with
  | zero =>
    intro l a w hsz hcnt hn
    have h0 := unl_none l.toList (by omega)
    have hr : Region.ready md ops l = [] := by
      rw [List.eq_nil_iff_forall_not_mem]
      intro j hj
      obtain ⟨h1, o, ho, _⟩ := mem_ready.1 hj
      have hlt : j < l.size := by rw [hsz]; exact (Array.getElem?_eq_some_iff.1 ho).1
      have h2 := h0 j (by simpa using hlt)
      rw [Array.getElem?_toList] at h2
      rw [Array.getD_eq_getD_getElem?, h2] at h1
      cases h1
    exact ⟨hr, fin l a w hsz hr hn⟩
  | succ fuel ih =>
    intro l a w hsz hcnt hnn
    refine ⟨fun hr => fin l a w hsz hr hnn, fun i hi => ?_⟩
    obtain ⟨g, hn, hS⟩ := hnn
    obtain ⟨h1, o, ho, hall⟩ := mem_ready.1 hi
    have hlt : i < l.size := by rw [hsz]; exact (Array.getElem?_eq_some_iff.1 ho).1
    have hli : l.toList[i]? = some false := by
      rw [Array.getElem?_toList, Array.getElem?_eq_getElem hlt]
      rw [Array.getD_eq_getD_getElem?, Array.getElem?_eq_getElem hlt] at h1
      exact congrArg some h1
    have h1f : l.getD i false = false := by
      rw [Array.getD_eq_getD_getElem?, ← Array.getElem?_toList, hli]
      rfl
    have hstep : ∀ (v : Value) (w' : World), After aF S i o l g v w' → wpAny P md ops Q fuel (l.setIfInBounds i true) (a.put o.dst v) w' := fun v w' ⟨g', hg', hv, hS'⟩ =>
      ih _ _ w' (by simpa using hsz) (by
        have := unl_set l.toList i hli
        rw [Array.toList_setIfInBounds]
        omega) ⟨g', (hn.turn hF ho h1f hg').put ho hv, hS'⟩
    have hw := hg i o ho l g w hsz h1f hall hS
    have he : execOp a.eval o = execOp (aF g).eval o := execOp_congr o (fun cs b => Region.noSelect_spec hs i o cs b ho) fun x hx => hn.eval x fun t ht => waits hc ho hall (by
      subst ht
      exact List.mem_append_left _ (List.mem_filterMap.2 ⟨.tmp t, by simpa using hx, rfl⟩))
    have hwt : Region.wanted o (yielded ops a.tmps) = Region.wanted o (yielded ops (aF g).tmps) := by
      unfold Region.wanted
      cases hgd : o.guard with
      | none => rfl
      | some gw =>
        obtain ⟨gg, want⟩ := gw
        have hy : yielded ops a.tmps gg = yielded ops (aF g).tmps gg := by
          unfold yielded
          cases ht : (ops[gg]?).bind (·.dst) with
          | none => rfl
          | some t =>
            have := hn.at_ t (waits hc ho hall (by simp [Oper.looksAt, hgd, ht]))
            show (match (some t).bind (a.tmps[·]?) with | some (.bool b) => some b | _ => none) = (match (some t).bind ((aF g).tmps[·]?) with | some (.bool b) => some b | _ => none)
            simp only [Option.bind_some, this]
        simp only [hy]
    unfold wpOp
    simp only [ho]
    rw [hwt]
    by_cases hq : Region.wanted o (yielded ops (aF g).tmps) = true
    · rw [if_pos hq] at hw ⊢
      refine .inl ?_
      unfold Oper.wp
      rw [he]
      rcases hw with ⟨v, w', hrun | ⟨hrun, rfl⟩, hA⟩ | ⟨f, args, w1, hrun, hcall⟩
      · rw [hrun, Oper.upon_value]
        exact hstep v w' hA
      · rw [hrun, Oper.upon_skip]
        exact hstep undef w' hA
      · rw [hrun, Oper.upon_enter]
        refine hcall.mono ?_
        rintro e w' ⟨v, rfl, hA⟩
        exact hstep v w' hA
    · rw [if_neg hq] at hw ⊢
      exact hstep undef w hw
theorem fill_turn (a0 : Act) (ds : List Tmp) (g : Tmp → Value) (d : Tmp) (v : Value) : (∀ t, t ≠ d → (fillA a0 ds (upd g d v)).tmps[t]? = (fillA a0 ds g).tmps[t]?) ∧ (fillA a0 ds (upd g d v)).defers = (fillA a0 ds g).defers ∧ (fillA a0 ds (upd g d v)).tmps.size = (fillA a0 ds g).tmps.size :=
  ⟨fun _ ht => fillT_other g d v ht ds _ _ rfl rfl, rfl, by simp [fillA, fillT_size]⟩
/-- The region, whatever order is picked: memory may be made in it. -/
theorem wp_region_made {id : Nat} {a a0 : Act} {w : World} {S : Array Bool → (Tmp → Value) → World → Prop} (ds : List Tmp) (hm : P.follows .mixedOrders = true) (hc : regCheck .any ops = true) (hs : Region.noSelect ops = true)
    (g0 : Tmp → Value) (hn : Near ops (fillA a0 ds g0) (Array.replicate ops.size false) a) (hS : S (Array.replicate ops.size false) g0 w.drew) (hg : GoesAllM P .any ops (fillA a0 ds) S)
    (hQ : ∀ l g w, (∀ j, j < ops.size → l.getD j false = true) → S l g w → Q .normal (fillA a0 ds g) w) :
    (Code.region id ops true).wp P Q a w :=
  wp_region_any hm (wpAny_made hc hs (fill_turn a0 ds) hg hQ ops.size _ a _ (by simp) (by
    refine Nat.le_trans List.countP_le_length ?_
    simp) ⟨g0, hn, hS⟩)
theorem goesAllM_of {aF : (Tmp → Value) → Act} {S : Array Bool → (Tmp → Value) → World → Prop} (h : ∀ p ∈ ops.toList.zipIdx 0, GoesM P md ops aF S p.2 p.1) : GoesAllM P md ops aF S := fun i o ho => h (o, i) (by
  rw [List.mem_zipIdx_iff_getElem?]
  simpa using ho)
end
end Go.Proofs.YtmagokkegadmiaaGreatDoor
namespace Go.Proofs.YtmagokkegadmiaaGreatDoor
open Go.RowKit

/-- Where the box stands. -/
def atOf (w : World) (g : Nat) : Nat := match w.cell? ⟨g, 1, none⟩ with | some (.int _ i) => i.toNat | _ => 0
theorem atOf_blk {w : World} {g : Nat} {t : TypeId} {A : Option Addr} {n c k : Nat} {x0 x1 x2 x3 x4 x5 : Value} (h : Blk w g t (tkC A n c k x0 x1 x2 x3 x4 x5)) : atOf w g = k := by
  unfold atOf
  rw [show w.cell? ⟨g, 1, none⟩ = some (.int .i64 (k : Int)) from h.cell 1]
  simp

set_option maxRecDepth 100000 in
set_option maxHeartbeats 8000000 in
theorem run2_any (g : Nat) (A : Option Addr) (c a b m : Nat) (l r u : List UInt8) (x0 x1 x2 x3 x4 x5 : Value) (w : World) (hu : runF a b m r = u) (hlc : l.length ≤ c) (hl : l.length ≤ 4294967296) (hm : m ≤ 4294967296) (h : Rdr w g A c l x0 x1 x2 x3 x4 x5 r) :
    Calls Tryz.prog 82 #[.pointer (some ⟨g, 0, none⟩), .int .u8 a, .int .u8 b, .int .i64 m] w fun e w' => e = .returned (.string ⟨u.toArray⟩) ∧ Rdr w' g A c l x0 x1 x2 x3 x4 x5 (r.drop u.length) ∧ w.grownBy w' (some g) := by
  obtain ⟨at_, hat, hr, hrd, hblk⟩ := h
  have hlt := hblk.lt
  have c0 : w.cell? ⟨g, 0, none⟩ = some (.slice A l.length c) := hblk.cell 0
  have c1 : w.cell? ⟨g, 1, none⟩ = some (.int .i64 (at_ : Int)) := hblk.cell 1
  have HU := Lib.hid hu
  have HR := Lib.hid hr
  clear hu hr
  go_enter Tryz.func82, Tryz.ntmps82
  go_wp2_with fail
  go_loopw [] (fun wr => ∃ k : Nat, k ≤ m ∧ at_ + k ≤ l.length ∧ (r.take k).all (btw a b) = true ∧ RdIn g wr A (bs l) ∧ Blk wr g 91 (tkC A l.length c (at_ + k) x0 x1 x2 x3 x4 x5) ∧ w.grownBy wr (some g)) (fun wr => l.length - atOf wr g)
  case atStart => exact ⟨0, Nat.zero_le _, hat, rfl, hrd, hblk, World.grownBy.refl _ _⟩
  case round =>
    obtain ⟨k, hkm, hkl, hall, hrd1, hblk1, hg1⟩ := hrel
    have hlt1 := hblk1.lt
    obtain ⟨p, hp⟩ : ∃ p, at_ + k = p := ⟨_, rfl⟩
    have HP := Lib.hid hp
    rw [hp] at hkl hblk1
    clear hp
    have d0 : wr.cell? ⟨g, 0, none⟩ = some (.slice A l.length c) := hblk1.cell 0
    have d1 : wr.cell? ⟨g, 1, none⟩ = some (.int .i64 (p : Int)) := hblk1.cell 1
    have fz1 := hblk1.frozen 1
    have HA := Lib.hid hall
    clear hall c0 c1
    have hrl := Lib.hid (show r.length = l.length - at_ by rw [← HR.out, List.length_drop])
    have hke : k ≤ r.length := by rw [hrl.out]; have := HP.out; omega
    by_cases h1 : p < l.length
    · have k1 : (p : Int) < (l.length : Int) := by omega
      have ew : IntKind.i64.wrap ((p : Int) - (at_ : Int)) = (k : Int) := by rw [IntWalk.i64_in _ (by have := HP.out; omega)]; have := HP.out; omega
      have ew0 : (p : Int) - (at_ : Int) = (k : Int) := by have := HP.out; omega
      obtain ⟨b2, o2, hA, hb2, hcc⟩ := hrd1 (by rw [bs_length]; omega)
      cases hA
      have hcp := hcc p _ (bs_get l p h1)
      have hB8 : B8 (l[p]'h1) = .int .u8 ((l[p]'h1).toNat : Int) := rfl
      rw [hB8] at hcp
      obtain ⟨x, hx⟩ : ∃ x, l[p]'h1 = x := ⟨_, rfl⟩
      rw [hx] at hcp
      have hxl := x.toNat_lt
      have hkr : k < r.length := by rw [hrl.out]; have := HP.out; omega
      have HX := Lib.hid (show r[k]'hkr = x by
        rw [← hx]
        have : ∀ (t : List UInt8) (h : k < t.length) (h2 : t = l.drop at_), t[k]'h = l[p]'h1 := fun t h h2 => by subst h2; rw [List.getElem_drop]; simp only [HP.out]
        exact this r hkr HR.out.symm)
      clear hx hcc hB8
      by_cases h2 : k < m
      · have k2 : (k : Int) < (m : Int) := by omega
        by_cases h3 : a ≤ x.toNat
        · by_cases h4 : x.toNat ≤ b
          · have HN := Lib.hid (show (r.take (k + 1)).all (btw a b) = true by
              rw [List.take_succ_eq_append_getElem hkr, List.all_append, HA.out, HX.out]; simp [(btw_iff a b x).2 ⟨h3, h4⟩])
            go_wp2_with fail
            go_quiet (fail)
            go_wp2_with fail
            have hgs := grown_setCell g 1 (Value.int IntKind.i64 ((p : Int) + 1)) (wr.drewN nq)
            have hgd : wr.grownBy (wr.drewN nq) (some g) := ⟨rfl, rfl, rfl, Nat.le_refl _, fun _ _ _ => rfl⟩
            have hb3 : Blk ((wr.drewN nq).setCell ⟨g, 1, none⟩ (Value.int IntKind.i64 ((p : Int) + 1))) g 91 (tkC (some ⟨b2, o2, none⟩) l.length c (p + 1) x0 x1 x2 x3 x4 x5) := by
              have := (hblk1.drewN nq).set 1 (.int .i64 ((p : Int) + 1))
              exact this
            refine ⟨⟨k + 1, h2, by have := HP.out; omega, HN.out, RdIn.grown hrd1 (grown_trans hgd hgs) hlt1, ?_, grown_trans hg1 (grown_trans hgd hgs)⟩, ?_⟩
            · rw [show at_ + (k + 1) = p + 1 by have := HP.out; omega]; exact hb3
            · rw [atOf_blk hb3, atOf_blk hblk1]; omega
          · have h4 : b < x.toNat := by omega
            have HE := Lib.hid (show u = r.take k from HU.out.symm.trans (runF_end (by omega) hkm HA.out (.inr (.inr ⟨hkr, by rw [HX.out, btw_no]; omega⟩))))
            go_wp2_with fail
            go_quiet (fail)
            obtain ⟨A', hcut, hrd2⟩ := cut2_run (P := Tryz.prog) (T := 27) (e := 5) (by kernel_rfl) Tryz.underlying27 Tryz.sizeOf5 (some ⟨b2, o2, none⟩) l.length c at_ p (by omega) hkl hlc
            have hpk : p - at_ = k := by have := HP.out; omega
            rw [hpk] at hcut hrd2
            have hcv : ∀ a n, (convert 27 9 (.slice A' k (c - at_))).run Tryz.prog ((wr.drewN a).drewN n) = .ok (.string ⟨u.toArray⟩) ((wr.drewN a).drewN n) := fun a n => by
              have h2 := (hrd2 g wr l rfl hrd1).rd (Nat.le_of_lt hlt1)
              have e2 : (l.drop at_).take k = u := by rw [HR.out]; exact HE.out.symm
              rw [e2] at h2
              exact conv_str (w := (wr.drewN a).drewN n) Tryz.underlying27 Tryz.underlying5 (by rw [HE.out, List.length_take]; omega) h2 9 Tryz.underlying9
            clear hrd2 hpk
            go_wp2_with fail
            have hblk2 := hblk1.drewN nq
            have hrdW : RdIn g (wr.drewN nq) (some ⟨b2, o2, none⟩) (bs l) := hrd1
            have hgW : w.grownBy (wr.drewN nq) (some g) := ⟨hg1.os, hg1.tape, hg1.output, hg1.size, hg1.block⟩
            have hcv2 : ∀ n, (convert 27 9 (.slice A' k (c - at_))).run Tryz.prog ((wr.drewN nq).drewN n) = .ok (.string ⟨u.toArray⟩) ((wr.drewN nq).drewN n) := fun n => hcv nq n
            have hcv0 : (convert 27 9 (.slice A' k (c - at_))).run Tryz.prog (wr.drewN nq) = .ok (.string ⟨u.toArray⟩) (wr.drewN nq) := hcv nq 0
            clear hcv d0 d1 fz1 hg1 hrd1 hblk1
            generalize wr.drewN nq = W at *
            have e0 : W.cell? ⟨g, 0, none⟩ = some (.slice (some ⟨b2, o2, none⟩) l.length c) := hblk2.cell 0
            have e1 : W.cell? ⟨g, 1, none⟩ = some (.int .i64 (p : Int)) := hblk2.cell 1
            go_quiet (fail)
            go_wp2_with fail
            go_ret
            refine ⟨rfl, ⟨p, hkl, ?_, hrdW, hblk2.drewN _⟩, ⟨hgW.os, hgW.tape, hgW.output, hgW.size, hgW.block⟩⟩
            rw [HE.out, List.length_take, Nat.min_eq_left hke, ← HR.out, List.drop_drop, HP.out]
        · have h3 : x.toNat < a := by omega
          have HE := Lib.hid (show u = r.take k from HU.out.symm.trans (runF_end (by omega) hkm HA.out (.inr (.inr ⟨hkr, by rw [HX.out, btw_no]; omega⟩))))
          go_wp2_with fail
          go_quiet (fail)
          obtain ⟨A', hcut, hrd2⟩ := cut2_run (P := Tryz.prog) (T := 27) (e := 5) (by kernel_rfl) Tryz.underlying27 Tryz.sizeOf5 (some ⟨b2, o2, none⟩) l.length c at_ p (by omega) hkl hlc
          have hpk : p - at_ = k := by have := HP.out; omega
          rw [hpk] at hcut hrd2
          have hcv : ∀ a n, (convert 27 9 (.slice A' k (c - at_))).run Tryz.prog ((wr.drewN a).drewN n) = .ok (.string ⟨u.toArray⟩) ((wr.drewN a).drewN n) := fun a n => by
            have h2 := (hrd2 g wr l rfl hrd1).rd (Nat.le_of_lt hlt1)
            have e2 : (l.drop at_).take k = u := by rw [HR.out]; exact HE.out.symm
            rw [e2] at h2
            exact conv_str (w := (wr.drewN a).drewN n) Tryz.underlying27 Tryz.underlying5 (by rw [HE.out, List.length_take]; omega) h2 9 Tryz.underlying9
          clear hrd2 hpk
          go_wp2_with fail
          have hblk2 := hblk1.drewN nq
          have hrdW : RdIn g (wr.drewN nq) (some ⟨b2, o2, none⟩) (bs l) := hrd1
          have hgW : w.grownBy (wr.drewN nq) (some g) := ⟨hg1.os, hg1.tape, hg1.output, hg1.size, hg1.block⟩
          have hcv2 : ∀ n, (convert 27 9 (.slice A' k (c - at_))).run Tryz.prog ((wr.drewN nq).drewN n) = .ok (.string ⟨u.toArray⟩) ((wr.drewN nq).drewN n) := fun n => hcv nq n
          have hcv0 : (convert 27 9 (.slice A' k (c - at_))).run Tryz.prog (wr.drewN nq) = .ok (.string ⟨u.toArray⟩) (wr.drewN nq) := hcv nq 0
          clear hcv d0 d1 fz1 hg1 hrd1 hblk1
          generalize wr.drewN nq = W at *
          have e0 : W.cell? ⟨g, 0, none⟩ = some (.slice (some ⟨b2, o2, none⟩) l.length c) := hblk2.cell 0
          have e1 : W.cell? ⟨g, 1, none⟩ = some (.int .i64 (p : Int)) := hblk2.cell 1
          go_quiet (fail)
          go_wp2_with fail
          go_ret
          refine ⟨rfl, ⟨p, hkl, ?_, hrdW, hblk2.drewN _⟩, ⟨hgW.os, hgW.tape, hgW.output, hgW.size, hgW.block⟩⟩
          rw [HE.out, List.length_take, Nat.min_eq_left hke, ← HR.out, List.drop_drop, HP.out]
      · have k2 : (m : Int) ≤ (k : Int) := by omega
        have HE := Lib.hid (show u = r.take k from HU.out.symm.trans (runF_end (by omega) hkm HA.out (.inl (by omega))))
        go_wp2_with fail
        go_quiet (fail)
        obtain ⟨A', hcut, hrd2⟩ := cut2_run (P := Tryz.prog) (T := 27) (e := 5) (by kernel_rfl) Tryz.underlying27 Tryz.sizeOf5 (some ⟨b2, o2, none⟩) l.length c at_ p (by omega) hkl hlc
        have hpk : p - at_ = k := by have := HP.out; omega
        rw [hpk] at hcut hrd2
        have hcv : ∀ a n, (convert 27 9 (.slice A' k (c - at_))).run Tryz.prog ((wr.drewN a).drewN n) = .ok (.string ⟨u.toArray⟩) ((wr.drewN a).drewN n) := fun a n => by
          have h2 := (hrd2 g wr l rfl hrd1).rd (Nat.le_of_lt hlt1)
          have e2 : (l.drop at_).take k = u := by rw [HR.out]; exact HE.out.symm
          rw [e2] at h2
          exact conv_str (w := (wr.drewN a).drewN n) Tryz.underlying27 Tryz.underlying5 (by rw [HE.out, List.length_take]; omega) h2 9 Tryz.underlying9
        clear hrd2 hpk
        go_wp2_with fail
        have hblk2 := hblk1.drewN nq
        have hrdW : RdIn g (wr.drewN nq) (some ⟨b2, o2, none⟩) (bs l) := hrd1
        have hgW : w.grownBy (wr.drewN nq) (some g) := ⟨hg1.os, hg1.tape, hg1.output, hg1.size, hg1.block⟩
        have hcv2 : ∀ n, (convert 27 9 (.slice A' k (c - at_))).run Tryz.prog ((wr.drewN nq).drewN n) = .ok (.string ⟨u.toArray⟩) ((wr.drewN nq).drewN n) := fun n => hcv nq n
        have hcv0 : (convert 27 9 (.slice A' k (c - at_))).run Tryz.prog (wr.drewN nq) = .ok (.string ⟨u.toArray⟩) (wr.drewN nq) := hcv nq 0
        clear hcv d0 d1 fz1 hg1 hrd1 hblk1
        generalize wr.drewN nq = W at *
        have e0 : W.cell? ⟨g, 0, none⟩ = some (.slice (some ⟨b2, o2, none⟩) l.length c) := hblk2.cell 0
        have e1 : W.cell? ⟨g, 1, none⟩ = some (.int .i64 (p : Int)) := hblk2.cell 1
        go_quiet (fail)
        go_wp2_with fail
        go_ret
        refine ⟨rfl, ⟨p, hkl, ?_, hrdW, hblk2.drewN _⟩, ⟨hgW.os, hgW.tape, hgW.output, hgW.size, hgW.block⟩⟩
        rw [HE.out, List.length_take, Nat.min_eq_left hke, ← HR.out, List.drop_drop, HP.out]
    · have k1 : (l.length : Int) ≤ (p : Int) := by omega
      have hrl2 := hrl.out
      have hpp := HP.out
      have HE := Lib.hid (show u = r.take k from HU.out.symm.trans (runF_end (by omega) hkm HA.out (.inr (.inl (by omega)))))
      clear hrl2 hpp
      go_wp2_with fail
      go_quiet (fail)
      obtain ⟨A', hcut, hrd2⟩ := cut2_run (P := Tryz.prog) (T := 27) (e := 5) (by kernel_rfl) Tryz.underlying27 Tryz.sizeOf5 A l.length c at_ p (by omega) hkl hlc
      have hpk : p - at_ = k := by have := HP.out; omega
      rw [hpk] at hcut hrd2
      have hcv : ∀ a n, (convert 27 9 (.slice A' k (c - at_))).run Tryz.prog ((wr.drewN a).drewN n) = .ok (.string ⟨u.toArray⟩) ((wr.drewN a).drewN n) := fun a n => by
        have h2 := (hrd2 g wr l rfl hrd1).rd (Nat.le_of_lt hlt1)
        have e2 : (l.drop at_).take k = u := by rw [HR.out]; exact HE.out.symm
        rw [e2] at h2
        exact conv_str (w := (wr.drewN a).drewN n) Tryz.underlying27 Tryz.underlying5 (by rw [HE.out, List.length_take]; omega) h2 9 Tryz.underlying9
      clear hrd2 hpk
      go_wp2_with fail
      have hblk2 := hblk1.drewN nq
      have hrdW : RdIn g (wr.drewN nq) A (bs l) := hrd1
      have hgW : w.grownBy (wr.drewN nq) (some g) := ⟨hg1.os, hg1.tape, hg1.output, hg1.size, hg1.block⟩
      have hcv2 : ∀ n, (convert 27 9 (.slice A' k (c - at_))).run Tryz.prog ((wr.drewN nq).drewN n) = .ok (.string ⟨u.toArray⟩) ((wr.drewN nq).drewN n) := fun n => hcv nq n
      have hcv0 : (convert 27 9 (.slice A' k (c - at_))).run Tryz.prog (wr.drewN nq) = .ok (.string ⟨u.toArray⟩) (wr.drewN nq) := hcv nq 0
      clear hcv d0 d1 fz1 hg1 hrd1 hblk1
      generalize wr.drewN nq = W at *
      have e0 : W.cell? ⟨g, 0, none⟩ = some (.slice A l.length c) := hblk2.cell 0
      have e1 : W.cell? ⟨g, 1, none⟩ = some (.int .i64 (p : Int)) := hblk2.cell 1
      go_quiet (fail)
      go_wp2_with fail
      go_ret
      refine ⟨rfl, ⟨p, hkl, ?_, hrdW, hblk2.drewN _⟩, ⟨hgW.os, hgW.tape, hgW.output, hgW.size, hgW.block⟩⟩
      rw [HE.out, List.length_take, Nat.min_eq_left hke, ← HR.out, List.drop_drop, HP.out]
end Go.Proofs.YtmagokkegadmiaaGreatDoor
