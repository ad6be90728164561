/-
  A region that draws its order, whose operations each yield one value in every world that meets S, and leave a world that meets S (loads, moves, tests, and calls whose answers hang on S alone): one look at each operation serves whatever order is picked. A region that draws its order, in which memory is made: what an operation yields may hang on what the run alone tells (where a new block lies): one look at each operation serves whatever order is picked. A region that draws its order, with one new block that is stored into (and one slice that is handed to a call): what each operation keeps.
-/
import Derived.Test.YtceipblcdcgljaaGreatDoorG01
import Derived.Test.YtceipblcdcgljaaGreatDoorG02
import Derived.Test.YtceipblcdcgljaaGreatDoorG04
import Derived.Orders
import Derived.Laws.StructEq
import Derived.Laws.NewFold
namespace Go.Proofs.YtceipblcdcgljaaGreatDoor
open Go.RowKit
section
section
variable {P : Program} {ops : Array Oper} {Q : Exit → Act → World → Prop} {md : Region.Mode} {S : World → Prop}
def Goes (P : Program) (S : World → Prop) (o : Oper) (a : Act) (v : Value) : Prop := ∀ w, S w →
 (∃ w', (execOp a.eval o).run P w = .ok (.value v) w' ∧ S w') ∨
 (∃ f args w1, (execOp a.eval o).run P w = .ok (.enter f args) w1 ∧ Calls P f args w1 fun e w' => e = .returned v ∧ S w')
def GoesAll (P : Program) (S : World → Prop) (ops : Array Oper) (aF : Act) : Prop :=
 ∀ (i : Nat) (o : Oper), ops[i]? = some o → ∃ v, (∀ d, o.dst = some d → aF.tmps[d]? = some v) ∧ (if Region.wanted o (yielded ops aF.tmps) = true then Goes P S o aF v else v = undef)
def regCheck (md : Region.Mode) (ops : Array Oper) : Bool :=
 (List.range ops.size).all fun i =>
   match ops[i]? with
   | none => true
   | some o => (o.looksAt ops).all (fun t => (List.range ops.size).all fun j => ((ops[j]?).map fun oj => oj.dst != some t || o.after.any fun e => Region.binds md e && e.on == j).getD true) &&
      o.after.all (fun e => !Region.binds md e || decide (e.on < i))
structure Near (ops : Array Oper) (aF : Act) (l : Array Bool) (a : Act) : Prop where
 defers : a.defers = aF.defers
 size : a.tmps.size = aF.tmps.size
 at_ : ∀ t, (∀ (j : Nat) (o : Oper), ops[j]? = some o → o.dst = some t → l.getD j false = true) → a.tmps[t]? = aF.tmps[t]?
theorem unl_set : ∀ (l : List Bool) (i : Nat), l[i]? = some false → (l.set i true).countP (fun b => !b) + 1 = l.countP (fun b => !b)
 | [], _, h => by simp at h
 | b :: l, 0, h => by
   simp at h
   subst h
   simp
 | b :: l, i + 1, h => by
   have := unl_set l i (by simpa using h)
   simp only [List.set_cons_succ, List.countP_cons]
   omega
theorem unl_none (l : List Bool) (h : l.countP (fun b => !b) = 0) : ∀ i, i < l.length → l[i]? = some true := fun i hi => by
 have := List.countP_eq_zero.1 h l[i] (List.getElem_mem hi)
 rw [List.getElem?_eq_getElem hi]
 simpa using this
theorem Near.eq {aF a : Act} {l : Array Bool} (h : Near ops aF l a) (hl : ∀ j, j < ops.size → l.getD j false = true) : a = aF := by
 obtain ⟨t, d⟩ := a
 obtain ⟨t', d'⟩ := aF
 have h1 := h.defers
 have h2 : t = t' := Array.ext_getElem? fun i => h.at_ i fun j o ho _ => hl j (Array.getElem?_eq_some_iff.1 ho).1
 simp only at h1
 rw [h1, h2]
theorem Near.put {aF a : Act} {l : Array Bool} (h : Near ops aF l a) {i : Nat} {o : Oper} (ho : ops[i]? = some o) {v : Value} (hv : ∀ d, o.dst = some d → aF.tmps[d]? = some v) : Near ops aF (l.setIfInBounds i true) (a.put o.dst v) := by
 cases hd : o.dst with
 | none =>
   refine ⟨h.defers, h.size, fun t ht => h.at_ t fun j oj hj hdj => ?_⟩
   have := ht j oj hj hdj
   by_cases hij : i = j
   ·subst hij
    rw [ho] at hj
    obtain rfl := Option.some.inj hj
    rw [hd] at hdj
    cases hdj
   ·rwa [getD_set_ne false hij] at this
 | some d =>
   have hF := hv d hd
   have hlt : d < a.tmps.size := by rw [h.size]; exact (Array.getElem?_eq_some_iff.1 hF).1
   refine ⟨h.defers, by simp [Act.put, h.size], fun t ht => ?_⟩
   show (a.tmps.setIfInBounds d v)[t]? = aF.tmps[t]?
   by_cases hdt : d = t
   ·subst hdt
    rw [Array.getElem?_setIfInBounds_self_of_lt hlt, hF]
   ·rw [Array.getElem?_setIfInBounds_ne hdt]
    refine h.at_ t fun j oj hj hdj => ?_
    have := ht j oj hj hdj
    by_cases hij : i = j
    ·subst hij
     rw [ho] at hj
     obtain rfl := Option.some.inj hj
     rw [hd] at hdj
     exact absurd (Option.some.inj hdj) hdt
    ·rwa [getD_set_ne false hij] at this
theorem Near.eval {aF a : Act} {l : Array Bool} (h : Near ops aF l a) (x : Operand) (hx : ∀ t, x = .tmp t → ∀ (j : Nat) (o : Oper), ops[j]? = some o → o.dst = some t → l.getD j false = true) : a.eval x = aF.eval x := by
 cases x with
 | tmp t =>
   have := h.at_ t (hx t rfl)
   show a.tmps.getD t undef = aF.tmps.getD t undef
   rw [Array.getD_eq_getD_getElem?, Array.getD_eq_getD_getElem?, this]
 | _ => rfl
theorem waits (hc : regCheck md ops = true) {i : Nat} {o : Oper} (ho : ops[i]? = some o) {l : Array Bool} (hr : ∀ e ∈ o.after, Region.binds md e = true → l.getD e.on false = true) {t : Tmp} (ht : t ∈ o.looksAt ops) : ∀ (j : Nat) (oj : Oper), ops[j]? = some oj → oj.dst = some t → l.getD j false = true := fun j oj hj hd => by
 have hi : i < ops.size := (Array.getElem?_eq_some_iff.1 ho).1
 have h1 := List.all_eq_true.1 hc i (List.mem_range.2 hi)
 simp only [ho, Bool.and_eq_true] at h1
 have h2 := List.all_eq_true.1 h1.1 t ht
 have hjs : j < ops.size := (Array.getElem?_eq_some_iff.1 hj).1
 have h3 := List.all_eq_true.1 h2 j (List.mem_range.2 hjs)
 simp only [hj, Option.map_some, Option.getD_some, hd, bne_self_eq_false, Bool.false_or] at h3
 obtain ⟨e, he, hb⟩ := Array.any_eq_true'.1 h3
 simp only [Bool.and_eq_true, beq_iff_eq] at hb
 rw [← hb.2]
 exact hr e he hb.1
theorem wpAny_goes (hc : regCheck md ops = true) (hs : Region.noSelect ops = true) {aF : Act} (hg : GoesAll P S ops aF) (hQ : ∀ w, S w → Q .normal aF w) :
 ∀ (fuel : Nat) (l : Array Bool) (a : Act) (w : World), l.size = ops.size → l.toList.countP (fun b => !b) ≤ fuel → Near ops aF l a → S w → wpAny P md ops Q fuel l a w := by
 have fin : ∀ (l : Array Bool) (a : Act) (w : World), l.size = ops.size → Region.ready md ops l = [] → Near ops aF l a → S w → Q .normal a w := fun l a w hsz hr hn hS => by
  have all : ∀ j, j < ops.size → l.getD j false = true := by
   intro j
   induction j using Nat.strongRecOn with
   | _ j ih =>
     intro hj
     have ho : ops[j]? = some ops[j] := Array.getElem?_eq_getElem hj
     cases hh : l.getD j false with
     | true => rfl
     | false =>
       exfalso
       have hm : j ∈ Region.ready md ops l := mem_ready.2 ⟨by
        rw [Array.getD_eq_getD_getElem?] at hh ⊢
        rw [Array.getElem?_eq_getElem (by omega)] at hh ⊢
        exact hh, ops[j], ho, fun e he hb => by
        have h1 := List.all_eq_true.1 hc j (List.mem_range.2 hj)
        simp only [ho, Bool.and_eq_true] at h1
        have h2 := Array.all_eq_true_iff_forall_mem.1 h1.2 e he
        simp only [hb, Bool.not_true, Bool.false_or, decide_eq_true_eq] at h2
        exact ih e.on h2 (by omega)⟩
       rw [hr] at hm
       cases hm
  rw [hn.eq all]
  exact hQ w hS
 intro fuel
 induction fuel with
 | zero =>
   intro l a w hsz hcnt hn hS
   have h0 := unl_none l.toList (by omega)
   have hr : Region.ready md ops l = [] := by
    rw [List.eq_nil_iff_forall_not_mem]
    intro j hj
    obtain ⟨h1, o, ho, _⟩ := mem_ready.1 hj
    have hlt : j < l.size := by rw [hsz]; exact (Array.getElem?_eq_some_iff.1 ho).1
    have h2 := h0 j (by simpa using hlt)
    rw [Array.getElem?_toList] at h2
    rw [Array.getD_eq_getD_getElem?, h2] at h1
    cases h1
   exact ⟨hr, fin l a w hsz hr hn hS⟩
 | succ fuel ih =>
   intro l a w hsz hcnt hn hS
   refine ⟨fun hr => fin l a w hsz hr hn hS, fun i hi => ?_⟩
   obtain ⟨h1, o, ho, hall⟩ := mem_ready.1 hi
   have hlt : i < l.size := by rw [hsz]; exact (Array.getElem?_eq_some_iff.1 ho).1
   have hli : l.toList[i]? = some false := by
    rw [Array.getElem?_toList, Array.getElem?_eq_getElem hlt]
    rw [Array.getD_eq_getD_getElem?, Array.getElem?_eq_getElem hlt] at h1
    exact congrArg some h1
   have hstep : ∀ (v : Value) (w' : World), (∀ d, o.dst = some d → aF.tmps[d]? = some v) → S w' → wpAny P md ops Q fuel (l.setIfInBounds i true) (a.put o.dst v) w' := fun v w' hv hS' =>
    ih _ _ w' (by simpa using hsz) (by
     have := unl_set l.toList i hli
     rw [Array.toList_setIfInBounds]
     omega) (hn.put ho hv) hS'
   obtain ⟨v, hv, hw⟩ := hg i o ho
   have he : execOp a.eval o = execOp aF.eval o := execOp_congr o (fun cs b => Region.noSelect_spec hs i o cs b ho) fun x hx => hn.eval x fun t ht => waits hc ho hall (by
    subst ht
    exact List.mem_append_left _ (List.mem_filterMap.2 ⟨.tmp t, by simpa using hx, rfl⟩))
   have hwt : Region.wanted o (yielded ops a.tmps) = Region.wanted o (yielded ops aF.tmps) := by
    unfold Region.wanted
    cases hgd : o.guard with
    | none => rfl
    | some gw =>
      obtain ⟨g, want⟩ := gw
      have hy : yielded ops a.tmps g = yielded ops aF.tmps g := by
       unfold yielded
       cases ht : (ops[g]?).bind (·.dst) with
       | none => rfl
       | some t =>
         have := hn.at_ t (waits hc ho hall (by simp [Oper.looksAt, hgd, ht]))
         show (match (some t).bind (a.tmps[·]?) with | some (.bool b) => some b | _ => none) = (match (some t).bind (aF.tmps[·]?) with | some (.bool b) => some b | _ => none)
         simp only [Option.bind_some, this]
      simp only [hy]
   unfold wpOp
   simp only [ho]
   rw [hwt]
   by_cases hq : Region.wanted o (yielded ops aF.tmps) = true
   ·rw [if_pos hq] at hw ⊢
    refine .inl ?_
    unfold Oper.wp
    rw [he]
    rcases hw w hS with ⟨w', hrun, hS'⟩ | ⟨f, args, w1, hrun, hcall⟩
    ·rw [hrun, Oper.upon_value]
     exact hstep v w' hv hS'
    ·rw [hrun, Oper.upon_enter]
     refine hcall.mono ?_
     rintro e w' ⟨rfl, hS'⟩
     exact hstep v w' hv hS'
   ·rw [if_neg hq] at hw ⊢
    rw [hw] at hv
    exact hstep undef w hv hS
theorem wp_region_goes {id : Nat} {a : Act} {w : World} (hm : P.follows .mixedOrders = true) (hc : regCheck .any ops = true) (hs : Region.noSelect ops = true) (aF : Act) (hn : Near ops aF (Array.replicate ops.size false) a) (hS : S w.drew) (hg : GoesAll P S ops aF) (hQ : ∀ w, S w → Q .normal aF w) :
 (Code.region id ops true).wp P Q a w :=
 wp_region_any hm (wpAny_goes hc hs hg hQ ops.size _ a _ (by simp) (by
  refine Nat.le_trans List.countP_le_length ?_
  simp) hn hS)
def goF (a : Act) : List Oper → List Value → Act
 | o :: os, v :: vs => goF (a.put o.dst v) os vs
 | _, _ => a
theorem goF_near (a0 : Act) : ∀ (os : List Oper) (vs : List Value) (a : Act), a.defers = a0.defers → a.tmps.size = a0.tmps.size → (∀ t, (∀ o ∈ os, o.dst ≠ some t) → a.tmps[t]? = a0.tmps[t]? → (goF a os vs).tmps[t]? = a0.tmps[t]?) ∧ (goF a os vs).defers = a0.defers ∧ (goF a os vs).tmps.size = a0.tmps.size
 | [], _, a, h1, h2 => ⟨fun _ _ h => h, h1, h2⟩
 | _ :: _, [], a, h1, h2 => ⟨fun _ _ h => h, h1, h2⟩
 | o :: os, v :: vs, a, h1, h2 => by
   have hd : (a.put o.dst v).defers = a.defers := by cases o.dst <;> rfl
   have hz : (a.put o.dst v).tmps.size = a.tmps.size := by cases o.dst <;> simp [Act.put]
   obtain ⟨q1, q2, q3⟩ := goF_near a0 os vs (a.put o.dst v) (hd.trans h1) (hz.trans h2)
   refine ⟨fun t ht h => q1 t (fun o' ho' => ht o' (List.mem_cons_of_mem _ ho')) ?_, q2, q3⟩
   have hne := ht o (List.mem_cons_self ..)
   rw [← h]
   cases hdst : o.dst with
   | none => rfl
   | some d =>
     show (a.tmps.setIfInBounds d v)[t]? = _
     rw [Array.getElem?_setIfInBounds_ne (fun e => hne (by rw [hdst, e]))]
theorem near_goF (a : Act) (vs : List Value) : Near ops (goF a ops.toList vs) (Array.replicate ops.size false) a := by
 obtain ⟨q1, q2, q3⟩ := goF_near a ops.toList vs a rfl rfl
 refine ⟨q2.symm, q3.symm, fun t ht => (q1 t (fun o ho hd => ?_) rfl).symm⟩
 obtain ⟨i, hi, he⟩ := List.getElem_of_mem ho
 have := ht i o (by rw [← Array.getElem?_toList, List.getElem?_eq_getElem hi, he]) hd
 rw [Array.getD_eq_getD_getElem?, Array.getElem?_replicate] at this
 split at this <;> cases this
theorem near_of {a aF : Act} (vs : List Value) (h : goF a ops.toList vs = aF) : Near ops aF (Array.replicate ops.size false) a := by
 rw [← h]
 exact near_goF a vs
theorem goesAll_of {aF : Act} (h : ∀ o ∈ ops.toList, ∃ v, (∀ d, o.dst = some d → aF.tmps[d]? = some v) ∧ (if Region.wanted o (yielded ops aF.tmps) = true then Goes P S o aF v else v = undef)) : GoesAll P S ops aF := fun i o ho => h o (by
 rw [← Array.getElem?_toList] at ho
 exact List.mem_of_getElem? ho)
theorem goes_at {aF : Act} {o : Oper} {d : Tmp} (v : Value) (hd : o.dst = some d) (ht : aF.tmps[d]? = some v) (hw : Region.wanted o (yielded ops aF.tmps) = true) (hg : Goes P S o aF v) :
 ∃ v, (∀ d, o.dst = some d → aF.tmps[d]? = some v) ∧ (if Region.wanted o (yielded ops aF.tmps) = true then Goes P S o aF v else v = undef) :=
 ⟨v, fun d' hd' => by rw [hd] at hd'; cases hd'; exact ht, by rw [if_pos hw]; exact hg⟩
theorem goes_val {aF : Act} {o : Oper} {v : Value} (h : ∀ w, S w → (execOp aF.eval o).run P w = .ok (.value v) w) : Goes P S o aF v := fun w hS => .inl ⟨w, h w hS, hS⟩
theorem goes_load {aF : Act} {o : Oper} {ty : TypeId} {x : Operand} {g : Nat} {cs : Array Value} {d : TypeDesc} (ho : o.op = .load ty x) (hx : aF.eval x = .pointer (some ⟨g, 0, none⟩)) (hk : ∀ w, S w → Blk w g ty cs) (hu : P.underlying ty = some d) (hd : d.isRow = true) (hi : (P.info? ty).map (·.size) = some cs.size) : Goes P S o aF (.agg cs) :=
 goes_val fun w hS => by
  unfold execOp
  simp only [ho, hx, Instr.loadAt, Instr.sureAddr, Sem.run_bind, Sem.run_pure, Result.andThen_ok, run_loadVar_mid w g 0 ty cs.toList d (hk w hS).range hu hd (by rw [hi]; simp)]
theorem goes_call {aF : Act} {o : Oper} {v : Value} {f : FuncId} {args : Array Value} (hr : ∀ w, (execOp aF.eval o).run P w = .ok (.enter f args) w) (hc : ∀ w, S w → Calls P f args w fun e w' => e = .returned v ∧ Below w.heap.size w w') (hS : ∀ w w', S w → Below w.heap.size w w' → S w') : Goes P S o aF v := fun w hw =>
 .inr ⟨f, args, w, hr w, (hc w hw).mono fun _ _ ⟨h1, h2⟩ => ⟨h1, hS w _ hw h2⟩⟩
end
end
section
section
variable {P : Program} {ops : Array Oper} {Q : Exit → Act → World → Prop} {md : Region.Mode}
def upd (g : Tmp → Value) (d : Tmp) (v : Value) : Tmp → Value := fun t => if t = d then v else g t
theorem upd_at (g : Tmp → Value) (d : Tmp) (v : Value) : upd g d v d = v := if_pos rfl
theorem upd_ne (g : Tmp → Value) {d t : Tmp} (v : Value) (h : t ≠ d) : upd g d v t = g t := if_neg h
def fillT (g : Tmp → Value) : List Tmp → Array Value → Array Value
 | [], t => t
 | d :: ds, t => fillT g ds (t.setIfInBounds d (g d))
def fillA (a : Act) (ds : List Tmp) (g : Tmp → Value) : Act := ⟨fillT g ds a.tmps, a.defers⟩
theorem fillT_size (g : Tmp → Value) : ∀ (ds : List Tmp) (t : Array Value), (fillT g ds t).size = t.size
 | [], _ => rfl
 | d :: ds, t => by
   show (fillT g ds _).size = _
   rw [fillT_size g ds, Array.size_setIfInBounds]
theorem fillT_other (g : Tmp → Value) (d : Tmp) (v : Value) {t : Tmp} (ht : t ≠ d) : ∀ (ds : List Tmp) (s s' : Array Value), s.size = s'.size → s[t]? = s'[t]? → (fillT (upd g d v) ds s)[t]? = (fillT g ds s')[t]?
 | [], _, _, _, h => h
 | x :: ds, s, s', hz, h => by
   refine fillT_other g d v ht ds _ _ (by simp [hz]) ?_
   by_cases hx : x = t
   ·subst hx
    rw [upd_ne g v ht]
    by_cases hl : x < s.size
    ·rw [Array.getElem?_setIfInBounds_self_of_lt hl, Array.getElem?_setIfInBounds_self_of_lt (hz ▸ hl)]
    ·rw [Array.getElem?_eq_none (by rw [Array.size_setIfInBounds]; exact Nat.le_of_not_lt hl), Array.getElem?_eq_none (by rw [Array.size_setIfInBounds, ← hz]; exact Nat.le_of_not_lt hl)]
   ·rw [Array.getElem?_setIfInBounds_ne hx, Array.getElem?_setIfInBounds_ne hx, h]
def After (aF : (Tmp → Value) → Act) (S : Array Bool → (Tmp → Value) → World → Prop) (i : Nat) (o : Oper) (l : Array Bool) (g : Tmp → Value) (v : Value) (w : World) : Prop :=
 ∃ g', (g' = g ∨ ∃ d u, o.dst = some d ∧ g' = upd g d u) ∧ (∀ d, o.dst = some d → (aF g').tmps[d]? = some v) ∧ S (l.setIfInBounds i true) g' w
def GoesM (P : Program) (md : Region.Mode) (ops : Array Oper) (aF : (Tmp → Value) → Act) (S : Array Bool → (Tmp → Value) → World → Prop) (i : Nat) (o : Oper) : Prop :=
 ∀ l g w, l.size = ops.size → l.getD i false = false → (∀ e ∈ o.after, Region.binds md e = true → l.getD e.on false = true) → S l g w →
   if Region.wanted o (yielded ops (aF g).tmps) = true then
    (∃ v w', ((execOp (aF g).eval o).run P w = .ok (.value v) w' ∨ ((execOp (aF g).eval o).run P w = .ok .skip w' ∧ v = undef)) ∧ After aF S i o l g v w') ∨
    (∃ f args w1, (execOp (aF g).eval o).run P w = .ok (.enter f args) w1 ∧ Calls P f args w1 fun e w' => ∃ v, e = .returned v ∧ After aF S i o l g v w')
   else After aF S i o l g undef w
def GoesAllM (P : Program) (md : Region.Mode) (ops : Array Oper) (aF : (Tmp → Value) → Act) (S : Array Bool → (Tmp → Value) → World → Prop) : Prop :=
 ∀ (i : Nat) (o : Oper), ops[i]? = some o → GoesM P md ops aF S i o
theorem Near.turn {aF : (Tmp → Value) → Act} (hF : ∀ g d v, (∀ t, t ≠ d → (aF (upd g d v)).tmps[t]? = (aF g).tmps[t]?) ∧ (aF (upd g d v)).defers = (aF g).defers ∧ (aF (upd g d v)).tmps.size = (aF g).tmps.size)
 {g g' : Tmp → Value} {l : Array Bool} {a : Act} {i : Nat} {o : Oper} (ho : ops[i]? = some o) (hl : l.getD i false = false) (hg : g' = g ∨ ∃ d u, o.dst = some d ∧ g' = upd g d u) (h : Near ops (aF g) l a) : Near ops (aF g') l a := by
 rcases hg with rfl | ⟨d, u, hd, rfl⟩
 ·exact h
 ·obtain ⟨h1, h2, h3⟩ := hF g d u
  refine ⟨h.defers.trans h2.symm, h.size.trans h3.symm, fun t ht => ?_⟩
  have hne : t ≠ d := fun e => by
   have := ht i o ho (by rw [hd, e])
   rw [hl] at this
   cases this
  rw [h1 t hne]
  exact h.at_ t ht
theorem wpAny_made (hc : regCheck md ops = true) (hs : Region.noSelect ops = true) {aF : (Tmp → Value) → Act} {S : Array Bool → (Tmp → Value) → World → Prop}
 (hF : ∀ g d v, (∀ t, t ≠ d → (aF (upd g d v)).tmps[t]? = (aF g).tmps[t]?) ∧ (aF (upd g d v)).defers = (aF g).defers ∧ (aF (upd g d v)).tmps.size = (aF g).tmps.size)
 (hg : GoesAllM P md ops aF S) (hQ : ∀ l g w, (∀ j, j < ops.size → l.getD j false = true) → S l g w → Q .normal (aF g) w) :
 ∀ (fuel : Nat) (l : Array Bool) (a : Act) (w : World), l.size = ops.size → l.toList.countP (fun b => !b) ≤ fuel → (∃ g, Near ops (aF g) l a ∧ S l g w) → wpAny P md ops Q fuel l a w := by
 have fin : ∀ (l : Array Bool) (a : Act) (w : World), l.size = ops.size → Region.ready md ops l = [] → (∃ g, Near ops (aF g) l a ∧ S l g w) → Q .normal a w := fun l a w hsz hr ⟨g, hn, hS⟩ => by
  have all : ∀ j, j < ops.size → l.getD j false = true := by
   intro j
   induction j using Nat.strongRecOn with
   | _ j ih =>
     intro hj
     have ho : ops[j]? = some ops[j] := Array.getElem?_eq_getElem hj
     cases hh : l.getD j false with
     | true => rfl
     | false =>
       exfalso
       have hm : j ∈ Region.ready md ops l := mem_ready.2 ⟨by
        rw [Array.getD_eq_getD_getElem?] at hh ⊢
        rw [Array.getElem?_eq_getElem (by omega)] at hh ⊢
        exact hh, ops[j], ho, fun e he hb => by
        have h1 := List.all_eq_true.1 hc j (List.mem_range.2 hj)
        simp only [ho, Bool.and_eq_true] at h1
        have h2 := Array.all_eq_true_iff_forall_mem.1 h1.2 e he
        simp only [hb, Bool.not_true, Bool.false_or, decide_eq_true_eq] at h2
        exact ih e.on h2 (by omega)⟩
       rw [hr] at hm
       cases hm
  rw [hn.eq all]
  exact hQ l g w all hS
 intro fuel
 induction fuel with
 | zero =>
   intro l a w hsz hcnt hn
   have h0 := unl_none l.toList (by omega)
   have hr : Region.ready md ops l = [] := by
    rw [List.eq_nil_iff_forall_not_mem]
    intro j hj
    obtain ⟨h1, o, ho, _⟩ := mem_ready.1 hj
    have hlt : j < l.size := by rw [hsz]; exact (Array.getElem?_eq_some_iff.1 ho).1
    have h2 := h0 j (by simpa using hlt)
    rw [Array.getElem?_toList] at h2
    rw [Array.getD_eq_getD_getElem?, h2] at h1
    cases h1
   exact ⟨hr, fin l a w hsz hr hn⟩
 | succ fuel ih =>
   intro l a w hsz hcnt hnn
   refine ⟨fun hr => fin l a w hsz hr hnn, fun i hi => ?_⟩
   obtain ⟨g, hn, hS⟩ := hnn
   obtain ⟨h1, o, ho, hall⟩ := mem_ready.1 hi
   have hlt : i < l.size := by rw [hsz]; exact (Array.getElem?_eq_some_iff.1 ho).1
   have hli : l.toList[i]? = some false := by
    rw [Array.getElem?_toList, Array.getElem?_eq_getElem hlt]
    rw [Array.getD_eq_getD_getElem?, Array.getElem?_eq_getElem hlt] at h1
    exact congrArg some h1
   have h1f : l.getD i false = false := by
    rw [Array.getD_eq_getD_getElem?, ← Array.getElem?_toList, hli]
    rfl
   have hstep : ∀ (v : Value) (w' : World), After aF S i o l g v w' → wpAny P md ops Q fuel (l.setIfInBounds i true) (a.put o.dst v) w' := fun v w' ⟨g', hg', hv, hS'⟩ =>
    ih _ _ w' (by simpa using hsz) (by
     have := unl_set l.toList i hli
     rw [Array.toList_setIfInBounds]
     omega) ⟨g', (hn.turn hF ho h1f hg').put ho hv, hS'⟩
   have hw := hg i o ho l g w hsz h1f hall hS
   have he : execOp a.eval o = execOp (aF g).eval o := execOp_congr o (fun cs b => Region.noSelect_spec hs i o cs b ho) fun x hx => hn.eval x fun t ht => waits hc ho hall (by
    subst ht
    exact List.mem_append_left _ (List.mem_filterMap.2 ⟨.tmp t, by simpa using hx, rfl⟩))
   have hwt : Region.wanted o (yielded ops a.tmps) = Region.wanted o (yielded ops (aF g).tmps) := by
    unfold Region.wanted
    cases hgd : o.guard with
    | none => rfl
    | some gw =>
      obtain ⟨gg, want⟩ := gw
      have hy : yielded ops a.tmps gg = yielded ops (aF g).tmps gg := by
       unfold yielded
       cases ht : (ops[gg]?).bind (·.dst) with
       | none => rfl
       | some t =>
         have := hn.at_ t (waits hc ho hall (by simp [Oper.looksAt, hgd, ht]))
         show (match (some t).bind (a.tmps[·]?) with | some (.bool b) => some b | _ => none) = (match (some t).bind ((aF g).tmps[·]?) with | some (.bool b) => some b | _ => none)
         simp only [Option.bind_some, this]
      simp only [hy]
   unfold wpOp
   simp only [ho]
   rw [hwt]
   by_cases hq : Region.wanted o (yielded ops (aF g).tmps) = true
   ·rw [if_pos hq] at hw ⊢
    refine .inl ?_
    unfold Oper.wp
    rw [he]
    rcases hw with ⟨v, w', hrun | ⟨hrun, rfl⟩, hA⟩ | ⟨f, args, w1, hrun, hcall⟩
    ·rw [hrun, Oper.upon_value]
     exact hstep v w' hA
    ·rw [hrun, Oper.upon_skip]
     exact hstep undef w' hA
    ·rw [hrun, Oper.upon_enter]
     refine hcall.mono ?_
     rintro e w' ⟨v, rfl, hA⟩
     exact hstep v w' hA
   ·rw [if_neg hq] at hw ⊢
    exact hstep undef w hw
theorem fill_turn (a0 : Act) (ds : List Tmp) (g : Tmp → Value) (d : Tmp) (v : Value) : (∀ t, t ≠ d → (fillA a0 ds (upd g d v)).tmps[t]? = (fillA a0 ds g).tmps[t]?) ∧ (fillA a0 ds (upd g d v)).defers = (fillA a0 ds g).defers ∧ (fillA a0 ds (upd g d v)).tmps.size = (fillA a0 ds g).tmps.size :=
 ⟨fun _ ht => fillT_other g d v ht ds _ _ rfl rfl, rfl, by simp [fillA, fillT_size]⟩
theorem wp_region_made {id : Nat} {a a0 : Act} {w : World} {S : Array Bool → (Tmp → Value) → World → Prop} (ds : List Tmp) (hm : P.follows .mixedOrders = true) (hc : regCheck .any ops = true) (hs : Region.noSelect ops = true)
 (g0 : Tmp → Value) (hn : Near ops (fillA a0 ds g0) (Array.replicate ops.size false) a) (hS : S (Array.replicate ops.size false) g0 w.drew) (hg : GoesAllM P .any ops (fillA a0 ds) S)
 (hQ : ∀ l g w, (∀ j, j < ops.size → l.getD j false = true) → S l g w → Q .normal (fillA a0 ds g) w) :
 (Code.region id ops true).wp P Q a w :=
 wp_region_any hm (wpAny_made hc hs (fill_turn a0 ds) hg hQ ops.size _ a _ (by simp) (by
  refine Nat.le_trans List.countP_le_length ?_
  simp) ⟨g0, hn, hS⟩)
end
end
section
section
variable {P : Program} {ops : Array Oper} {md : Region.Mode}
theorem getD_up {l : Array Bool} {i j : Nat} (h : l.getD j false = true) : (l.setIfInBounds i true).getD j false = true := by
 by_cases hij : i = j
 ·subst hij
  have hlt : i < l.size := by
   rcases Nat.lt_or_ge i l.size with h1 | h1
   ·exact h1
   ·rw [Array.getD_eq_getD_getElem?, Array.getElem?_eq_none h1] at h
    cases h
  rw [Array.getD_eq_getD_getElem?, Array.getElem?_setIfInBounds_self_of_lt hlt]
  rfl
 ·rw [getD_set_ne false hij]
  exact h
theorem getD_dn {l : Array Bool} {i j : Nat} (h : (l.setIfInBounds i true).getD j false = false) : l.getD j false = false := by
 cases hh : l.getD j false with
 | false => rfl
 | true =>
   rw [getD_up hh] at h
   cases h
theorem getD_self {l : Array Bool} {i : Nat} (h : i < l.size) : (l.setIfInBounds i true).getD i false = true := by
 rw [Array.getD_eq_getD_getElem?, Array.getElem?_setIfInBounds_self_of_lt h]
 rfl
structure SM (w1 : World) (ia iz : Nat) (d : Tmp) (ty : TypeId) (z cs : Array Value) (ih ic : Nat) (dh : Tmp) (n : Nat) (xs : List Value) (l : Array Bool) (g : Tmp → Value) (w : World) : Prop where
 below : Below w1.heap.size w1 w
 made : l.getD ia false = true → ∃ b, g d = .pointer (some ⟨b, 0, none⟩) ∧ w1.heap.size ≤ b ∧ Blk w b ty (if l.getD iz false = true then cs else z)
 hand : l.getD ih false = true → l.getD ic false = false → ∃ A c, g dh = .slice A n c ∧ Rd w A xs
 turn : l.getD iz false = true → l.getD ia false = true
variable {w1 : World} {ia iz : Nat} {d : Tmp} {ty : TypeId} {z cs : Array Value} {ih ic : Nat} {dh : Tmp} {n : Nat} {xs : List Value} {l : Array Bool} {g : Tmp → Value} {w w' : World} {aF : (Tmp → Value) → Act} {i : Nat} {o : Oper}
theorem SM.quiet (h : SM w1 ia iz d ty z cs ih ic dh n xs l g w) (hb : Below w.heap.size w w') (hia : i ≠ ia) (hiz : i ≠ iz) (hih : i ≠ ih) : SM w1 ia iz d ty z cs ih ic dh n xs (l.setIfInBounds i true) g w' := by
 refine ⟨h.below.trans (hb.mono h.below.size), fun ha => ?_, fun ha hc => ?_, fun hz => ?_⟩
 ·rw [getD_set_ne false hia] at ha
  obtain ⟨b, h1, h2, h3⟩ := h.made ha
  refine ⟨b, h1, h2, ?_⟩
  rw [getD_set_ne false hiz]
  exact h3.below hb h3.lt
 ·rw [getD_set_ne false hih] at ha
  obtain ⟨A, c, h1, h2⟩ := h.hand ha (getD_dn hc)
  exact ⟨A, c, h1, h2.below hb⟩
 ·rw [getD_set_ne false hiz] at hz
  exact getD_up (h.turn hz)
theorem no_laid (k j : Nat) : (Array.replicate k false).getD j false = false := by
 rw [Array.getD_eq_getD_getElem?, Array.getElem?_replicate]
 split <;> rfl
theorem SM.zero (w1 : World) (hb : Below w1.heap.size w1 w) (k : Nat) : SM w1 ia iz d ty z cs ih ic dh n xs (Array.replicate k false) g w :=
 ⟨hb, (fun h => by rw [no_laid] at h; cases h), (fun h => by rw [no_laid] at h; cases h), (fun h => by rw [no_laid] at h; cases h)⟩
def GoesL (P : Program) (md : Region.Mode) (ops : Array Oper) (aF : (Tmp → Value) → Act) (S : Array Bool → (Tmp → Value) → World → Prop) : Nat → List Oper → Prop
 | _, [] => True
 | i, o :: os => GoesM P md ops aF S i o ∧ GoesL P md ops aF S (i + 1) os
theorem goes_cons {S : Array Bool → (Tmp → Value) → World → Prop} {os : List Oper} (h : GoesM P md ops aF S i o) (hs : GoesL P md ops aF S (i + 1) os) : GoesL P md ops aF S i (o :: os) := ⟨h, hs⟩
theorem goes_nil {S : Array Bool → (Tmp → Value) → World → Prop} : GoesL P md ops aF S i [] := trivial
theorem goesL_get {S : Array Bool → (Tmp → Value) → World → Prop} : ∀ (os : List Oper) (k : Nat), GoesL P md ops aF S k os → ∀ (j : Nat) (o : Oper), os[j]? = some o → GoesM P md ops aF S (k + j) o
 | [], _, _, _, _, h => by simp at h
 | x :: os, k, h, 0, o, ho => by
   simp at ho
   subst ho
   exact h.1
 | x :: os, k, h, j + 1, o, ho => by
   have := goesL_get os (k + 1) h.2 j o (by simpa using ho)
   rwa [show k + 1 + j = k + (j + 1) by omega] at this
theorem goesAllM_of_list {S : Array Bool → (Tmp → Value) → World → Prop} (h : GoesL P md ops aF S 0 ops.toList) : GoesAllM P md ops aF S := fun i o ho => by
 have := goesL_get ops.toList 0 h i o (by rw [← ho, Array.getElem?_toList])
 rwa [Nat.zero_add] at this
theorem run_loadVar_one {t : TypeId} {a : Addr} {v : Value} {w : World} (hag : ∀ w, (isAgg t).run P w = .ok false w) (hc : w.cell? a = some v) : (loadVar t a).run P w = .ok v w := by
 simp [loadVar, hag, hc, Result.andThen]
end
end
end Go.Proofs.YtceipblcdcgljaaGreatDoor
