/-
  A region that draws its order, whose operations each yield one value in every world that meets S, and leave a world that meets S (loads, moves, tests, and calls whose answers hang on S alone): one look at each operation serves whatever order is picked. Layer 3, walked: the program's Num. Layer 2, walked: the size of a code point, and of what begins with a byte.
-/
import Derived.Test.YtbjmfhcgkpjcfaaGreatDoorG01
import Derived.Test.YtbjmfhcgkpjcfaaGreatDoorG03
import Derived.Test.YtbjmfhcgkpjcfaaGreatDoorG11
import Derived.Test.YtbjmfhcgkpjcfaaGreatDoorG15
import Derived.Test.YtbjmfhcgkpjcfaaGreatDoorG17
import Derived.Orders
import Derived.Laws.StructEq
import Derived.Deep.Cut
import Derived.Laws.Rows
namespace Go.Proofs.YtbjmfhcgkpjcfaaGreatDoor
open Go.RowKit

section
variable {P : Program} {ops : Array Oper} {Q : Exit → Act → World → Prop} {md : Region.Mode} {S : World → Prop}

/-- What an operation does in every world that meets S. -/
def Goes (P : Program) (S : World → Prop) (o : Oper) (a : Act) (v : Value) : Prop := ∀ w, S w →
  (∃ w', (execOp a.eval o).run P w = .ok (.value v) w' ∧ S w') ∨
  (∃ f args w1, (execOp a.eval o).run P w = .ok (.enter f args) w1 ∧ Calls P f args w1 fun e w' => e = .returned v ∧ S w')
/-- All operations, seen from the frame in which all have come up. -/
def GoesAll (P : Program) (S : World → Prop) (ops : Array Oper) (aF : Act) : Prop :=
  ∀ (i : Nat) (o : Oper), ops[i]? = some o → ∃ v, (∀ d, o.dst = some d → aF.tmps[d]? = some v) ∧ (if Region.wanted o (yielded ops aF.tmps) = true then Goes P S o aF v else v = undef)
/-- What an operation looks at is written, if at all, by those that it waits for; edges go back. -/
def regCheck (md : Region.Mode) (ops : Array Oper) : Bool :=
  (List.range ops.size).all fun i =>
    match ops[i]? with
    | none => true
    | some o => (o.looksAt ops).all (fun t => (List.range ops.size).all fun j => ((ops[j]?).map fun oj => oj.dst != some t || o.after.any fun e => Region.binds md e && e.on == j).getD true) &&
        o.after.all (fun e => !Region.binds md e || decide (e.on < i))
/-- The frame agrees with the last one in all slots whose writers have come up. -/
structure Near (ops : Array Oper) (aF : Act) (l : Array Bool) (a : Act) : Prop where
  defers : a.defers = aF.defers
  size : a.tmps.size = aF.tmps.size
  at_ : ∀ t, (∀ (j : Nat) (o : Oper), ops[j]? = some o → o.dst = some t → l.getD j false = true) → a.tmps[t]? = aF.tmps[t]?
theorem unl_set : ∀ (l : List Bool) (i : Nat), l[i]? = some false → (l.set i true).countP (fun b => !b) + 1 = l.countP (fun b => !b)
  | [], _, h => by simp at h
  | b :: l, 0, h => by
    simp at h
    subst h
    simp
  | b :: l, i + 1, h => by
    have := unl_set l i (by simpa using h)
    simp only [List.set_cons_succ, List.countP_cons]
    omega
theorem unl_none (l : List Bool) (h : l.countP (fun b => !b) = 0) : ∀ i, i < l.length → l[i]? = some true := fun i hi => by
  have := List.countP_eq_zero.1 h l[i] (List.getElem_mem hi)
  rw [List.getElem?_eq_getElem hi]
  simpa using this
theorem Near.eq {aF a : Act} {l : Array Bool} (h : Near ops aF l a) (hl : ∀ j, j < ops.size → l.getD j false = true) : a = aF := by
  obtain ⟨t, d⟩ := a
  obtain ⟨t', d'⟩ := aF
  have h1 := h.defers
  have h2 : t = t' := Array.ext_getElem? fun i => h.at_ i fun j o ho _ => hl j (Array.getElem?_eq_some_iff.1 ho).1
  simp only at h1
  rw [h1, h2]
theorem Near.put {aF a : Act} {l : Array Bool} (h : Near ops aF l a) {i : Nat} {o : Oper} (ho : ops[i]? = some o) {v : Value} (hv : ∀ d, o.dst = some d → aF.tmps[d]? = some v) : Near ops aF (l.setIfInBounds i true) (a.put o.dst v) := by
  cases hd : o.dst with
  | none =>
    refine ⟨h.defers, h.size, fun t ht => h.at_ t fun j oj hj hdj => ?_⟩
    have := ht j oj hj hdj
    by_cases hij : i = j
    · subst hij
      rw [ho] at hj
      obtain rfl := Option.some.inj hj
      rw [hd] at hdj
      cases hdj
    · rwa [getD_set_ne false hij] at this
  | some d =>
    have hF := hv d hd
    have hlt : d < a.tmps.size := by rw [h.size]; exact (Array.getElem?_eq_some_iff.1 hF).1
    refine ⟨h.defers, by simp [Act.put, h.size], fun t ht => ?_⟩
    show (a.tmps.setIfInBounds d v)[t]? = aF.tmps[t]?
    by_cases hdt : d = t
    · subst hdt
      rw [Array.getElem?_setIfInBounds_self_of_lt hlt, hF]
    · rw [Array.getElem?_setIfInBounds_ne hdt]
      refine h.at_ t fun j oj hj hdj => ?_
      have := ht j oj hj hdj
      by_cases hij : i = j
      · subst hij
        rw [ho] at hj
        obtain rfl := Option.some.inj hj
        rw [hd] at hdj
        exact absurd (Option.some.inj hdj) hdt
      · rwa [getD_set_ne false hij] at this
theorem Near.eval {aF a : Act} {l : Array Bool} (h : Near ops aF l a) (x : Operand) (hx : ∀ t, x = .tmp t → ∀ (j : Nat) (o : Oper), ops[j]? = some o → o.dst = some t → l.getD j false = true) : a.eval x = aF.eval x := by
  cases x with
  | tmp t =>
    have := h.at_ t (hx t rfl)
    show a.tmps.getD t undef = aF.tmps.getD t undef
    rw [Array.getD_eq_getD_getElem?, Array.getD_eq_getD_getElem?, this]
  | _ => rfl
theorem waits (hc : regCheck md ops = true) {i : Nat} {o : Oper} (ho : ops[i]? = some o) {l : Array Bool} (hr : ∀ e ∈ o.after, Region.binds md e = true → l.getD e.on false = true) {t : Tmp} (ht : t ∈ o.looksAt ops) : ∀ (j : Nat) (oj : Oper), ops[j]? = some oj → oj.dst = some t → l.getD j false = true := fun j oj hj hd => by
  have hi : i < ops.size := (Array.getElem?_eq_some_iff.1 ho).1
  have h1 := List.all_eq_true.1 hc i (List.mem_range.2 hi)
  simp only [ho, Bool.and_eq_true] at h1
  have h2 := List.all_eq_true.1 h1.1 t ht
  have hjs : j < ops.size := (Array.getElem?_eq_some_iff.1 hj).1
  have h3 := List.all_eq_true.1 h2 j (List.mem_range.2 hjs)
  simp only [hj, Option.map_some, Option.getD_some, hd, bne_self_eq_false, Bool.false_or] at h3
  obtain ⟨e, he, hb⟩ := Array.any_eq_true'.1 h3
  simp only [Bool.and_eq_true, beq_iff_eq] at hb
  rw [← hb.2]
  exact hr e he hb.1
theorem wpAny_goes (hc : regCheck md ops = true) (hs : Region.noSelect ops = true) {aF : Act} (hg : GoesAll P S ops aF) (hQ : ∀ w, S w → Q .normal aF w) :
    ∀ (fuel : Nat) (l : Array Bool) (a : Act) (w : World), l.size = ops.size → l.toList.countP (fun b => !b) ≤ fuel → Near ops aF l a → S w → wpAny P md ops Q fuel l a w := by
  have fin : ∀ (l : Array Bool) (a : Act) (w : World), l.size = ops.size → Region.ready md ops l = [] → Near ops aF l a → S w → Q .normal a w := fun l a w hsz hr hn hS => by
    have all : ∀ j, j < ops.size → l.getD j false = true := by
      intro j
      induction j using Nat.strongRecOn with
      | _ j ih =>
        intro hj
        have ho : ops[j]? = some ops[j] := Array.getElem?_eq_getElem hj
        cases hh : l.getD j false with
        | true => rfl
        | false =>
          exfalso
          have hm : j ∈ Region.ready md ops l := mem_ready.2 ⟨by
            rw [Array.getD_eq_getD_getElem?] at hh ⊢
            rw [Array.getElem?_eq_getElem (by omega)] at hh ⊢
            exact hh, ops[j], ho, fun e he hb => by
            have h1 := List.all_eq_true.1 hc j (List.mem_range.2 hj)
            simp only [ho, Bool.and_eq_true] at h1
            have h2 := Array.all_eq_true_iff_forall_mem.1 h1.2 e he
            simp only [hb, Bool.not_true, Bool.false_or, decide_eq_true_eq] at h2
            exact ih e.on h2 (by omega)⟩
          rw [hr] at hm
          cases hm
    rw [hn.eq all]
    exact hQ w hS
  intro fuel
  induction fuel with
  | zero =>
    intro l a w hsz hcnt hn hS
    have h0 := unl_none l.toList (by omega)
    have hr : Region.ready md ops l = [] := by
      rw [List.eq_nil_iff_forall_not_mem]
      intro j hj
      obtain ⟨h1, o, ho, _⟩ := mem_ready.1 hj
      have hlt : j < l.size := by rw [hsz]; exact (Array.getElem?_eq_some_iff.1 ho).1
      have h2 := h0 j (by simpa using hlt)
      rw [Array.getElem?_toList] at h2
      rw [Array.getD_eq_getD_getElem?, h2] at h1
      cases h1
    exact ⟨hr, fin l a w hsz hr hn hS⟩
  | succ fuel ih =>
    intro l a w hsz hcnt hn hS
    refine ⟨fun hr => fin l a w hsz hr hn hS, fun i hi => ?_⟩
    obtain ⟨h1, o, ho, hall⟩ := mem_ready.1 hi
    have hlt : i < l.size := by rw [hsz]; exact (Array.getElem?_eq_some_iff.1 ho).1
    have hli : l.toList[i]? = some false := by
      rw [Array.getElem?_toList, Array.getElem?_eq_getElem hlt]
      rw [Array.getD_eq_getD_getElem?, Array.getElem?_eq_getElem hlt] at h1
      exact congrArg some h1
    have hstep : ∀ (v : Value) (w' : World), (∀ d, o.dst = some d → aF.tmps[d]? = some v) → S w' → wpAny P md ops Q fuel (l.setIfInBounds i true) (a.put o.dst v) w' := fun v w' hv hS' =>
      ih _ _ w' (by simpa using hsz) (by
        have := unl_set l.toList i hli
        rw [Array.toList_setIfInBounds]
        omega) (hn.put ho hv) hS'
    obtain ⟨v, hv, hw⟩ := hg i o ho
    have he : execOp a.eval o = execOp aF.eval o := execOp_congr o (fun cs b => Region.noSelect_spec hs i o cs b ho) fun x hx => hn.eval x fun t ht => waits hc ho hall (by
      subst ht
      exact List.mem_append_left _ (List.mem_filterMap.2 ⟨.tmp t, by simpa using hx, rfl⟩))
    have hwt : Region.wanted o (yielded ops a.tmps) = Region.wanted o (yielded ops aF.tmps) := by
      unfold Region.wanted
      cases hgd : o.guard with
      | none => rfl
      | some gw =>
        obtain ⟨g, want⟩ := gw
        have hy : yielded ops a.tmps g = yielded ops aF.tmps g := by
          unfold yielded
          cases ht : (ops[g]?).bind (·.dst) with
          | none => rfl
          | some t =>
            have := hn.at_ t (waits hc ho hall (by simp [Oper.looksAt, hgd, ht]))
            show (match (some t).bind (a.tmps[·]?) with | some (.bool b) => some b | _ => none) = (match (some t).bind (aF.tmps[·]?) with | some (.bool b) => some b | _ => none)
            simp only [Option.bind_some, this]
        simp only [hy]
    unfold wpOp
    simp only [ho]
    rw [hwt]
    by_cases hq : Region.wanted o (yielded ops aF.tmps) = true
    · rw [if_pos hq] at hw ⊢
      refine .inl ?_
      unfold Oper.wp
      rw [he]
      rcases hw w hS with ⟨w', hrun, hS'⟩ | ⟨f, args, w1, hrun, hcall⟩
      · rw [hrun, Oper.upon_value]
        exact hstep v w' hv hS'
      · rw [hrun, Oper.upon_enter]
        refine hcall.mono ?_
        rintro e w' ⟨rfl, hS'⟩
        exact hstep v w' hv hS'
    · rw [if_neg hq] at hw ⊢
      rw [hw] at hv
      exact hstep undef w hv hS
/-- The region, whatever order is picked. -/
theorem wp_region_goes {id : Nat} {a : Act} {w : World} (hm : P.follows .mixedOrders = true) (hc : regCheck .any ops = true) (hs : Region.noSelect ops = true) (aF : Act) (hn : Near ops aF (Array.replicate ops.size false) a) (hS : S w.drew) (hg : GoesAll P S ops aF) (hQ : ∀ w, S w → Q .normal aF w) :
    (Code.region id ops true).wp P Q a w :=
  wp_region_any hm (wpAny_goes hc hs hg hQ ops.size _ a _ (by simp) (by
    refine Nat.le_trans List.countP_le_length ?_
    simp) hn hS)
/-- The frame in which all have come up. -/
def goF (a : Act) : List Oper → List Value → Act
  | o :: os, v :: vs => goF (a.put o.dst v) os vs
  | _, _ => a
theorem goF_near (a0 : Act) : ∀ (os : List Oper) (vs : List Value) (a : Act), a.defers = a0.defers → a.tmps.size = a0.tmps.size → (∀ t, (∀ o ∈ os, o.dst ≠ some t) → a.tmps[t]? = a0.tmps[t]? → (goF a os vs).tmps[t]? = a0.tmps[t]?) ∧ (goF a os vs).defers = a0.defers ∧ (goF a os vs).tmps.size = a0.tmps.size
  | [], _, a, h1, h2 => ⟨fun _ _ h => h, h1, h2⟩
  | _ :: _, [], a, h1, h2 => ⟨fun _ _ h => h, h1, h2⟩
  | o :: os, v :: vs, a, h1, h2 => by
    have hd : (a.put o.dst v).defers = a.defers := by cases o.dst <;> rfl
    have hz : (a.put o.dst v).tmps.size = a.tmps.size := by cases o.dst <;> simp [Act.put]
    obtain ⟨q1, q2, q3⟩ := goF_near a0 os vs (a.put o.dst v) (hd.trans h1) (hz.trans h2)
    refine ⟨fun t ht h => q1 t (fun o' ho' => ht o' (List.mem_cons_of_mem _ ho')) ?_, q2, q3⟩
    have hne := ht o (List.mem_cons_self ..)
    rw [← h]
    cases hdst : o.dst with
    | none => rfl
    | some d =>
      show (a.tmps.setIfInBounds d v)[t]? = _
      rw [Array.getElem?_setIfInBounds_ne (fun e => hne (by rw [hdst, e]))]
theorem near_goF (a : Act) (vs : List Value) : Near ops (goF a ops.toList vs) (Array.replicate ops.size false) a := by
  obtain ⟨q1, q2, q3⟩ := goF_near a ops.toList vs a rfl rfl
  refine ⟨q2.symm, q3.symm, fun t ht => (q1 t (fun o ho hd => ?_) rfl).symm⟩
  obtain ⟨i, hi, he⟩ := List.getElem_of_mem ho
  have := ht i o (by rw [← Array.getElem?_toList, List.getElem?_eq_getElem hi, he]) hd
  rw [Array.getD_eq_getD_getElem?, Array.getElem?_replicate] at this
  split at this <;> cases this
theorem near_of {a aF : Act} (vs : List Value) (h : goF a ops.toList vs = aF) : Near ops aF (Array.replicate ops.size false) a := by
  rw [← h]
  exact near_goF a vs
theorem goesAll_of {aF : Act} (h : ∀ o ∈ ops.toList, ∃ v, (∀ d, o.dst = some d → aF.tmps[d]? = some v) ∧ (if Region.wanted o (yielded ops aF.tmps) = true then Goes P S o aF v else v = undef)) : GoesAll P S ops aF := fun i o ho => h o (by
  rw [← Array.getElem?_toList] at ho
  exact List.mem_of_getElem? ho)
theorem goes_at {aF : Act} {o : Oper} {d : Tmp} (v : Value) (hd : o.dst = some d) (ht : aF.tmps[d]? = some v) (hw : Region.wanted o (yielded ops aF.tmps) = true) (hg : Goes P S o aF v) :
    ∃ v, (∀ d, o.dst = some d → aF.tmps[d]? = some v) ∧ (if Region.wanted o (yielded ops aF.tmps) = true then Goes P S o aF v else v = undef) :=
  ⟨v, fun d' hd' => by rw [hd] at hd'; cases hd'; exact ht, by rw [if_pos hw]; exact hg⟩
theorem goes_val {aF : Act} {o : Oper} {v : Value} (h : ∀ w, S w → (execOp aF.eval o).run P w = .ok (.value v) w) : Goes P S o aF v := fun w hS => .inl ⟨w, h w hS, hS⟩
theorem goes_load {aF : Act} {o : Oper} {ty : TypeId} {x : Operand} {g : Nat} {cs : Array Value} {d : TypeDesc} (ho : o.op = .load ty x) (hx : aF.eval x = .pointer (some ⟨g, 0, none⟩)) (hk : ∀ w, S w → Blk w g ty cs) (hu : P.underlying ty = some d) (hd : d.isRow = true) (hi : (P.info? ty).map (·.size) = some cs.size) : Goes P S o aF (.agg cs) :=
  goes_val fun w hS => by
    unfold execOp
    simp only [ho, hx, Instr.loadAt, Instr.sureAddr, Sem.run_bind, Sem.run_pure, Result.andThen_ok, run_loadVar_mid w g 0 ty cs.toList d (hk w hS).range hu hd (by rw [hi]; simp)]
theorem goes_call {aF : Act} {o : Oper} {v : Value} {f : FuncId} {args : Array Value} (hr : ∀ w, (execOp aF.eval o).run P w = .ok (.enter f args) w) (hc : ∀ w, S w → Calls P f args w fun e w' => e = .returned v ∧ Below w.heap.size w w') (hS : ∀ w w', S w → Below w.heap.size w w' → S w') : Goes P S o aF v := fun w hw =>
  .inr ⟨f, args, w, hr w, (hc w hw).mono fun _ _ ⟨h1, h2⟩ => ⟨h1, hS w _ hw h2⟩⟩
theorem goes_eql {aF : Act} {o : Oper} {ty ty2 : TypeId} {x y : Operand} {xs ys : Array Value} {b : Bool} (ho : o.op = .binOp .eql ty x y ty2) (hx : aF.eval x = .agg xs) (hy : aF.eval y = .agg ys) (hg : P.eqGuardType P.depth ty = false) (h : ∀ w, (binOp .eql ty (.agg xs) (.agg ys)).run P w = .ok (.bool b) w) : Goes P S o aF (.bool b) :=
  goes_val fun w _ => by
    unfold execOp
    simp only [ho, hx, hy]
    simp [run_eqGuard_agg w .eql ty x y xs ys hg, h w, Result.andThen]
end
end Go.Proofs.YtbjmfhcgkpjcfaaGreatDoor
namespace Go.Proofs.YtbjmfhcgkpjcfaaGreatDoor
open Go.RowKit

/-- A sequence of numbers. -/
def numS (a b : UInt8) (l : List Int) : Sq := ⟨1, a, l.map fun n => [n], [], b, []⟩
/-- What Num tells. -/
def NumP (a b : UInt8) (l : List Int) (w : World) (e : Ending) (w' : World) : Prop :=
  (∃ A c, e = .returned (sqV (numS a b l) A c) ∧ RdP w' A (numS a b l).params) ∧ Below w.heap.size w w'

set_option maxRecDepth 100000 in
set_option maxHeartbeats 8000000 in
theorem num_any (a b : UInt8) (A : Option Addr) (n c : Nat) (l : List Int) (w : World) (hn : l.length = n) (hl : n ≤ 4294967296) (hr : Rd w A (is_ l)) :
    Calls Tryz.prog 51 #[.int .u8 (a.toNat : Int), .int .u8 (b.toNat : Int), .slice A n c] w (NumP a b l w) := by
  obtain ⟨j0, hj, hy0, hy1, hy2⟩ : ∃ i, Tryz.prog.info? 53 = some i ∧ i.zero = some (.slice none 0 0) ∧ i.size = 1 ∧ i.bytes = 24 := ⟨_, rfl, rfl, rfl, rfl⟩
  have HN := Lib.hid hn
  clear hn
  go_enter Tryz.func51, Tryz.ntmps51
  go_wp2_with fail
  have hb0 : Below w.heap.size w ((w.alloc (.cells #[.int .i64 0, .int .u8 0, .slice none 0 0, .string ⟨#[]⟩, .int .u8 0, .string ⟨#[]⟩] 60)).alloc (.cells #[.int .i64 1, .int .u8 (a.toNat : Int), .slice none 0 0, .string ⟨#[]⟩, .int .u8 (b.toNat : Int), .string ⟨#[]⟩] 60)) := ((Below.refl _ w).alloc (Nat.le_refl _) _).alloc (by simp) _
  have hz0 : Blk ((w.alloc (.cells #[.int .i64 0, .int .u8 0, .slice none 0 0, .string ⟨#[]⟩, .int .u8 0, .string ⟨#[]⟩] 60)).alloc (.cells #[.int .i64 1, .int .u8 (a.toNat : Int), .slice none 0 0, .string ⟨#[]⟩, .int .u8 (b.toNat : Int), .string ⟨#[]⟩] 60)) w.heap.size 60 #[.int .i64 0, .int .u8 0, .slice none 0 0, .string ⟨#[]⟩, .int .u8 0, .string ⟨#[]⟩] := (Blk.new w _ _).alloc _
  have hs0 := Blk.new (w.alloc (.cells #[.int .i64 0, .int .u8 0, .slice none 0 0, .string ⟨#[]⟩, .int .u8 0, .string ⟨#[]⟩] 60)) 60 #[.int .i64 1, .int .u8 (a.toNat : Int), .slice none 0 0, .string ⟨#[]⟩, .int .u8 (b.toNat : Int), .string ⟨#[]⟩]
  rw [World.size_alloc] at hs0
  have hsz : ((w.alloc (.cells #[.int .i64 0, .int .u8 0, .slice none 0 0, .string ⟨#[]⟩, .int .u8 0, .string ⟨#[]⟩] 60)).alloc (.cells #[.int .i64 1, .int .u8 (a.toNat : Int), .slice none 0 0, .string ⟨#[]⟩, .int .u8 (b.toNat : Int), .string ⟨#[]⟩] 60)).heap.size = w.heap.size + 2 := by simp
  have HSZ := Lib.hid hsz
  clear hsz
  generalize ((w.alloc (.cells #[.int .i64 0, .int .u8 0, .slice none 0 0, .string ⟨#[]⟩, .int .u8 0, .string ⟨#[]⟩] 60)).alloc (.cells #[.int .i64 1, .int .u8 (a.toNat : Int), .slice none 0 0, .string ⟨#[]⟩, .int .u8 (b.toNat : Int), .string ⟨#[]⟩] 60)) = W0 at *
  have hg1 : w.heap.size < w.heap.size + 1 := Nat.lt_succ_self _
  have hg2 : w.heap.size + 1 < W0.heap.size := hs0.lt
  generalize w.heap.size + 1 = g at *
  go_loopw [15] (fun i wr => ∃ (k : Nat) (v : Value) (xs : List Value), k ≤ n ∧ i = .int .i64 k ∧ Own wr W0.heap.size 53 1 v k xs ∧ (∃ B2, B2 ≤ wr.heap.size ∧ Rows wr B2 3 xs ((l.take k).map fun n => [n])) ∧ Blk wr w.heap.size 60 #[.int .i64 0, .int .u8 0, .slice none 0 0, .string ⟨#[]⟩, .int .u8 0, .string ⟨#[]⟩] ∧ Blk wr g 60 #[.int .i64 1, .int .u8 (a.toNat : Int), v, .string ⟨#[]⟩, .int .u8 (b.toNat : Int), .string ⟨#[]⟩] ∧ Below w.heap.size w wr ∧ W0.heap.size ≤ wr.heap.size) (fun i _ => n - (intOf i).toNat)
  case atStart => exact ⟨0, _, [], Nat.zero_le _, rfl, Own.nil_ _ _ _ _, ⟨0, Nat.zero_le _, by rfl, fun k hk => absurd hk (by simp)⟩, hz0, hs0, hb0, Nat.le_refl _⟩
  case round =>
    obtain ⟨k, v, xs, hk, rfl, ho, ⟨B2, hB2, hrs⟩, hz, hs, hbw, hW⟩ := hrel
    clear hz0 hs0 hb0
    obtain ⟨c0, c1, c2, c3, c4, c5⟩ := Blk.cells6 hs
    have fz2 := hs.frozen 2
    by_cases hlt : k < n
    · have hkl : k < l.length := by rw [HN.out]; exact hlt
      obtain ⟨bb, oo, hA, hbb, hcc⟩ := (hr.below hbw).int_at (by rw [HN.out]; omega)
      cases hA
      have hck := hcc k hkl
      obtain ⟨x, hx⟩ : ∃ x, l[k]'hkl = x := ⟨_, rfl⟩
      rw [hx] at hck
      have HX := Lib.hid (show l.take (k + 1) = l.take k ++ [x] by rw [List.take_succ_eq_append_getElem hkl, hx])
      clear hx hcc
      obtain ⟨Av, cv, rfl, _⟩ := ho.form
      have hown1 := (ho.alloc (.cells #[.int .i64 x] 3)).alloc (.cells #[.slice (some ⟨wr.heap.size, 0, none⟩) 1 1] 53)
      have hrd1 : Rd ((wr.alloc (.cells #[.int .i64 x] 3)).alloc (.cells #[.slice (some ⟨wr.heap.size, 0, none⟩) 1 1] 53)) (some ⟨wr.heap.size + 1, 0, none⟩) [.slice (some ⟨wr.heap.size, 0, none⟩) 1 1] := by
        have := Rd.block (xs := [.slice (some ⟨wr.heap.size, 0, none⟩) 1 1]) (heap_alloc_new (wr.alloc (.cells #[.int .i64 x] 3)) (.cells #[.slice (some ⟨wr.heap.size, 0, none⟩) 1 1] 53)) (by simp)
        rwa [World.size_alloc] at this
      have hin : RowI (wr.alloc (.cells #[.int .i64 x] 3)) (wr.heap.size + 1) 3 (some ⟨wr.heap.size, 0, none⟩) [x] := by
        obtain ⟨_, A', c', h1, h2⟩ := own_row (p := [x]) (own_lit (wr.alloc (.cells #[.int .i64 x] 3)) 0 3 wr.heap.size (.int .i64 x) (Nat.zero_le _) (heap_alloc_new wr _))
        cases h1
        rwa [World.size_alloc] at h2
      have hrs1 := ((hrs.keep (Nat.le_refl B2) (fun q hq _ => Below.heap_alloc wr (.cells #[.int .i64 x] 3) q (by omega))).keep (B' := wr.heap.size + 1) (by omega) (fun _ _ _ => rfl)).snoc2 (n := 1) rfl (c := 1) hin
      have hrs2 := hrs1.keep (Nat.le_refl _) (fun q hq _ => Below.heap_alloc (wr.alloc (.cells #[.int .i64 x] 3)) (.cells #[.slice (some ⟨wr.heap.size, 0, none⟩) 1 1] 53) q (by simp; omega))
      have hz2 := (hz.alloc (.cells #[.int .i64 x] 3)).alloc (.cells #[.slice (some ⟨wr.heap.size, 0, none⟩) 1 1] 53)
      have hs2 := (hs.alloc (.cells #[.int .i64 x] 3)).alloc (.cells #[.slice (some ⟨wr.heap.size, 0, none⟩) 1 1] 53)
      have hb2 : Below w.heap.size w ((wr.alloc (.cells #[.int .i64 x] 3)).alloc (.cells #[.slice (some ⟨wr.heap.size, 0, none⟩) 1 1] 53)) := (hbw.alloc hbw.size _).alloc (Nat.le_trans hbw.size (by simp)) _
      have h63 : k + 1 ≤ maxLen := by simp only [maxLen]; omega
      have hlim : (k + 1) * 24 ≤ 140737488355328 := by omega
      have hbs : W0.heap.size ≤ ((wr.alloc (.cells #[.int .i64 x] 3)).alloc (.cells #[.slice (some ⟨wr.heap.size, 0, none⟩) 1 1] 53)).heap.size := by simp; omega
      have hsz2 : wr.heap.size + 1 ≤ ((wr.alloc (.cells #[.int .i64 x] 3)).alloc (.cells #[.slice (some ⟨wr.heap.size, 0, none⟩) 1 1] 53)).heap.size := by simp
      clear hrs hrs1 hin ho
      go_wp2_with (first | (at_builtin; refine list_app _ rfl (.tmp 20) (.tmp 23) 58 rfl W0.heap.size 53 j0 _ 1 24 Tryz.underlying58 hj hy0 hy1 hy2 rfl Nat.one_pos _ _ _ rfl hown1 _ 1 1 [.slice (some ⟨wr.heap.size, 0, none⟩) 1 1] rfl rfl hrd1 (sl_one _ _ _) h63 hlim hbs ?_; intro v5 w5 hown5 hg5; obtain ⟨A5, c5, rfl, hf5⟩ := hown5.form; clear hf5; have hs5 := hs2.grown hg5 (hown1.no_cells hs2 (by decide)); have fz5 := hs5.frozen 2; obtain ⟨e0, e1, e2, e3, e4, e5⟩ := Blk.cells6 hs5))
      have hz5 := hz2.grown hg5 (hown1.no_cells hz2 (by decide))
      have hrs5 := hrs2.keep (B' := wr.heap.size + 1) (Nat.le_refl _) (keep_out hown1 (by decide) hg5)
      have hb5 : Below w.heap.size w w5 := hb2.grown hg5 (Nat.le_trans hbw.size (by simp; omega)) (fun g hg => by have := (hown1.lt g hg).1; have := HSZ.out; omega)
      have hsz5 : wr.heap.size + 1 ≤ w5.heap.size := Nat.le_trans hsz2 hg5.size
      have hgs := grown_setCell g 2 (.slice A5 (k + 1) c5) w5
      clear hg5 hown1 hrd1 hz2 hs2 hb2 h63 hlim hbs hsz2 hrs2
      go_wp2_with fail
      go_roundw
      case rel =>
        refine ⟨k + 1, _, xs ++ [.slice (some ⟨wr.heap.size, 0, none⟩) 1 1], by omega, by go_num, hown5.kept hgs (.inr (hown5.no_cells hs5 (by decide))), ⟨wr.heap.size + 1, by simp; exact hsz5, ?_⟩, hz5.far (by show w.heap.size ≠ g; omega) _, hs5.set 2 _, hb5.setCell (p := ⟨g, 2, none⟩) (Nat.le_of_lt hg1) _, Nat.le_trans hW (Nat.le_trans (Nat.le_succ _) (by simpa using hsz5))⟩
        rw [HX.out, List.map_append]
        exact hrs5.keep (Nat.le_refl _) (fun q _ ⟨cur, fz, hh⟩ => hgs.block q (Array.getElem?_eq_some_iff.1 hh).1 (fun e => tag_ne hs5 hh (by decide) (by injection e)))
      case measure => simp [intOf]; omega
    · obtain rfl : k = n := by omega
      have HT := Lib.hid (show l.take k = l from List.take_of_length_le (by rw [HN.out]; omega))
      obtain ⟨A3, c3, rfl, hrow⟩ := hrs.rdpn ho hs (by decide) (by decide)
      rw [HT.out] at hrow
      have hrow2 := hrow.other hz (by decide) (by decide) (grown_set6 wr w.heap.size (.int .i64 1) (.int .u8 (a.toNat : Int)) (.slice A3 k c3) (.string ⟨#[]⟩) (.int .u8 (b.toNat : Int)) (.string ⟨#[]⟩))
      have hb6 := below_set6 hbw (Nat.le_refl w.heap.size) (.int .i64 1) (.int .u8 (a.toNat : Int)) (.slice A3 k c3) (.string ⟨#[]⟩) (.int .u8 (b.toNat : Int)) (.string ⟨#[]⟩)
      obtain ⟨d0, d1, d2, d3, d4, d5⟩ := Blk.cells6 hz
      have z0 := hz.frozen 0
      have z1 := hz.frozen 1
      have z2 := hz.frozen 2
      have z3 := hz.frozen 3
      have z4 := hz.frozen 4
      have z5 := hz.frozen 5
      have HNL := Lib.hid (show (l.map fun n => [n]).length = k by rw [List.length_map]; exact HN.out)
      clear hrow hz ho hrs hs
      go_wp2_with fail
      refine bodyPost_ret (v := .agg #[.int .i64 1, .int .u8 (a.toNat : Int), .slice A3 k c3, .string ⟨#[]⟩, .int .u8 (b.toNat : Int), .string ⟨#[]⟩]) (by simp [results, Tryz.results51, go_sem, d0, d1, d2, d3, d4, d5]) rfl ⟨⟨A3, c3, ?_, hrow2.rdp⟩, hb6⟩
      unfold sqV numS
      dsimp only
      rw [HNL.out]
end Go.Proofs.YtbjmfhcgkpjcfaaGreatDoor
namespace Go.Proofs.YtbjmfhcgkpjcfaaGreatDoor
open Go.RowKit

theorem siz_cell {w : World} {t : TypeId} {fz : Nat × Nat} (h : w.heap[1]? = some (.cells sizC t fz)) (i : Nat) : w.cell? ⟨1, i, none⟩ = sizC[i]? := cell_of_row w _ i sizC t fz h
theorem szA_form (j : Nat) : ∃ a b c : Int, szA j = #[.int .i64 a, .int .i64 b, .int .i64 c] := by
  unfold szA
  split <;> exact ⟨_, _, _, rfl⟩

set_option maxRecDepth 100000 in
set_option maxHeartbeats 4000000 in
theorem sizeOf_any (r : Int) (w : World) (hs : Siz w) : Calls Tryz.prog 72 #[.int .i64 r] w fun e w' => e = .returned (.agg (szA (ixP r 4))) ∧ Below w.heap.size w w' := by
  obtain ⟨t, fz, hh⟩ := hs
  have hlt := (Array.getElem?_eq_some_iff.1 hh).1
  have hlt0 : 0 < w.heap.size := Nat.zero_lt_of_lt hlt
  have c0 : w.cell? ⟨1, 0, none⟩ = some (.int .i64 1) := siz_cell hh 0
  have c1 : w.cell? ⟨1, 1, none⟩ = some (.int .i64 0) := siz_cell hh 1
  have c2 : w.cell? ⟨1, 2, none⟩ = some (.int .i64 0) := siz_cell hh 2
  have c3 : w.cell? ⟨1, 3, none⟩ = some (.int .i64 2) := siz_cell hh 3
  have c4 : w.cell? ⟨1, 4, none⟩ = some (.int .i64 128) := siz_cell hh 4
  have c5 : w.cell? ⟨1, 5, none⟩ = some (.int .i64 192) := siz_cell hh 5
  have c6 : w.cell? ⟨1, 6, none⟩ = some (.int .i64 3) := siz_cell hh 6
  have c7 : w.cell? ⟨1, 7, none⟩ = some (.int .i64 2048) := siz_cell hh 7
  have c8 : w.cell? ⟨1, 8, none⟩ = some (.int .i64 224) := siz_cell hh 8
  have c9 : w.cell? ⟨1, 9, none⟩ = some (.int .i64 4) := siz_cell hh 9
  have c10 : w.cell? ⟨1, 10, none⟩ = some (.int .i64 65536) := siz_cell hh 10
  have c11 : w.cell? ⟨1, 11, none⟩ = some (.int .i64 240) := siz_cell hh 11
  go_enter Tryz.func72, Tryz.ntmps72
  go_wp2
  have b0 := Blk.new w 94 #[.int .i64 0, .int .i64 0, .int .i64 0]
  have b1 := Blk.new (w.alloc (.cells #[.int .i64 0, .int .i64 0, .int .i64 0] 94)) 94 #[.int .i64 1, .int .i64 0, .int .i64 0]
  rw [World.size_alloc] at b1
  have hb0 : Below w.heap.size w ((w.alloc (.cells #[.int .i64 0, .int .i64 0, .int .i64 0] 94)).alloc (.cells #[.int .i64 1, .int .i64 0, .int .i64 0] 94)) := ((Below.refl _ w).alloc (Nat.le_refl _) _).alloc (by simp) _
  go_loopw [9] (fun i wr => ∃ k : Nat, k ≤ 4 ∧ i = .int .i64 k ∧ Blk wr w.heap.size 94 #[.int .i64 0, .int .i64 0, .int .i64 0] ∧ Blk wr (w.heap.size + 1) 94 (szA (ixP r k)) ∧ Below w.heap.size w wr) (fun i _ => 4 - (intOf i).toNat)
  case atStart => exact ⟨0, by omega, rfl, b0.alloc _, b1, hb0⟩
  case round =>
    obtain ⟨k, hk, rfl, p0, p1, hbw⟩ := hrel
    clear b0 b1 hb0 c0 c1 c2 c3 c4 c5 c6 c7 c8 c9 c10 c11
    have hz := p1.lt
    have q0 := p1.frozen 0
    have q1 := p1.frozen 1
    have q2 := p1.frozen 2
    obtain rfl | rfl | rfl | rfl | rfl : k = 0 ∨ k = 1 ∨ k = 2 ∨ k = 3 ∨ k = 4 := by omega
    · have i0 : ∀ w : World, (Instr.index 105 (.agg #[.int .i64 1, .int .i64 0, .int .i64 0, .int .i64 2, .int .i64 128, .int .i64 192, .int .i64 3, .int .i64 2048, .int .i64 224, .int .i64 4, .int .i64 65536, .int .i64 240]) (.int .i64 0)).run Tryz.prog w = .ok (.agg #[.int .i64 1, .int .i64 0, .int .i64 0]) w := fun _ => by kernel_rfl
      by_cases hr : 0 ≤ r
      · have f0 := Lib.hid (show szA (ixP r (0 + 1)) = szA 0 by rw [show ixP r (0 + 1) = 0 by unfold ixP; (repeat' split) <;> omega])
        obtain ⟨u0, u1, u2, hu⟩ := szA_form (ixP r 0)
        rw [hu] at p1
        have g0 := p1.cell 0
        have g1 := p1.cell 1
        have g2 := p1.cell 2
        go_wp2
        go_roundw
        case rel => exact ⟨0 + 1, by omega, by go_num, (p0.far3 (Nat.ne_of_lt (Nat.lt_succ_self _)) _ _ _).alloc _, by rw [f0.out]; exact (p1.set3 _ _ _).alloc _, (below_set3 hbw (Nat.le_succ _) _ _ _).alloc (by rw [set3_size]; exact hbw.size) _⟩
        case measure => simp [intOf]
      · have f0 := Lib.hid (show szA (ixP r (0 + 1)) = szA (ixP r 0) by rw [show ixP r (0 + 1) = ixP r 0 by unfold ixP; (repeat' split) <;> omega])
        go_wp2
        go_roundw
        case rel => exact ⟨0 + 1, by omega, by go_num, p0.alloc _, by rw [f0.out]; exact p1.alloc _, hbw.alloc hbw.size _⟩
        case measure => simp [intOf]
    · have i0 : ∀ w : World, (Instr.index 105 (.agg #[.int .i64 1, .int .i64 0, .int .i64 0, .int .i64 2, .int .i64 128, .int .i64 192, .int .i64 3, .int .i64 2048, .int .i64 224, .int .i64 4, .int .i64 65536, .int .i64 240]) (.int .i64 1)).run Tryz.prog w = .ok (.agg #[.int .i64 2, .int .i64 128, .int .i64 192]) w := fun _ => by kernel_rfl
      by_cases hr : 128 ≤ r
      · have f0 := Lib.hid (show szA (ixP r (1 + 1)) = szA 1 by rw [show ixP r (1 + 1) = 1 by unfold ixP; (repeat' split) <;> omega])
        obtain ⟨u0, u1, u2, hu⟩ := szA_form (ixP r 1)
        rw [hu] at p1
        have g0 := p1.cell 0
        have g1 := p1.cell 1
        have g2 := p1.cell 2
        go_wp2
        go_roundw
        case rel => exact ⟨1 + 1, by omega, by go_num, (p0.far3 (Nat.ne_of_lt (Nat.lt_succ_self _)) _ _ _).alloc _, by rw [f0.out]; exact (p1.set3 _ _ _).alloc _, (below_set3 hbw (Nat.le_succ _) _ _ _).alloc (by rw [set3_size]; exact hbw.size) _⟩
        case measure => simp [intOf]
      · have f0 := Lib.hid (show szA (ixP r (1 + 1)) = szA (ixP r 1) by rw [show ixP r (1 + 1) = ixP r 1 by unfold ixP; (repeat' split) <;> omega])
        go_wp2
        go_roundw
        case rel => exact ⟨1 + 1, by omega, by go_num, p0.alloc _, by rw [f0.out]; exact p1.alloc _, hbw.alloc hbw.size _⟩
        case measure => simp [intOf]
    · have i0 : ∀ w : World, (Instr.index 105 (.agg #[.int .i64 1, .int .i64 0, .int .i64 0, .int .i64 2, .int .i64 128, .int .i64 192, .int .i64 3, .int .i64 2048, .int .i64 224, .int .i64 4, .int .i64 65536, .int .i64 240]) (.int .i64 2)).run Tryz.prog w = .ok (.agg #[.int .i64 3, .int .i64 2048, .int .i64 224]) w := fun _ => by kernel_rfl
      by_cases hr : 2048 ≤ r
      · have f0 := Lib.hid (show szA (ixP r (2 + 1)) = szA 2 by rw [show ixP r (2 + 1) = 2 by unfold ixP; (repeat' split) <;> omega])
        obtain ⟨u0, u1, u2, hu⟩ := szA_form (ixP r 2)
        rw [hu] at p1
        have g0 := p1.cell 0
        have g1 := p1.cell 1
        have g2 := p1.cell 2
        go_wp2
        go_roundw
        case rel => exact ⟨2 + 1, by omega, by go_num, (p0.far3 (Nat.ne_of_lt (Nat.lt_succ_self _)) _ _ _).alloc _, by rw [f0.out]; exact (p1.set3 _ _ _).alloc _, (below_set3 hbw (Nat.le_succ _) _ _ _).alloc (by rw [set3_size]; exact hbw.size) _⟩
        case measure => simp [intOf]
      · have f0 := Lib.hid (show szA (ixP r (2 + 1)) = szA (ixP r 2) by rw [show ixP r (2 + 1) = ixP r 2 by unfold ixP; (repeat' split) <;> omega])
        go_wp2
        go_roundw
        case rel => exact ⟨2 + 1, by omega, by go_num, p0.alloc _, by rw [f0.out]; exact p1.alloc _, hbw.alloc hbw.size _⟩
        case measure => simp [intOf]
    · have i0 : ∀ w : World, (Instr.index 105 (.agg #[.int .i64 1, .int .i64 0, .int .i64 0, .int .i64 2, .int .i64 128, .int .i64 192, .int .i64 3, .int .i64 2048, .int .i64 224, .int .i64 4, .int .i64 65536, .int .i64 240]) (.int .i64 3)).run Tryz.prog w = .ok (.agg #[.int .i64 4, .int .i64 65536, .int .i64 240]) w := fun _ => by kernel_rfl
      by_cases hr : 65536 ≤ r
      · have f0 := Lib.hid (show szA (ixP r (3 + 1)) = szA 3 by rw [show ixP r (3 + 1) = 3 by unfold ixP; (repeat' split) <;> omega])
        obtain ⟨u0, u1, u2, hu⟩ := szA_form (ixP r 3)
        rw [hu] at p1
        have g0 := p1.cell 0
        have g1 := p1.cell 1
        have g2 := p1.cell 2
        go_wp2
        go_roundw
        case rel => exact ⟨3 + 1, by omega, by go_num, (p0.far3 (Nat.ne_of_lt (Nat.lt_succ_self _)) _ _ _).alloc _, by rw [f0.out]; exact (p1.set3 _ _ _).alloc _, (below_set3 hbw (Nat.le_succ _) _ _ _).alloc (by rw [set3_size]; exact hbw.size) _⟩
        case measure => simp [intOf]
      · have f0 := Lib.hid (show szA (ixP r (3 + 1)) = szA (ixP r 3) by rw [show ixP r (3 + 1) = ixP r 3 by unfold ixP; (repeat' split) <;> omega])
        go_wp2
        go_roundw
        case rel => exact ⟨3 + 1, by omega, by go_num, p0.alloc _, by rw [f0.out]; exact p1.alloc _, hbw.alloc hbw.size _⟩
        case measure => simp [intOf]
    · obtain ⟨u0, u1, u2, hu⟩ := szA_form (ixP r 4)
      rw [hu] at p1
      have g0 := p1.cell 0
      have g1 := p1.cell 1
      have g2 := p1.cell 2
      have y0 := p0.cell 0
      have y1 := p0.cell 1
      have y2 := p0.cell 2
      have x0 := p0.frozen 0
      have x1 := p0.frozen 1
      have x2 := p0.frozen 2
      have hlt2 := p0.lt
      go_wp2
      exact bodyPost_ret (v := .agg #[.int .i64 u0, .int .i64 u1, .int .i64 u2]) (by simp [results, Tryz.results72, go_sem, y0, y1, y2]) rfl ⟨by rw [hu], below_set3 hbw (Nat.le_refl _) _ _ _⟩
end Go.Proofs.YtbjmfhcgkpjcfaaGreatDoor
