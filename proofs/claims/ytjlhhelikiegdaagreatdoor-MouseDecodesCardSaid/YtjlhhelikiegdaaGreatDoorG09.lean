/-
  A region that draws its order, in which memory is made: what an operation yields may hang on what the run alone tells (where a new block lies): one look at each operation serves whatever order is picked. Layer 3, walked: the program's isNone and paramsMay.
-/
import Derived.Test.YtjlhhelikiegdaaGreatDoorG06
import Derived.Test.YtjlhhelikiegdaaGreatDoorG08
import Derived.Laws.NewFold
import Derived.Test.YtjlhhelikiegdaaGreatDoorShelf
namespace Go.Proofs.YtjlhhelikiegdaaGreatDoor
open Go.RowKit
section
section
variable {P : Program} {ops : Array Oper} {Q : Exit → Act → World → Prop} {md : Region.Mode}
def upd (g : Tmp → Value) (d : Tmp) (v : Value) : Tmp → Value := fun t => if t = d then v else g t
theorem upd_at (g : Tmp → Value) (d : Tmp) (v : Value) : upd g d v d = v := if_pos rfl
theorem upd_ne (g : Tmp → Value) {d t : Tmp} (v : Value) (h : t ≠ d) : upd g d v t = g t := if_neg h
def fillT (g : Tmp → Value) : List Tmp → Array Value → Array Value
 | [], t => t
 | d :: ds, t => fillT g ds (t.setIfInBounds d (g d))
def fillA (a : Act) (ds : List Tmp) (g : Tmp → Value) : Act := ⟨fillT g ds a.tmps, a.defers⟩
theorem fillT_size (g : Tmp → Value) : ∀ (ds : List Tmp) (t : Array Value), (fillT g ds t).size = t.size
 | [], _ => rfl
 | d :: ds, t => by
   show (fillT g ds _).size = _
   rw [fillT_size g ds, Array.size_setIfInBounds]
theorem fillT_other (g : Tmp → Value) (d : Tmp) (v : Value) {t : Tmp} (ht : t ≠ d) : ∀ (ds : List Tmp) (s s' : Array Value), s.size = s'.size → s[t]? = s'[t]? → (fillT (upd g d v) ds s)[t]? = (fillT g ds s')[t]?
 | [], _, _, _, h => h
 | x :: ds, s, s', hz, h => by
   refine fillT_other g d v ht ds _ _ (by simp [hz]) ?_
   by_cases hx : x = t
   ·subst hx
    rw [upd_ne g v ht]
    by_cases hl : x < s.size
    ·rw [Array.getElem?_setIfInBounds_self_of_lt hl, Array.getElem?_setIfInBounds_self_of_lt (hz ▸ hl)]
    ·rw [Array.getElem?_eq_none (by rw [Array.size_setIfInBounds]; exact Nat.le_of_not_lt hl), Array.getElem?_eq_none (by rw [Array.size_setIfInBounds, ← hz]; exact Nat.le_of_not_lt hl)]
   ·rw [Array.getElem?_setIfInBounds_ne hx, Array.getElem?_setIfInBounds_ne hx, h]
def After (aF : (Tmp → Value) → Act) (S : Array Bool → (Tmp → Value) → World → Prop) (i : Nat) (o : Oper) (l : Array Bool) (g : Tmp → Value) (v : Value) (w : World) : Prop :=
 ∃ g', (g' = g ∨ ∃ d u, o.dst = some d ∧ g' = upd g d u) ∧ (∀ d, o.dst = some d → (aF g').tmps[d]? = some v) ∧ S (l.setIfInBounds i true) g' w
def GoesM (P : Program) (md : Region.Mode) (ops : Array Oper) (aF : (Tmp → Value) → Act) (S : Array Bool → (Tmp → Value) → World → Prop) (i : Nat) (o : Oper) : Prop :=
 ∀ l g w, l.size = ops.size → l.getD i false = false → (∀ e ∈ o.after, Region.binds md e = true → l.getD e.on false = true) → S l g w →
   if Region.wanted o (yielded ops (aF g).tmps) = true then
    (∃ v w', ((execOp (aF g).eval o).run P w = .ok (.value v) w' ∨ ((execOp (aF g).eval o).run P w = .ok .skip w' ∧ v = undef)) ∧ After aF S i o l g v w') ∨
    (∃ f args w1, (execOp (aF g).eval o).run P w = .ok (.enter f args) w1 ∧ Calls P f args w1 fun e w' => ∃ v, e = .returned v ∧ After aF S i o l g v w')
   else After aF S i o l g undef w
def GoesAllM (P : Program) (md : Region.Mode) (ops : Array Oper) (aF : (Tmp → Value) → Act) (S : Array Bool → (Tmp → Value) → World → Prop) : Prop :=
 ∀ (i : Nat) (o : Oper), ops[i]? = some o → GoesM P md ops aF S i o
theorem Near.turn {aF : (Tmp → Value) → Act} (hF : ∀ g d v, (∀ t, t ≠ d → (aF (upd g d v)).tmps[t]? = (aF g).tmps[t]?) ∧ (aF (upd g d v)).defers = (aF g).defers ∧ (aF (upd g d v)).tmps.size = (aF g).tmps.size)
 {g g' : Tmp → Value} {l : Array Bool} {a : Act} {i : Nat} {o : Oper} (ho : ops[i]? = some o) (hl : l.getD i false = false) (hg : g' = g ∨ ∃ d u, o.dst = some d ∧ g' = upd g d u) (h : Near ops (aF g) l a) : Near ops (aF g') l a := by
 rcases hg with rfl | ⟨d, u, hd, rfl⟩
 ·exact h
 ·obtain ⟨h1, h2, h3⟩ := hF g d u
  refine ⟨h.defers.trans h2.symm, h.size.trans h3.symm, fun t ht => ?_⟩
  have hne : t ≠ d := fun e => by
   have := ht i o ho (by rw [hd, e])
   rw [hl] at this
   cases this
  rw [h1 t hne]
  exact h.at_ t ht
theorem wpAny_made (hc : regCheck md ops = true) (hs : Region.noSelect ops = true) {aF : (Tmp → Value) → Act} {S : Array Bool → (Tmp → Value) → World → Prop}
 (hF : ∀ g d v, (∀ t, t ≠ d → (aF (upd g d v)).tmps[t]? = (aF g).tmps[t]?) ∧ (aF (upd g d v)).defers = (aF g).defers ∧ (aF (upd g d v)).tmps.size = (aF g).tmps.size)
 (hg : GoesAllM P md ops aF S) (hQ : ∀ l g w, (∀ j, j < ops.size → l.getD j false = true) → S l g w → Q .normal (aF g) w) :
 ∀ (fuel : Nat) (l : Array Bool) (a : Act) (w : World), l.size = ops.size → l.toList.countP (fun b => !b) ≤ fuel → (∃ g, Near ops (aF g) l a ∧ S l g w) → wpAny P md ops Q fuel l a w := by
 have fin : ∀ (l : Array Bool) (a : Act) (w : World), l.size = ops.size → Region.ready md ops l = [] → (∃ g, Near ops (aF g) l a ∧ S l g w) → Q .normal a w := fun l a w hsz hr ⟨g, hn, hS⟩ => by
  have all : ∀ j, j < ops.size → l.getD j false = true := by
   intro j
   induction j using Nat.strongRecOn with
   | _ j ih =>
     intro hj
     have ho : ops[j]? = some ops[j] := Array.getElem?_eq_getElem hj
     cases hh : l.getD j false with
     | true => rfl
     | false =>
       exfalso
       have hm : j ∈ Region.ready md ops l := mem_ready.2 ⟨by
        rw [Array.getD_eq_getD_getElem?] at hh ⊢
        rw [Array.getElem?_eq_getElem (by omega)] at hh ⊢
        exact hh, ops[j], ho, fun e he hb => by
        have h1 := List.all_eq_true.1 hc j (List.mem_range.2 hj)
        simp only [ho, Bool.and_eq_true] at h1
        have h2 := Array.all_eq_true_iff_forall_mem.1 h1.2 e he
        simp only [hb, Bool.not_true, Bool.false_or, decide_eq_true_eq] at h2
        exact ih e.on h2 (by omega)⟩
       rw [hr] at hm
       cases hm
  rw [hn.eq all]
  exact hQ l g w all hS
 intro fuel
 induction fuel with
 | zero =>
   intro l a w hsz hcnt hn
   have h0 := unl_none l.toList (by omega)
   have hr : Region.ready md ops l = [] := by
    rw [List.eq_nil_iff_forall_not_mem]
    intro j hj
    obtain ⟨h1, o, ho, _⟩ := mem_ready.1 hj
    have hlt : j < l.size := by rw [hsz]; exact (Array.getElem?_eq_some_iff.1 ho).1
    have h2 := h0 j (by simpa using hlt)
    rw [Array.getElem?_toList] at h2
    rw [Array.getD_eq_getD_getElem?, h2] at h1
    cases h1
   exact ⟨hr, fin l a w hsz hr hn⟩
 | succ fuel ih =>
   intro l a w hsz hcnt hnn
   refine ⟨fun hr => fin l a w hsz hr hnn, fun i hi => ?_⟩
   obtain ⟨g, hn, hS⟩ := hnn
   obtain ⟨h1, o, ho, hall⟩ := mem_ready.1 hi
   have hlt : i < l.size := by rw [hsz]; exact (Array.getElem?_eq_some_iff.1 ho).1
   have hli : l.toList[i]? = some false := by
    rw [Array.getElem?_toList, Array.getElem?_eq_getElem hlt]
    rw [Array.getD_eq_getD_getElem?, Array.getElem?_eq_getElem hlt] at h1
    exact congrArg some h1
   have h1f : l.getD i false = false := by
    rw [Array.getD_eq_getD_getElem?, ← Array.getElem?_toList, hli]
    rfl
   have hstep : ∀ (v : Value) (w' : World), After aF S i o l g v w' → wpAny P md ops Q fuel (l.setIfInBounds i true) (a.put o.dst v) w' := fun v w' ⟨g', hg', hv, hS'⟩ =>
    ih _ _ w' (by simpa using hsz) (by
     have := unl_set l.toList i hli
     rw [Array.toList_setIfInBounds]
     omega) ⟨g', (hn.turn hF ho h1f hg').put ho hv, hS'⟩
   have hw := hg i o ho l g w hsz h1f hall hS
   have he : execOp a.eval o = execOp (aF g).eval o := execOp_congr o (fun cs b => Region.noSelect_spec hs i o cs b ho) fun x hx => hn.eval x fun t ht => waits hc ho hall (by
    subst ht
    exact List.mem_append_left _ (List.mem_filterMap.2 ⟨.tmp t, by simpa using hx, rfl⟩))
   have hwt : Region.wanted o (yielded ops a.tmps) = Region.wanted o (yielded ops (aF g).tmps) := by
    unfold Region.wanted
    cases hgd : o.guard with
    | none => rfl
    | some gw =>
      obtain ⟨gg, want⟩ := gw
      have hy : yielded ops a.tmps gg = yielded ops (aF g).tmps gg := by
       unfold yielded
       cases ht : (ops[gg]?).bind (·.dst) with
       | none => rfl
       | some t =>
         have := hn.at_ t (waits hc ho hall (by simp [Oper.looksAt, hgd, ht]))
         show (match (some t).bind (a.tmps[·]?) with | some (.bool b) => some b | _ => none) = (match (some t).bind ((aF g).tmps[·]?) with | some (.bool b) => some b | _ => none)
         simp only [Option.bind_some, this]
      simp only [hy]
   unfold wpOp
   simp only [ho]
   rw [hwt]
   by_cases hq : Region.wanted o (yielded ops (aF g).tmps) = true
   ·rw [if_pos hq] at hw ⊢
    refine .inl ?_
    unfold Oper.wp
    rw [he]
    rcases hw with ⟨v, w', hrun | ⟨hrun, rfl⟩, hA⟩ | ⟨f, args, w1, hrun, hcall⟩
    ·rw [hrun, Oper.upon_value]
     exact hstep v w' hA
    ·rw [hrun, Oper.upon_skip]
     exact hstep undef w' hA
    ·rw [hrun, Oper.upon_enter]
     refine hcall.mono ?_
     rintro e w' ⟨v, rfl, hA⟩
     exact hstep v w' hA
   ·rw [if_neg hq] at hw ⊢
    exact hstep undef w hw
theorem fill_turn (a0 : Act) (ds : List Tmp) (g : Tmp → Value) (d : Tmp) (v : Value) : (∀ t, t ≠ d → (fillA a0 ds (upd g d v)).tmps[t]? = (fillA a0 ds g).tmps[t]?) ∧ (fillA a0 ds (upd g d v)).defers = (fillA a0 ds g).defers ∧ (fillA a0 ds (upd g d v)).tmps.size = (fillA a0 ds g).tmps.size :=
 ⟨fun _ ht => fillT_other g d v ht ds _ _ rfl rfl, rfl, by simp [fillA, fillT_size]⟩
theorem wp_region_made {id : Nat} {a a0 : Act} {w : World} {S : Array Bool → (Tmp → Value) → World → Prop} (ds : List Tmp) (hm : P.follows .mixedOrders = true) (hc : regCheck .any ops = true) (hs : Region.noSelect ops = true)
 (g0 : Tmp → Value) (hn : Near ops (fillA a0 ds g0) (Array.replicate ops.size false) a) (hS : S (Array.replicate ops.size false) g0 w.drew) (hg : GoesAllM P .any ops (fillA a0 ds) S)
 (hQ : ∀ l g w, (∀ j, j < ops.size → l.getD j false = true) → S l g w → Q .normal (fillA a0 ds g) w) :
 (Code.region id ops true).wp P Q a w :=
 wp_region_any hm (wpAny_made hc hs (fill_turn a0 ds) hg hQ ops.size _ a _ (by simp) (by
  refine Nat.le_trans List.countP_le_length ?_
  simp) ⟨g0, hn, hS⟩)
end
end
theorem none_key (ps : List (List Int)) : ps.length ≠ 1 ∧ decide (ps = [[-1]]) = false ∨ ∃ (h : ps.length = 1), ((ps[0]'(by omega)).length ≠ 1 ∧ decide (ps = [[-1]]) = false ∨ ∃ (h2 : (ps[0]'(by omega)).length = 1), ((ps[0]'(by omega))[0]'(by omega) ≠ -1 ∧ decide (ps = [[-1]]) = false ∨ (ps[0]'(by omega))[0]'(by omega) = -1 ∧ decide (ps = [[-1]]) = true)) := by
 by_cases h1 : ps.length = 1
 ·refine .inr ⟨h1, ?_⟩
  match ps, h1 with
  | [p], _ =>
    by_cases h2 : p.length = 1
    ·refine .inr ⟨h2, ?_⟩
     match p, h2 with
     | [x], _ =>
       by_cases h3 : x = -1
       ·exact .inr ⟨h3, by rw [h3]; rfl⟩
       ·exact .inl ⟨h3, decide_eq_false (by simpa using h3)⟩
    ·exact .inl ⟨h2, decide_eq_false (fun e => h2 (by injection e with e; rw [e]; rfl))⟩
 ·exact .inl ⟨h1, decide_eq_false (fun e => h1 (by rw [e]; rfl))⟩
set_option maxRecDepth 100000 in
set_option maxHeartbeats 4000000 in
theorem isNone_any (A : Option Addr) (n c : Nat) (ps : List (List Int)) (q : Bool) (w : World) (hn : ps.length = n) (hq : decide (ps = [[-1]]) = q) (hl : n ≤ 4294967296) (hr : RdP w A ps) :
 Calls Tryz.prog 80 #[.slice A n c] w fun e w' => e = .returned (.bool q) ∧ w = w' := by
 subst hn
 rcases none_key ps with ⟨h1, h⟩ | ⟨h1, ⟨h2, h⟩ | ⟨h2, ⟨h3, h⟩ | ⟨h3, h⟩⟩⟩
 all_goals
  rw [h] at hq
  subst hq
  clear h
 ·have t1 : ((ps.length : Int) == 1) = false := beq_false_of_ne (by omega)
  clear h1
  go_enter Tryz.func80, Tryz.ntmps80
  go_wp2
  go_ret
  exact ⟨rfl, rfl⟩
 ·obtain ⟨b, o, hA, hb, hcc⟩ := hr (by omega)
  obtain ⟨A', c', hck, hrk⟩ := hcc 0 (by omega)
  rw [Nat.add_zero] at hck
  cases hA
  obtain ⟨m, hm⟩ : ∃ m, (ps[0]'(by omega)).length = m := ⟨_, rfl⟩
  rw [hm] at hck h2
  clear hm hcc hrk
  have t1 : ((ps.length : Int) == 1) = true := beq_iff_eq.2 (by omega)
  have p0 : 0 < ps.length := by omega
  have t2 : ((m : Int) == 1) = false := beq_false_of_ne (by omega)
  clear h1 h2
  go_enter Tryz.func80, Tryz.ntmps80
  go_wp2
  go_ret
  exact ⟨rfl, rfl⟩
 all_goals
  obtain ⟨b, o, hA, hb, hcc⟩ := hr (by omega)
  obtain ⟨A', c', hck, hrk⟩ := hcc 0 (by omega)
  rw [Nat.add_zero] at hck
  obtain ⟨b2, o2, hA2, hb2, hc2⟩ := hrk.int_at (by omega)
  have hc3 := hc2 0 (by omega)
  rw [Nat.add_zero] at hc3
  cases hA
  cases hA2
  obtain ⟨x, hx⟩ : ∃ x, (ps[0]'(by omega))[0]'(by omega) = x := ⟨_, rfl⟩
  rw [hx] at hc3 h3
  rw [h2] at hck
  have t1 : ((ps.length : Int) == 1) = true := beq_iff_eq.2 (by omega)
  have p0 : 0 < ps.length := by omega
  clear hx hc2 hcc hrk h2 h1
 ·have t3 : (x == -1) = false := beq_false_of_ne h3
  clear h3
  go_enter Tryz.func80, Tryz.ntmps80
  go_wp2
  go_ret
  exact ⟨rfl, rfl⟩
 ·subst h3
  go_enter Tryz.func80, Tryz.ntmps80
  go_wp2
  go_ret
  exact ⟨rfl, rfl⟩
theorem fold_min (l : List Int) : ∀ a m : Int, m ≤ l.foldl min a ↔ m ≤ a ∧ ∀ x ∈ l, m ≤ x := by
 induction l with
 | nil => intro a m; simp
 | cons c l ih =>
   intro a m
   rw [List.foldl_cons, ih]
   simp only [List.mem_cons, forall_eq_or_imp]
   exact ⟨fun h => ⟨by omega, by omega, h.2⟩, fun h => ⟨by omega, h.2.2⟩⟩
theorem fold_max (l : List Int) : ∀ a m : Int, l.foldl max a ≤ m ↔ a ≤ m ∧ ∀ x ∈ l, x ≤ m := by
 induction l with
 | nil => intro a m; simp
 | cons c l ih =>
   intro a m
   rw [List.foldl_cons, ih]
   simp only [List.mem_cons, forall_eq_or_imp]
   exact ⟨fun h => ⟨by omega, by omega, h.2⟩, fun h => ⟨by omega, h.2.2⟩⟩
theorem part_minmax {p : List Int} (h : 1 ≤ p.length) : p.all numOk = true ↔ -1 ≤ Lib.minOf p ∧ Lib.maxOf p ≤ 1114111 := by
 match p, h with
 | a :: p, _ =>
   unfold Lib.minOf Lib.maxOf
   rw [fold_min, fold_max]
   simp only [List.headD_cons, List.all_eq_true, numOk_iff]
   constructor
   ·intro h
    exact ⟨⟨(h a (List.mem_cons_self ..)).1, fun x hx => (h x hx).1⟩, (h a (List.mem_cons_self ..)).2, fun x hx => (h x hx).2⟩
   ·intro h x hx
    exact ⟨h.1.2 x hx, h.2.2 x hx⟩
set_option maxRecDepth 100000 in
set_option maxHeartbeats 4000000 in
theorem pparams_any (A : Option Addr) (c : Nat) (ps : List (List Int)) (q : Bool) (w : World) (hq : parOk ps = q) (hl : ps.length ≤ 4294967296) (hp : ∀ p ∈ ps, p.length ≤ 4294967296) (hr : RdP w A ps) :
 Calls Tryz.prog 66 #[.slice A ps.length c] w fun e w' => e = .returned (.bool q) ∧ w = w' := by
 by_cases h16 : 16 < ps.length
 ·obtain rfl : false = q := (par_long h16).symm.trans hq
  clear hq
  go_enter Tryz.func66, Tryz.ntmps66
  go_wp2
  go_ret
  exact ⟨rfl, rfl⟩
 ·have HQ := Lib.hid hq
  clear hq
  cases hN : decide (ps = [[-1]]) with
  | true =>
    have HN := Lib.hid hN
    have he := of_decide_eq_true hN
    obtain rfl : false = q := by rw [← HQ.out, he]; rfl
    clear hN he
    go_enter Tryz.func66, Tryz.ntmps66
    go_wp2_with fail
    refine (isNone_any A _ c ps true _ rfl HN.out hl hr).mono ?_
    rintro e w1 ⟨rfl, rfl⟩
    go_wp2_with fail
    go_ret
    exact ⟨rfl, rfl⟩
  | false =>
    have HN := Lib.hid hN
    have HNE := Lib.hid (of_decide_eq_false hN)
    clear hN
    go_enter Tryz.func66, Tryz.ntmps66
    go_wp2_with fail
    refine (isNone_any A _ c ps false _ rfl HN.out hl hr).mono ?_
    rintro e w1 ⟨rfl, rfl⟩
    go_wp2_with fail
    go_loop [14] (fun i => ∃ k : Nat, k ≤ ps.length ∧ i = .int .i64 k ∧ (ps.take k).all partB = true) (fun i => ps.length - (intOf i).toNat)
    case atStart => exact ⟨0, Nat.zero_le _, rfl, rfl⟩
    case round =>
     obtain ⟨k, hk, rfl, hall⟩ := hrel
     have HA := Lib.hid hall
     clear hall
     by_cases hlt : k < ps.length
     ·obtain ⟨b, o, hA, hb, hcc⟩ := hr (by omega)
      cases hA
      obtain ⟨A', c', hck, hrk⟩ := hcc k hlt
      obtain ⟨p, hp'⟩ : ∃ p, (ps[k]'hlt) = p := ⟨_, rfl⟩
      have hpl := hp _ (List.getElem_mem hlt)
      rw [hp'] at hck hrk hpl
      have HP := Lib.hid hp'
      clear hp' hcc
      obtain ⟨n, hn⟩ : ∃ n, p.length = n := ⟨_, rfl⟩
      rw [hn] at hck hpl
      have HLN := Lib.hid hn
      clear hn
      by_cases hs : 1 ≤ n ∧ n ≤ 8
      ·obtain ⟨n1, n8⟩ := hs
       obtain ⟨b2, o2, hA2, hb2, hc2⟩ := hrk.int_at (by rw [HLN.out]; omega)
       cases hA2
       have HC2 := Lib.hid (fun j (hj : j < p.length) => (hc2 j hj).trans (show some (Value.int .i64 p[j]) = some (.int .i64 (p.getD j 0)) by rw [List.getD_eq_getElem?_getD, List.getElem?_eq_getElem hj]; rfl))
       clear hc2
       have HT := Lib.hid (show p.take n = p from List.take_of_length_le (by rw [HLN.out]; omega))
       have HM := Lib.hid (part_minmax (p := p) (by rw [HLN.out]; omega))
       obtain ⟨mn, hmn⟩ : ∃ mn, Lib.minOf (p.take n) = mn := ⟨_, rfl⟩
       obtain ⟨mx, hmx⟩ : ∃ mx, Lib.maxOf (p.take n) = mx := ⟨_, rfl⟩
       have HMN := Lib.hid hmn
       have HMX := Lib.hid hmx
       clear hmn hmx
       by_cases m1 : -1 ≤ mn
       ·by_cases m2 : mx ≤ 1114111
        ·have E := Lib.hid (show (ps.take (k + 1)).all partB = true by
          rw [List.take_succ_eq_append_getElem hlt, List.all_append, HA.out, HP.out]
          simp only [List.all_cons, List.all_nil, Bool.and_true, Bool.true_and]
          refine partB_yes (by rw [HLN.out]; omega) (by rw [HLN.out]; omega) (HM.out.2 ?_)
          have e1 := HMN.out
          have e2 := HMX.out
          rw [HT.out] at e1 e2
          rw [e1, e2]
          exact ⟨m1, m2⟩)
         go_wp2_with fail
         refine (Tryz.slices_Min_int _ _ n _ p _ (by omega) (by rw [HLN.out]; omega) (by omega) HC2.out).mono ?_
         rw [HMN.out]
         rintro e w1 ⟨rfl, rfl⟩
         go_wp2_with fail
         refine (Tryz.slices_Max_int _ _ n _ p _ (by omega) (by rw [HLN.out]; omega) (by omega) HC2.out).mono ?_
         rw [HMX.out]
         rintro e w1 ⟨rfl, rfl⟩
         go_wp2_with fail
         go_round
         case rel => exact ⟨k + 1, by omega, by go_num, E.out⟩
         case measure => simp [intOf]; omega
        ·have E := Lib.hid (show false = q by
          rw [← HQ.out]
          refine (par_no hlt ?_).symm
          rw [HP.out]
          cases hB : partB p with
          | false => rfl
          | true =>
            exfalso
            unfold partB at hB
            simp only [Bool.and_eq_true] at hB
            have := (HM.out.1 hB.2).2
            have e2 := HMX.out
            rw [HT.out] at e2
            omega)
         go_wp2_with fail
         refine (Tryz.slices_Min_int _ _ n _ p _ (by omega) (by rw [HLN.out]; omega) (by omega) HC2.out).mono ?_
         rw [HMN.out]
         rintro e w1 ⟨rfl, rfl⟩
         go_wp2_with fail
         refine (Tryz.slices_Max_int _ _ n _ p _ (by omega) (by rw [HLN.out]; omega) (by omega) HC2.out).mono ?_
         rw [HMX.out]
         rintro e w1 ⟨rfl, rfl⟩
         go_wp2_with fail
         go_ret
         exact ⟨ret_b E.out, rfl⟩
       ·have E := Lib.hid (show false = q by
         rw [← HQ.out]
         refine (par_no hlt ?_).symm
         rw [HP.out]
         cases hB : partB p with
         | false => rfl
         | true =>
           exfalso
           unfold partB at hB
           simp only [Bool.and_eq_true] at hB
           have := (HM.out.1 hB.2).1
           have e2 := HMN.out
           rw [HT.out] at e2
           omega)
        go_wp2_with fail
        refine (Tryz.slices_Min_int _ _ n _ p _ (by omega) (by rw [HLN.out]; omega) (by omega) HC2.out).mono ?_
        rw [HMN.out]
        rintro e w1 ⟨rfl, rfl⟩
        go_wp2_with fail
        go_ret
        exact ⟨ret_b E.out, rfl⟩
      ·have E := Lib.hid (show false = q by
        rw [← HQ.out]
        refine (par_no hlt ?_).symm
        rw [HP.out]
        exact part_len (by rw [HLN.out]; exact hs))
       by_cases n1 : n < 1
       ·clear hs
        go_wp2_with fail
        go_ret
        exact ⟨ret_b E.out, rfl⟩
       ·have n8 : 8 < n := by omega
        clear hs
        go_wp2_with fail
        go_ret
        exact ⟨ret_b E.out, rfl⟩
     ·have E := Lib.hid (show true = q by
       have := HA.out
       rw [List.take_of_length_le (by omega)] at this
       rw [← HQ.out]
       exact (parOk_yes (by omega) HNE.out this).symm)
      go_wp2_with fail
      go_ret
      exact ⟨ret_b E.out, rfl⟩
end Go.Proofs.YtjlhhelikiegdaaGreatDoor
