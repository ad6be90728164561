/-
  Layer 3's mathematics: a sequence, whether it may be, its bytes, and the sequence with which bytes begin. A region that draws its order, in which memory is made: what an operation yields may hang on what the run alone tells (where a new block lies): one look at each operation serves whatever order is picked. A region that draws its order, with one new block that is stored into (and one slice that is handed to a call): what each operation keeps.
-/
import Derived.Test.YtfifeofmfpjgfaaDoorG04
import Derived.Test.YtfifeofmfpjgfaaDoorG05
import Derived.Laws.NewFold
namespace Go.Proofs.YtfifeofmfpjgfaaDoor
structure Sq where
 kind : Int
 priv : UInt8
 params : List (List Int)
 inter : List UInt8
 final : UInt8
 data : List UInt8
def btw (a b : Nat) (c : UInt8) : Bool := decide (a ≤ c.toNat) && decide (c.toNat ≤ b)
theorem btw_iff (a b : Nat) (c : UInt8) : btw a b c = true ↔ a ≤ c.toNat ∧ c.toNat ≤ b := by simp [btw]
theorem btw_no (a b : Nat) (c : UInt8) : btw a b c = false ↔ ¬ (a ≤ c.toNat ∧ c.toNat ≤ b) := by rw [← btw_iff]; simp
def parOk (l : List (List Int)) : Bool := decide (l.length ≤ 16) && decide (l ≠ [[-1]]) && l.all fun p => decide (1 ≤ p.length) && decide (p.length ≤ 8) && p.all fun n => decide (-1 ≤ n) && decide (n ≤ 1114111)
def lastOk (s : Sq) : Bool :=
 if s.kind = 1 ∨ s.kind = 2 ∨ s.kind = 3 then btw 64 126 s.final
 else if s.kind = 5 then btw 48 126 s.final && (decide (s.inter ≠ []) || !([79, 80, 88, 91, 93, 92, 94, 95] : List UInt8).contains s.final)
 else decide (s.kind = 4) && decide (s.final = 0)
def bareOk (s : Sq) : Bool :=
 !(decide (s.kind = 2 ∨ s.kind = 4 ∨ s.kind = 5) && (decide (s.priv ≠ 0) || decide (s.params ≠ []))) && !(decide (s.kind = 2 ∨ s.kind = 4) && decide (s.inter ≠ [])) && (decide (s.data = []) || decide (s.kind = 3 ∨ s.kind = 4))
def privOk (c : UInt8) : Bool := decide (c = 0) || btw 60 63 c
def okS (s : Sq) : Bool := privOk s.priv && parOk s.params && decide (s.inter.length ≤ 2) && s.inter.all (btw 32 47) && s.data.all (btw 32 126) && lastOk s && bareOk s
def mayS (s : Sq) : Int := if 4096 < s.data.length then 4 else if okS s = true then 0 else 1
def partL : List Int → List UInt8
 | [] => []
 | [n] => textL n
 | n :: m :: p => textL n ++ (58 :: partL (m :: p))
def parL : List (List Int) → List UInt8
 | [] => []
 | [p] => partL p
 | p :: q :: l => partL p ++ (59 :: parL (q :: l))
def privL (c : UInt8) : List UInt8 := if c = 0 then [] else [c]
def bodyL (s : Sq) : List UInt8 := privL s.priv ++ parL s.params ++ s.inter
def putS (s : Sq) : List UInt8 :=
 if s.kind = 1 then 27 :: 91 :: (bodyL s ++ [s.final])
 else if s.kind = 2 then [27, 79, s.final]
 else if s.kind = 3 then 27 :: 80 :: (bodyL s ++ (s.final :: (s.data ++ [27, 92])))
 else if s.kind = 4 then 27 :: 93 :: (s.data ++ [27, 92])
 else 27 :: (s.inter ++ [s.final])
def numsGo (n : Int) (one : List Int) : List UInt8 → List (List Int)
 | [] => [one ++ [n]]
 | c :: l => if isD c = true then numsGo (rd 1114112 n c) one l else if c = 59 then (one ++ [n]) :: numsGo (-1) [] l else numsGo (-1) (one ++ [n]) l
def numsL (l : List UInt8) : List (List Int) := if l = [] then [] else numsGo (-1) [] l
theorem go_figs (l m : List UInt8) (n : Int) (one : List Int) (h : ∀ c ∈ l, isD c = true) : numsGo n one (l ++ m) = numsGo (l.foldl (rd 1114112) n) one m := by
 induction l generalizing n with
 | nil => rfl
 | cons c l ih =>
   have hc := h c (List.mem_cons_self ..)
   rw [List.cons_append]
   show (if isD c = true then numsGo (rd 1114112 n c) one (l ++ m) else _) = _
   rw [if_pos hc, ih _ (fun d hd => h d (List.mem_cons_of_mem _ hd))]
   rfl
theorem go_text (n : Int) (h0 : -1 ≤ n) (h1 : n ≤ 1114111) (m : List UInt8) (one : List Int) : numsGo (-1) one (textL n ++ m) = numsGo n one m := by
 rw [go_figs _ _ _ _ (text_all_isD n)]
 by_cases h : n < 0
 ·rw [textL_neg n h, show n = -1 by omega]; rfl
 ·rw [text_read _ _ (by omega) (by omega), show min n 1114112 = n by omega]
def partOk (p : List Int) : Prop := ∀ n ∈ p, -1 ≤ n ∧ n ≤ 1114111
theorem go_part : ∀ (p : List Int) (_ : p ≠ []) (_ : partOk p) (one : List Int), numsGo (-1) one (partL p) = [one ++ p] ∧ ∀ m, numsGo (-1) one (partL p ++ (59 :: m)) = (one ++ p) :: numsGo (-1) [] m := by
 intro p
 induction p with
 | nil => intro h; exact absurd rfl h
 | cons n p ih =>
   intro _ ho one
   obtain ⟨h0, h1⟩ := ho n (List.mem_cons_self ..)
   cases p with
   | nil =>
     refine ⟨?_, fun m => ?_⟩
     ·have := go_text n h0 h1 [] one
      rw [List.append_nil] at this
      exact this
     ·have := go_text n h0 h1 (59 :: m) one
      exact this
   | cons k p =>
     have ih' := ih (by simp) (fun x hx => ho x (List.mem_cons_of_mem _ hx)) (one ++ [n])
     have e : partL (n :: k :: p) = textL n ++ (58 :: partL (k :: p)) := rfl
     refine ⟨?_, fun m => ?_⟩
     ·rw [e, go_text n h0 h1]
      show numsGo (-1) (one ++ [n]) (partL (k :: p)) = _
      rw [ih'.1, List.append_assoc]; rfl
     ·rw [e, List.append_assoc, go_text n h0 h1]
      show numsGo (-1) (one ++ [n]) (partL (k :: p) ++ (59 :: m)) = _
      rw [ih'.2 m, List.append_assoc]; rfl
theorem go_par : ∀ (l : List (List Int)), l ≠ [] → (∀ p ∈ l, p ≠ [] ∧ partOk p) → numsGo (-1) [] (parL l) = l := by
 intro l
 induction l with
 | nil => intro h; exact absurd rfl h
 | cons p l ih =>
   intro _ ho
   obtain ⟨h0, h1⟩ := ho p (List.mem_cons_self ..)
   cases l with
   | nil => exact (go_part p h0 h1 []).1
   | cons q l =>
     have ih' := ih (by simp) (fun x hx => ho x (List.mem_cons_of_mem _ hx))
     have e : parL (p :: q :: l) = partL p ++ (59 :: parL (q :: l)) := rfl
     rw [e, (go_part p h0 h1 []).2, ih']; rfl
theorem part_nil : ∀ (p : List Int), partOk p → p ≠ [] → partL p = [] → p = [-1] := by
 intro p ho hn h
 match p with
 | [] => exact absurd rfl hn
 | [n] =>
   obtain ⟨h0, h1⟩ := ho n (List.mem_cons_self ..)
   by_cases hneg : n < 0
   ·rw [show n = -1 by omega]
   ·exact absurd h (text_ne n (by omega))
 | n :: m :: p => simp [partL] at h
theorem par_nil : ∀ (l : List (List Int)), (∀ p ∈ l, p ≠ [] ∧ partOk p) → parL l = [] → l = [] ∨ l = [[-1]] := by
 intro l ho h
 match l with
 | [] => exact .inl rfl
 | [p] => exact .inr (by rw [part_nil p (ho p (List.mem_cons_self ..)).2 (ho p (List.mem_cons_self ..)).1 h])
 | p :: q :: l => simp [parL] at h
theorem parOk_all {l : List (List Int)} (h : parOk l = true) : (∀ p ∈ l, p ≠ [] ∧ partOk p) ∧ l ≠ [[-1]] := by
 simp only [parOk, Bool.and_eq_true, decide_eq_true_eq, List.all_eq_true] at h
 refine ⟨fun p hp => ?_, h.1.2⟩
 obtain ⟨⟨h1, _⟩, h2⟩ := h.2 p hp
 refine ⟨fun e => by rw [e] at h1; simp at h1, fun n hn => h2 n hn⟩
theorem nums_par {l : List (List Int)} (h : parOk l = true) : numsL (parL l) = l := by
 obtain ⟨h1, h2⟩ := parOk_all h
 unfold numsL
 by_cases he : l = []
 ·subst he; rfl
 ·rw [if_neg (fun e => (par_nil l h1 e).elim he h2)]
  exact go_par l he h1
end Go.Proofs.YtfifeofmfpjgfaaDoor
namespace Go.Proofs.YtfifeofmfpjgfaaDoor
open Go.RowKit
section
section
variable {P : Program} {ops : Array Oper} {Q : Exit → Act → World → Prop} {md : Region.Mode}
def upd (g : Tmp → Value) (d : Tmp) (v : Value) : Tmp → Value := fun t => if t = d then v else g t
theorem upd_at (g : Tmp → Value) (d : Tmp) (v : Value) : upd g d v d = v := if_pos rfl
theorem upd_ne (g : Tmp → Value) {d t : Tmp} (v : Value) (h : t ≠ d) : upd g d v t = g t := if_neg h
def fillT (g : Tmp → Value) : List Tmp → Array Value → Array Value
 | [], t => t
 | d :: ds, t => fillT g ds (t.setIfInBounds d (g d))
def fillA (a : Act) (ds : List Tmp) (g : Tmp → Value) : Act := ⟨fillT g ds a.tmps, a.defers⟩
theorem fillT_size (g : Tmp → Value) : ∀ (ds : List Tmp) (t : Array Value), (fillT g ds t).size = t.size
 | [], _ => rfl
 | d :: ds, t => by
   show (fillT g ds _).size = _
   rw [fillT_size g ds, Array.size_setIfInBounds]
theorem fillT_other (g : Tmp → Value) (d : Tmp) (v : Value) {t : Tmp} (ht : t ≠ d) : ∀ (ds : List Tmp) (s s' : Array Value), s.size = s'.size → s[t]? = s'[t]? → (fillT (upd g d v) ds s)[t]? = (fillT g ds s')[t]?
 | [], _, _, _, h => h
 | x :: ds, s, s', hz, h => by
   refine fillT_other g d v ht ds _ _ (by simp [hz]) ?_
   by_cases hx : x = t
   ·subst hx
    rw [upd_ne g v ht]
    by_cases hl : x < s.size
    ·rw [Array.getElem?_setIfInBounds_self_of_lt hl, Array.getElem?_setIfInBounds_self_of_lt (hz ▸ hl)]
    ·rw [Array.getElem?_eq_none (by rw [Array.size_setIfInBounds]; exact Nat.le_of_not_lt hl), Array.getElem?_eq_none (by rw [Array.size_setIfInBounds, ← hz]; exact Nat.le_of_not_lt hl)]
   ·rw [Array.getElem?_setIfInBounds_ne hx, Array.getElem?_setIfInBounds_ne hx, h]
def After (aF : (Tmp → Value) → Act) (S : Array Bool → (Tmp → Value) → World → Prop) (i : Nat) (o : Oper) (l : Array Bool) (g : Tmp → Value) (v : Value) (w : World) : Prop :=
 ∃ g', (g' = g ∨ ∃ d u, o.dst = some d ∧ g' = upd g d u) ∧ (∀ d, o.dst = some d → (aF g').tmps[d]? = some v) ∧ S (l.setIfInBounds i true) g' w
def GoesM (P : Program) (md : Region.Mode) (ops : Array Oper) (aF : (Tmp → Value) → Act) (S : Array Bool → (Tmp → Value) → World → Prop) (i : Nat) (o : Oper) : Prop :=
 ∀ l g w, l.size = ops.size → l.getD i false = false → (∀ e ∈ o.after, Region.binds md e = true → l.getD e.on false = true) → S l g w →
   if Region.wanted o (yielded ops (aF g).tmps) = true then
    (∃ v w', ((execOp (aF g).eval o).run P w = .ok (.value v) w' ∨ ((execOp (aF g).eval o).run P w = .ok .skip w' ∧ v = undef)) ∧ After aF S i o l g v w') ∨
    (∃ f args w1, (execOp (aF g).eval o).run P w = .ok (.enter f args) w1 ∧ Calls P f args w1 fun e w' => ∃ v, e = .returned v ∧ After aF S i o l g v w')
   else After aF S i o l g undef w
def GoesAllM (P : Program) (md : Region.Mode) (ops : Array Oper) (aF : (Tmp → Value) → Act) (S : Array Bool → (Tmp → Value) → World → Prop) : Prop :=
 ∀ (i : Nat) (o : Oper), ops[i]? = some o → GoesM P md ops aF S i o
theorem Near.turn {aF : (Tmp → Value) → Act} (hF : ∀ g d v, (∀ t, t ≠ d → (aF (upd g d v)).tmps[t]? = (aF g).tmps[t]?) ∧ (aF (upd g d v)).defers = (aF g).defers ∧ (aF (upd g d v)).tmps.size = (aF g).tmps.size)
 {g g' : Tmp → Value} {l : Array Bool} {a : Act} {i : Nat} {o : Oper} (ho : ops[i]? = some o) (hl : l.getD i false = false) (hg : g' = g ∨ ∃ d u, o.dst = some d ∧ g' = upd g d u) (h : Near ops (aF g) l a) : Near ops (aF g') l a := by
 rcases hg with rfl | ⟨d, u, hd, rfl⟩
 ·exact h
 ·obtain ⟨h1, h2, h3⟩ := hF g d u
  refine ⟨h.defers.trans h2.symm, h.size.trans h3.symm, fun t ht => ?_⟩
  have hne : t ≠ d := fun e => by
   have := ht i o ho (by rw [hd, e])
   rw [hl] at this
   cases this
  rw [h1 t hne]
  exact h.at_ t ht
theorem wpAny_made (hc : regCheck md ops = true) (hs : Region.noSelect ops = true) {aF : (Tmp → Value) → Act} {S : Array Bool → (Tmp → Value) → World → Prop}
 (hF : ∀ g d v, (∀ t, t ≠ d → (aF (upd g d v)).tmps[t]? = (aF g).tmps[t]?) ∧ (aF (upd g d v)).defers = (aF g).defers ∧ (aF (upd g d v)).tmps.size = (aF g).tmps.size)
 (hg : GoesAllM P md ops aF S) (hQ : ∀ l g w, (∀ j, j < ops.size → l.getD j false = true) → S l g w → Q .normal (aF g) w) :
 ∀ (fuel : Nat) (l : Array Bool) (a : Act) (w : World), l.size = ops.size → l.toList.countP (fun b => !b) ≤ fuel → (∃ g, Near ops (aF g) l a ∧ S l g w) → wpAny P md ops Q fuel l a w := by
 have fin : ∀ (l : Array Bool) (a : Act) (w : World), l.size = ops.size → Region.ready md ops l = [] → (∃ g, Near ops (aF g) l a ∧ S l g w) → Q .normal a w := fun l a w hsz hr ⟨g, hn, hS⟩ => by
  have all : ∀ j, j < ops.size → l.getD j false = true := by
   intro j
   induction j using Nat.strongRecOn with
   | _ j ih =>
     intro hj
     have ho : ops[j]? = some ops[j] := Array.getElem?_eq_getElem hj
     cases hh : l.getD j false with
     | true => rfl
     | false =>
       exfalso
       have hm : j ∈ Region.ready md ops l := mem_ready.2 ⟨by
        rw [Array.getD_eq_getD_getElem?] at hh ⊢
        rw [Array.getElem?_eq_getElem (by omega)] at hh ⊢
        exact hh, ops[j], ho, fun e he hb => by
        have h1 := List.all_eq_true.1 hc j (List.mem_range.2 hj)
        simp only [ho, Bool.and_eq_true] at h1
        have h2 := Array.all_eq_true_iff_forall_mem.1 h1.2 e he
        simp only [hb, Bool.not_true, Bool.false_or, decide_eq_true_eq] at h2
        exact ih e.on h2 (by omega)⟩
       rw [hr] at hm
       cases hm
  rw [hn.eq all]
  exact hQ l g w all hS
 intro fuel
 induction fuel with
 | zero =>
   intro l a w hsz hcnt hn
   have h0 := unl_none l.toList (by omega)
   have hr : Region.ready md ops l = [] := by
    rw [List.eq_nil_iff_forall_not_mem]
    intro j hj
    obtain ⟨h1, o, ho, _⟩ := mem_ready.1 hj
    have hlt : j < l.size := by rw [hsz]; exact (Array.getElem?_eq_some_iff.1 ho).1
    have h2 := h0 j (by simpa using hlt)
    rw [Array.getElem?_toList] at h2
    rw [Array.getD_eq_getD_getElem?, h2] at h1
    cases h1
   exact ⟨hr, fin l a w hsz hr hn⟩
 | succ fuel ih =>
   intro l a w hsz hcnt hnn
   refine ⟨fun hr => fin l a w hsz hr hnn, fun i hi => ?_⟩
   obtain ⟨g, hn, hS⟩ := hnn
   obtain ⟨h1, o, ho, hall⟩ := mem_ready.1 hi
   have hlt : i < l.size := by rw [hsz]; exact (Array.getElem?_eq_some_iff.1 ho).1
   have hli : l.toList[i]? = some false := by
    rw [Array.getElem?_toList, Array.getElem?_eq_getElem hlt]
    rw [Array.getD_eq_getD_getElem?, Array.getElem?_eq_getElem hlt] at h1
    exact congrArg some h1
   have h1f : l.getD i false = false := by
    rw [Array.getD_eq_getD_getElem?, ← Array.getElem?_toList, hli]
    rfl
   have hstep : ∀ (v : Value) (w' : World), After aF S i o l g v w' → wpAny P md ops Q fuel (l.setIfInBounds i true) (a.put o.dst v) w' := fun v w' ⟨g', hg', hv, hS'⟩ =>
    ih _ _ w' (by simpa using hsz) (by
     have := unl_set l.toList i hli
     rw [Array.toList_setIfInBounds]
     omega) ⟨g', (hn.turn hF ho h1f hg').put ho hv, hS'⟩
   have hw := hg i o ho l g w hsz h1f hall hS
   have he : execOp a.eval o = execOp (aF g).eval o := execOp_congr o (fun cs b => Region.noSelect_spec hs i o cs b ho) fun x hx => hn.eval x fun t ht => waits hc ho hall (by
    subst ht
    exact List.mem_append_left _ (List.mem_filterMap.2 ⟨.tmp t, by simpa using hx, rfl⟩))
   have hwt : Region.wanted o (yielded ops a.tmps) = Region.wanted o (yielded ops (aF g).tmps) := by
    unfold Region.wanted
    cases hgd : o.guard with
    | none => rfl
    | some gw =>
      obtain ⟨gg, want⟩ := gw
      have hy : yielded ops a.tmps gg = yielded ops (aF g).tmps gg := by
       unfold yielded
       cases ht : (ops[gg]?).bind (·.dst) with
       | none => rfl
       | some t =>
         have := hn.at_ t (waits hc ho hall (by simp [Oper.looksAt, hgd, ht]))
         show (match (some t).bind (a.tmps[·]?) with | some (.bool b) => some b | _ => none) = (match (some t).bind ((aF g).tmps[·]?) with | some (.bool b) => some b | _ => none)
         simp only [Option.bind_some, this]
      simp only [hy]
   unfold wpOp
   simp only [ho]
   rw [hwt]
   by_cases hq : Region.wanted o (yielded ops (aF g).tmps) = true
   ·rw [if_pos hq] at hw ⊢
    refine .inl ?_
    unfold Oper.wp
    rw [he]
    rcases hw with ⟨v, w', hrun | ⟨hrun, rfl⟩, hA⟩ | ⟨f, args, w1, hrun, hcall⟩
    ·rw [hrun, Oper.upon_value]
     exact hstep v w' hA
    ·rw [hrun, Oper.upon_skip]
     exact hstep undef w' hA
    ·rw [hrun, Oper.upon_enter]
     refine hcall.mono ?_
     rintro e w' ⟨v, rfl, hA⟩
     exact hstep v w' hA
   ·rw [if_neg hq] at hw ⊢
    exact hstep undef w hw
theorem fill_turn (a0 : Act) (ds : List Tmp) (g : Tmp → Value) (d : Tmp) (v : Value) : (∀ t, t ≠ d → (fillA a0 ds (upd g d v)).tmps[t]? = (fillA a0 ds g).tmps[t]?) ∧ (fillA a0 ds (upd g d v)).defers = (fillA a0 ds g).defers ∧ (fillA a0 ds (upd g d v)).tmps.size = (fillA a0 ds g).tmps.size :=
 ⟨fun _ ht => fillT_other g d v ht ds _ _ rfl rfl, rfl, by simp [fillA, fillT_size]⟩
theorem wp_region_made {id : Nat} {a a0 : Act} {w : World} {S : Array Bool → (Tmp → Value) → World → Prop} (ds : List Tmp) (hm : P.follows .mixedOrders = true) (hc : regCheck .any ops = true) (hs : Region.noSelect ops = true)
 (g0 : Tmp → Value) (hn : Near ops (fillA a0 ds g0) (Array.replicate ops.size false) a) (hS : S (Array.replicate ops.size false) g0 w.drew) (hg : GoesAllM P .any ops (fillA a0 ds) S)
 (hQ : ∀ l g w, (∀ j, j < ops.size → l.getD j false = true) → S l g w → Q .normal (fillA a0 ds g) w) :
 (Code.region id ops true).wp P Q a w :=
 wp_region_any hm (wpAny_made hc hs (fill_turn a0 ds) hg hQ ops.size _ a _ (by simp) (by
  refine Nat.le_trans List.countP_le_length ?_
  simp) ⟨g0, hn, hS⟩)
end
end
section
section
variable {P : Program} {ops : Array Oper} {md : Region.Mode}
theorem getD_up {l : Array Bool} {i j : Nat} (h : l.getD j false = true) : (l.setIfInBounds i true).getD j false = true := by
 by_cases hij : i = j
 ·subst hij
  have hlt : i < l.size := by
   rcases Nat.lt_or_ge i l.size with h1 | h1
   ·exact h1
   ·rw [Array.getD_eq_getD_getElem?, Array.getElem?_eq_none h1] at h
    cases h
  rw [Array.getD_eq_getD_getElem?, Array.getElem?_setIfInBounds_self_of_lt hlt]
  rfl
 ·rw [getD_set_ne false hij]
  exact h
theorem getD_dn {l : Array Bool} {i j : Nat} (h : (l.setIfInBounds i true).getD j false = false) : l.getD j false = false := by
 cases hh : l.getD j false with
 | false => rfl
 | true =>
   rw [getD_up hh] at h
   cases h
theorem getD_self {l : Array Bool} {i : Nat} (h : i < l.size) : (l.setIfInBounds i true).getD i false = true := by
 rw [Array.getD_eq_getD_getElem?, Array.getElem?_setIfInBounds_self_of_lt h]
 rfl
structure SM (w1 : World) (ia iz : Nat) (d : Tmp) (ty : TypeId) (z cs : Array Value) (ih ic : Nat) (dh : Tmp) (n : Nat) (xs : List Value) (l : Array Bool) (g : Tmp → Value) (w : World) : Prop where
 below : Below w1.heap.size w1 w
 made : l.getD ia false = true → ∃ b, g d = .pointer (some ⟨b, 0, none⟩) ∧ w1.heap.size ≤ b ∧ Blk w b ty (if l.getD iz false = true then cs else z)
 hand : l.getD ih false = true → l.getD ic false = false → ∃ A c, g dh = .slice A n c ∧ Rd w A xs
 turn : l.getD iz false = true → l.getD ia false = true
variable {w1 : World} {ia iz : Nat} {d : Tmp} {ty : TypeId} {z cs : Array Value} {ih ic : Nat} {dh : Tmp} {n : Nat} {xs : List Value} {l : Array Bool} {g : Tmp → Value} {w w' : World} {aF : (Tmp → Value) → Act} {i : Nat} {o : Oper}
theorem SM.quiet (h : SM w1 ia iz d ty z cs ih ic dh n xs l g w) (hb : Below w.heap.size w w') (hia : i ≠ ia) (hiz : i ≠ iz) (hih : i ≠ ih) : SM w1 ia iz d ty z cs ih ic dh n xs (l.setIfInBounds i true) g w' := by
 refine ⟨h.below.trans (hb.mono h.below.size), fun ha => ?_, fun ha hc => ?_, fun hz => ?_⟩
 ·rw [getD_set_ne false hia] at ha
  obtain ⟨b, h1, h2, h3⟩ := h.made ha
  refine ⟨b, h1, h2, ?_⟩
  rw [getD_set_ne false hiz]
  exact h3.below hb h3.lt
 ·rw [getD_set_ne false hih] at ha
  obtain ⟨A, c, h1, h2⟩ := h.hand ha (getD_dn hc)
  exact ⟨A, c, h1, h2.below hb⟩
 ·rw [getD_set_ne false hiz] at hz
  exact getD_up (h.turn hz)
theorem no_laid (k j : Nat) : (Array.replicate k false).getD j false = false := by
 rw [Array.getD_eq_getD_getElem?, Array.getElem?_replicate]
 split <;> rfl
theorem SM.zero (w1 : World) (hb : Below w1.heap.size w1 w) (k : Nat) : SM w1 ia iz d ty z cs ih ic dh n xs (Array.replicate k false) g w :=
 ⟨hb, (fun h => by rw [no_laid] at h; cases h), (fun h => by rw [no_laid] at h; cases h), (fun h => by rw [no_laid] at h; cases h)⟩
def GoesL (P : Program) (md : Region.Mode) (ops : Array Oper) (aF : (Tmp → Value) → Act) (S : Array Bool → (Tmp → Value) → World → Prop) : Nat → List Oper → Prop
 | _, [] => True
 | i, o :: os => GoesM P md ops aF S i o ∧ GoesL P md ops aF S (i + 1) os
theorem goes_cons {S : Array Bool → (Tmp → Value) → World → Prop} {os : List Oper} (h : GoesM P md ops aF S i o) (hs : GoesL P md ops aF S (i + 1) os) : GoesL P md ops aF S i (o :: os) := ⟨h, hs⟩
theorem goes_nil {S : Array Bool → (Tmp → Value) → World → Prop} : GoesL P md ops aF S i [] := trivial
theorem goesL_get {S : Array Bool → (Tmp → Value) → World → Prop} : ∀ (os : List Oper) (k : Nat), GoesL P md ops aF S k os → ∀ (j : Nat) (o : Oper), os[j]? = some o → GoesM P md ops aF S (k + j) o
 | [], _, _, _, _, h => by simp at h
 | x :: os, k, h, 0, o, ho => by
   simp at ho
   subst ho
   exact h.1
 | x :: os, k, h, j + 1, o, ho => by
   have := goesL_get os (k + 1) h.2 j o (by simpa using ho)
   rwa [show k + 1 + j = k + (j + 1) by omega] at this
theorem goesAllM_of_list {S : Array Bool → (Tmp → Value) → World → Prop} (h : GoesL P md ops aF S 0 ops.toList) : GoesAllM P md ops aF S := fun i o ho => by
 have := goesL_get ops.toList 0 h i o (by rw [← ho, Array.getElem?_toList])
 rwa [Nat.zero_add] at this
theorem run_loadVar_one {t : TypeId} {a : Addr} {v : Value} {w : World} (hag : ∀ w, (isAgg t).run P w = .ok false w) (hc : w.cell? a = some v) : (loadVar t a).run P w = .ok v w := by
 simp [loadVar, hag, hc, Result.andThen]
end
end
end Go.Proofs.YtfifeofmfpjgfaaDoor
