/-
  Layer 10's mathematics: events of keys, and their modifiers. A block that is written whole, and read whole. A region that draws its order, whose operations each yield one value in every world that meets S, and leave a world that meets S (loads, moves, tests, and calls whose answers hang on S alone): one look at each operation serves whatever order is picked. A region that draws its order, in which memory is made: what an operation yields may hang on what the run alone tells (where a new block lies): one look at each operation serves whatever order is picked. Layer 9, the landed keys: mathematics: its rows, the codes of all rows one after the other, and what is found among them.
-/
import Derived.Test.YtdfojkbgdoiglaaGreatDoorG01
import Derived.Test.YtdfojkbgdoiglaaGreatDoorG03
import Derived.Deep.MidRow
import Derived.Orders
import Derived.Laws.StructEq
import Derived.Laws.NewFold
namespace Go.Proofs.YtdfojkbgdoiglaaGreatDoor
structure Ky where
 code : Int
 mods : Int
 typ : Int
 shift : Int
 base : Int
 text : ByteArray
def in10 (n : Int) : Prop := -9223372036854775808 ≤ n ∧ n ≤ 9223372036854775807
structure okK (k : Ky) : Prop where
 code : in10 k.code
 mods : in10 k.mods
 typ : in10 k.typ
 shift : in10 k.shift
 base : in10 k.base
def textK (c : Int) : Bool := (lookE c).kind == 1
def cleanP (ks : List Int) : Bool := ks.all fun r => !(decide (r < 32) || decide (127 ≤ r) && decide (r ≤ 159))
def cleanO : Option (List Int) → Bool
 | some ks => decide (ks.length ≤ 8) && cleanP ks
 | none => false
def cleanL (l : List UInt8) : Bool := cleanO (allL l)
def cleanB (s : ByteArray) : Bool := cleanL s.data.toList
def mayK (k : Ky) : Bool := !((lookE k.code).kind == 0 || decide (k.mods < 0) || decide (255 < k.mods) || decide (k.typ < 1) || decide (3 < k.typ)) && ((k.shift == 0 || textK k.shift) && (k.base == 0 || textK k.base) && cleanB k.text)
def hasN (n one : Int) : Bool := max n 0 / one % 2 == 1
def oldN (n : Int) : Int := max n 0 % 8
def paramN (n : Int) : Int := if n < 0 ∨ 255 < n then 1 else n + 1
def shownK (k : Ky) : Int := if hasN k.mods 1 = false then k.code else if k.shift ≠ 0 then k.shift else if 97 ≤ k.code ∧ k.code ≤ 122 then k.code - 32 else k.code
theorem may_parts (k : Ky) : mayK k = true ↔ ((lookE k.code).kind ≠ 0 ∧ 0 ≤ k.mods ∧ k.mods ≤ 255 ∧ 1 ≤ k.typ ∧ k.typ ≤ 3) ∧ (k.shift = 0 ∨ textK k.shift = true) ∧ (k.base = 0 ∨ textK k.base = true) ∧ cleanB k.text = true := by
 unfold mayK
 simp only [Bool.and_eq_true, Bool.not_eq_true', Bool.or_eq_false_iff, Bool.or_eq_true, beq_iff_eq, beq_eq_false_iff_ne, decide_eq_false_iff_not, and_assoc, ne_eq]
 constructor <;> (rintro ⟨h1, h2, h3, h4, h5, h6, h7, h8⟩; exact ⟨h1, by omega, by omega, by omega, by omega, h6, h7, h8⟩)
end Go.Proofs.YtdfojkbgdoiglaaGreatDoor
namespace Go.Proofs.YtdfojkbgdoiglaaGreatDoor
open Go.RowKit
section
variable {w w' : World} {g : Nat} {t : TypeId} {cs ds : Array Value}
theorem Blk.there (h : Blk w g t cs) : w.there g 0 cs.size := fun j hj => by
 rw [Nat.zero_add]
 exact ⟨by rw [h.cell j]; simp [hj], h.frozen j⟩
theorem Blk.range (h : Blk w g t cs) : w.rangeAt g 0 cs.toList := fun j v hv => by
 rw [Nat.zero_add, h.cell j]
 simpa using hv
theorem setCells_blk {g : Nat} {t : TypeId} : ∀ (vs pre old : List Value) (w : World), old.length = vs.length → Blk w g t (pre ++ old).toArray → Blk (w.setCells g pre.length vs) g t (pre ++ vs).toArray
 | [], pre, old, w, hl, h => by
   rw [List.length_eq_zero_iff.1 hl] at h
   exact h
 | v :: vs, pre, u :: old, w, hl, h => by
   have h1 : Blk (w.setCell ⟨g, pre.length, none⟩ v) g t ((pre ++ [v]) ++ old).toArray := by
    have h2 := h.set pre.length v
    have e : (pre ++ u :: old).toArray.setIfInBounds pre.length v = ((pre ++ [v]) ++ old).toArray := by
     rw [List.setIfInBounds_toArray, List.set_append_right _ _ (Nat.le_refl _), Nat.sub_self, List.set_cons_zero, List.append_assoc]
     rfl
    rwa [e] at h2
   have h3 := setCells_blk vs (pre ++ [v]) old _ (by simpa using hl) h1
   rw [List.length_append, List.append_assoc] at h3
   exact h3
theorem Blk.setAll (h : Blk w g t cs) (hs : ds.size = cs.size) : Blk (w.setCells g 0 ds.toList) g t ds := by
 obtain ⟨l⟩ := cs
 obtain ⟨m⟩ := ds
 have := setCells_blk (g := g) (t := t) m [] l w (by simpa using hs.symm) h
 exact this
theorem Blk.run_set {P : Program} (h : Blk w g t cs) (ds : Array Value) (hs : ds.size = cs.size) (hi : (P.info? t).map (·.size) = some cs.size) (h1 : ds.toList.all (·.oneCell') = true) :
 (Instr.storeAt t (.pointer (some ⟨g, 0, none⟩)) (.agg ds)).run P w = .ok () (w.setCells g 0 ds.toList) :=
 run_storeAt_mid w g 0 t ds (by rw [hs]; exact h.there) (by rw [hi, hs]) (by rw [← Array.all_toList]; exact h1)
end
end Go.Proofs.YtdfojkbgdoiglaaGreatDoor
namespace Go.Proofs.YtdfojkbgdoiglaaGreatDoor
open Go.RowKit
section
variable {P : Program} {ops : Array Oper} {Q : Exit → Act → World → Prop} {md : Region.Mode} {S : World → Prop}
def regCheck (md : Region.Mode) (ops : Array Oper) : Bool :=
 (List.range ops.size).all fun i =>
   match ops[i]? with
   | none => true
   | some o => (o.looksAt ops).all (fun t => (List.range ops.size).all fun j => ((ops[j]?).map fun oj => oj.dst != some t || o.after.any fun e => Region.binds md e && e.on == j).getD true) &&
      o.after.all (fun e => !Region.binds md e || decide (e.on < i))
structure Near (ops : Array Oper) (aF : Act) (l : Array Bool) (a : Act) : Prop where
 defers : a.defers = aF.defers
 size : a.tmps.size = aF.tmps.size
 at_ : ∀ t, (∀ (j : Nat) (o : Oper), ops[j]? = some o → o.dst = some t → l.getD j false = true) → a.tmps[t]? = aF.tmps[t]?
theorem unl_set : ∀ (l : List Bool) (i : Nat), l[i]? = some false → (l.set i true).countP (fun b => !b) + 1 = l.countP (fun b => !b)
 | [], _, h => by simp at h
 | b :: l, 0, h => by
   simp at h
   subst h
   simp
 | b :: l, i + 1, h => by
   have := unl_set l i (by simpa using h)
   simp only [List.set_cons_succ, List.countP_cons]
   omega
theorem unl_none (l : List Bool) (h : l.countP (fun b => !b) = 0) : ∀ i, i < l.length → l[i]? = some true := fun i hi => by
 have := List.countP_eq_zero.1 h l[i] (List.getElem_mem hi)
 rw [List.getElem?_eq_getElem hi]
 simpa using this
theorem Near.eq {aF a : Act} {l : Array Bool} (h : Near ops aF l a) (hl : ∀ j, j < ops.size → l.getD j false = true) : a = aF := by
 obtain ⟨t, d⟩ := a
 obtain ⟨t', d'⟩ := aF
 have h1 := h.defers
 have h2 : t = t' := Array.ext_getElem? fun i => h.at_ i fun j o ho _ => hl j (Array.getElem?_eq_some_iff.1 ho).1
 simp only at h1
 rw [h1, h2]
theorem Near.put {aF a : Act} {l : Array Bool} (h : Near ops aF l a) {i : Nat} {o : Oper} (ho : ops[i]? = some o) {v : Value} (hv : ∀ d, o.dst = some d → aF.tmps[d]? = some v) : Near ops aF (l.setIfInBounds i true) (a.put o.dst v) := by
 cases hd : o.dst with
 | none =>
   refine ⟨h.defers, h.size, fun t ht => h.at_ t fun j oj hj hdj => ?_⟩
   have := ht j oj hj hdj
   by_cases hij : i = j
   ·subst hij
    rw [ho] at hj
    obtain rfl := Option.some.inj hj
    rw [hd] at hdj
    cases hdj
   ·rwa [getD_set_ne false hij] at this
 | some d =>
   have hF := hv d hd
   have hlt : d < a.tmps.size := by rw [h.size]; exact (Array.getElem?_eq_some_iff.1 hF).1
   refine ⟨h.defers, by simp [Act.put, h.size], fun t ht => ?_⟩
   show (a.tmps.setIfInBounds d v)[t]? = aF.tmps[t]?
   by_cases hdt : d = t
   ·subst hdt
    rw [Array.getElem?_setIfInBounds_self_of_lt hlt, hF]
   ·rw [Array.getElem?_setIfInBounds_ne hdt]
    refine h.at_ t fun j oj hj hdj => ?_
    have := ht j oj hj hdj
    by_cases hij : i = j
    ·subst hij
     rw [ho] at hj
     obtain rfl := Option.some.inj hj
     rw [hd] at hdj
     exact absurd (Option.some.inj hdj) hdt
    ·rwa [getD_set_ne false hij] at this
theorem Near.eval {aF a : Act} {l : Array Bool} (h : Near ops aF l a) (x : Operand) (hx : ∀ t, x = .tmp t → ∀ (j : Nat) (o : Oper), ops[j]? = some o → o.dst = some t → l.getD j false = true) : a.eval x = aF.eval x := by
 cases x with
 | tmp t =>
   have := h.at_ t (hx t rfl)
   show a.tmps.getD t undef = aF.tmps.getD t undef
   rw [Array.getD_eq_getD_getElem?, Array.getD_eq_getD_getElem?, this]
 | _ => rfl
theorem waits (hc : regCheck md ops = true) {i : Nat} {o : Oper} (ho : ops[i]? = some o) {l : Array Bool} (hr : ∀ e ∈ o.after, Region.binds md e = true → l.getD e.on false = true) {t : Tmp} (ht : t ∈ o.looksAt ops) : ∀ (j : Nat) (oj : Oper), ops[j]? = some oj → oj.dst = some t → l.getD j false = true := fun j oj hj hd => by
 have hi : i < ops.size := (Array.getElem?_eq_some_iff.1 ho).1
 have h1 := List.all_eq_true.1 hc i (List.mem_range.2 hi)
 simp only [ho, Bool.and_eq_true] at h1
 have h2 := List.all_eq_true.1 h1.1 t ht
 have hjs : j < ops.size := (Array.getElem?_eq_some_iff.1 hj).1
 have h3 := List.all_eq_true.1 h2 j (List.mem_range.2 hjs)
 simp only [hj, Option.map_some, Option.getD_some, hd, bne_self_eq_false, Bool.false_or] at h3
 obtain ⟨e, he, hb⟩ := Array.any_eq_true'.1 h3
 simp only [Bool.and_eq_true, beq_iff_eq] at hb
 rw [← hb.2]
 exact hr e he hb.1
def goF (a : Act) : List Oper → List Value → Act
 | o :: os, v :: vs => goF (a.put o.dst v) os vs
 | _, _ => a
theorem goF_near (a0 : Act) : ∀ (os : List Oper) (vs : List Value) (a : Act), a.defers = a0.defers → a.tmps.size = a0.tmps.size → (∀ t, (∀ o ∈ os, o.dst ≠ some t) → a.tmps[t]? = a0.tmps[t]? → (goF a os vs).tmps[t]? = a0.tmps[t]?) ∧ (goF a os vs).defers = a0.defers ∧ (goF a os vs).tmps.size = a0.tmps.size
 | [], _, a, h1, h2 => ⟨fun _ _ h => h, h1, h2⟩
 | _ :: _, [], a, h1, h2 => ⟨fun _ _ h => h, h1, h2⟩
 | o :: os, v :: vs, a, h1, h2 => by
   have hd : (a.put o.dst v).defers = a.defers := by cases o.dst <;> rfl
   have hz : (a.put o.dst v).tmps.size = a.tmps.size := by cases o.dst <;> simp [Act.put]
   obtain ⟨q1, q2, q3⟩ := goF_near a0 os vs (a.put o.dst v) (hd.trans h1) (hz.trans h2)
   refine ⟨fun t ht h => q1 t (fun o' ho' => ht o' (List.mem_cons_of_mem _ ho')) ?_, q2, q3⟩
   have hne := ht o (List.mem_cons_self ..)
   rw [← h]
   cases hdst : o.dst with
   | none => rfl
   | some d =>
     show (a.tmps.setIfInBounds d v)[t]? = _
     rw [Array.getElem?_setIfInBounds_ne (fun e => hne (by rw [hdst, e]))]
theorem near_goF (a : Act) (vs : List Value) : Near ops (goF a ops.toList vs) (Array.replicate ops.size false) a := by
 obtain ⟨q1, q2, q3⟩ := goF_near a ops.toList vs a rfl rfl
 refine ⟨q2.symm, q3.symm, fun t ht => (q1 t (fun o ho hd => ?_) rfl).symm⟩
 obtain ⟨i, hi, he⟩ := List.getElem_of_mem ho
 have := ht i o (by rw [← Array.getElem?_toList, List.getElem?_eq_getElem hi, he]) hd
 rw [Array.getD_eq_getD_getElem?, Array.getElem?_replicate] at this
 split at this <;> cases this
theorem near_of {a aF : Act} (vs : List Value) (h : goF a ops.toList vs = aF) : Near ops aF (Array.replicate ops.size false) a := by
 rw [← h]
 exact near_goF a vs
end
end Go.Proofs.YtdfojkbgdoiglaaGreatDoor
namespace Go.Proofs.YtdfojkbgdoiglaaGreatDoor
open Go.RowKit
section
variable {P : Program} {ops : Array Oper} {Q : Exit → Act → World → Prop} {md : Region.Mode}
def upd (g : Tmp → Value) (d : Tmp) (v : Value) : Tmp → Value := fun t => if t = d then v else g t
theorem upd_at (g : Tmp → Value) (d : Tmp) (v : Value) : upd g d v d = v := if_pos rfl
theorem upd_ne (g : Tmp → Value) {d t : Tmp} (v : Value) (h : t ≠ d) : upd g d v t = g t := if_neg h
def fillT (g : Tmp → Value) : List Tmp → Array Value → Array Value
 | [], t => t
 | d :: ds, t => fillT g ds (t.setIfInBounds d (g d))
def fillA (a : Act) (ds : List Tmp) (g : Tmp → Value) : Act := ⟨fillT g ds a.tmps, a.defers⟩
theorem fillT_size (g : Tmp → Value) : ∀ (ds : List Tmp) (t : Array Value), (fillT g ds t).size = t.size
 | [], _ => rfl
 | d :: ds, t => by
   show (fillT g ds _).size = _
   rw [fillT_size g ds, Array.size_setIfInBounds]
theorem fillT_other (g : Tmp → Value) (d : Tmp) (v : Value) {t : Tmp} (ht : t ≠ d) : ∀ (ds : List Tmp) (s s' : Array Value), s.size = s'.size → s[t]? = s'[t]? → (fillT (upd g d v) ds s)[t]? = (fillT g ds s')[t]?
 | [], _, _, _, h => h
 | x :: ds, s, s', hz, h => by
   refine fillT_other g d v ht ds _ _ (by simp [hz]) ?_
   by_cases hx : x = t
   ·subst hx
    rw [upd_ne g v ht]
    by_cases hl : x < s.size
    ·rw [Array.getElem?_setIfInBounds_self_of_lt hl, Array.getElem?_setIfInBounds_self_of_lt (hz ▸ hl)]
    ·rw [Array.getElem?_eq_none (by rw [Array.size_setIfInBounds]; exact Nat.le_of_not_lt hl), Array.getElem?_eq_none (by rw [Array.size_setIfInBounds, ← hz]; exact Nat.le_of_not_lt hl)]
   ·rw [Array.getElem?_setIfInBounds_ne hx, Array.getElem?_setIfInBounds_ne hx, h]
def After (aF : (Tmp → Value) → Act) (S : Array Bool → (Tmp → Value) → World → Prop) (i : Nat) (o : Oper) (l : Array Bool) (g : Tmp → Value) (v : Value) (w : World) : Prop :=
 ∃ g', (g' = g ∨ ∃ d u, o.dst = some d ∧ g' = upd g d u) ∧ (∀ d, o.dst = some d → (aF g').tmps[d]? = some v) ∧ S (l.setIfInBounds i true) g' w
def GoesM (P : Program) (md : Region.Mode) (ops : Array Oper) (aF : (Tmp → Value) → Act) (S : Array Bool → (Tmp → Value) → World → Prop) (i : Nat) (o : Oper) : Prop :=
 ∀ l g w, l.size = ops.size → l.getD i false = false → (∀ e ∈ o.after, Region.binds md e = true → l.getD e.on false = true) → S l g w →
   if Region.wanted o (yielded ops (aF g).tmps) = true then
    (∃ v w', ((execOp (aF g).eval o).run P w = .ok (.value v) w' ∨ ((execOp (aF g).eval o).run P w = .ok .skip w' ∧ v = undef)) ∧ After aF S i o l g v w') ∨
    (∃ f args w1, (execOp (aF g).eval o).run P w = .ok (.enter f args) w1 ∧ Calls P f args w1 fun e w' => ∃ v, e = .returned v ∧ After aF S i o l g v w')
   else After aF S i o l g undef w
def GoesAllM (P : Program) (md : Region.Mode) (ops : Array Oper) (aF : (Tmp → Value) → Act) (S : Array Bool → (Tmp → Value) → World → Prop) : Prop :=
 ∀ (i : Nat) (o : Oper), ops[i]? = some o → GoesM P md ops aF S i o
theorem Near.turn {aF : (Tmp → Value) → Act} (hF : ∀ g d v, (∀ t, t ≠ d → (aF (upd g d v)).tmps[t]? = (aF g).tmps[t]?) ∧ (aF (upd g d v)).defers = (aF g).defers ∧ (aF (upd g d v)).tmps.size = (aF g).tmps.size)
 {g g' : Tmp → Value} {l : Array Bool} {a : Act} {i : Nat} {o : Oper} (ho : ops[i]? = some o) (hl : l.getD i false = false) (hg : g' = g ∨ ∃ d u, o.dst = some d ∧ g' = upd g d u) (h : Near ops (aF g) l a) : Near ops (aF g') l a := by
 rcases hg with rfl | ⟨d, u, hd, rfl⟩
 ·exact h
 ·obtain ⟨h1, h2, h3⟩ := hF g d u
  refine ⟨h.defers.trans h2.symm, h.size.trans h3.symm, fun t ht => ?_⟩
  have hne : t ≠ d := fun e => by
   have := ht i o ho (by rw [hd, e])
   rw [hl] at this
   cases this
  rw [h1 t hne]
  exact h.at_ t ht
theorem wpAny_made (hc : regCheck md ops = true) (hs : Region.noSelect ops = true) {aF : (Tmp → Value) → Act} {S : Array Bool → (Tmp → Value) → World → Prop}
 (hF : ∀ g d v, (∀ t, t ≠ d → (aF (upd g d v)).tmps[t]? = (aF g).tmps[t]?) ∧ (aF (upd g d v)).defers = (aF g).defers ∧ (aF (upd g d v)).tmps.size = (aF g).tmps.size)
 (hg : GoesAllM P md ops aF S) (hQ : ∀ l g w, (∀ j, j < ops.size → l.getD j false = true) → S l g w → Q .normal (aF g) w) :
 ∀ (fuel : Nat) (l : Array Bool) (a : Act) (w : World), l.size = ops.size → l.toList.countP (fun b => !b) ≤ fuel → (∃ g, Near ops (aF g) l a ∧ S l g w) → wpAny P md ops Q fuel l a w := by
 have fin : ∀ (l : Array Bool) (a : Act) (w : World), l.size = ops.size → Region.ready md ops l = [] → (∃ g, Near ops (aF g) l a ∧ S l g w) → Q .normal a w := fun l a w hsz hr ⟨g, hn, hS⟩ => by
  have all : ∀ j, j < ops.size → l.getD j false = true := by
   intro j
   induction j using Nat.strongRecOn with
   | _ j ih =>
     intro hj
     have ho : ops[j]? = some ops[j] := Array.getElem?_eq_getElem hj
     cases hh : l.getD j false with
     | true => rfl
     | false =>
       exfalso
       have hm : j ∈ Region.ready md ops l := mem_ready.2 ⟨by
        rw [Array.getD_eq_getD_getElem?] at hh ⊢
        rw [Array.getElem?_eq_getElem (by omega)] at hh ⊢
        exact hh, ops[j], ho, fun e he hb => by
        have h1 := List.all_eq_true.1 hc j (List.mem_range.2 hj)
        simp only [ho, Bool.and_eq_true] at h1
        have h2 := Array.all_eq_true_iff_forall_mem.1 h1.2 e he
        simp only [hb, Bool.not_true, Bool.false_or, decide_eq_true_eq] at h2
        exact ih e.on h2 (by omega)⟩
       rw [hr] at hm
       cases hm
  rw [hn.eq all]
  exact hQ l g w all hS
 intro fuel
 induction fuel with
 | zero =>
   intro l a w hsz hcnt hn
   have h0 := unl_none l.toList (by omega)
   have hr : Region.ready md ops l = [] := by
    rw [List.eq_nil_iff_forall_not_mem]
    intro j hj
    obtain ⟨h1, o, ho, _⟩ := mem_ready.1 hj
    have hlt : j < l.size := by rw [hsz]; exact (Array.getElem?_eq_some_iff.1 ho).1
    have h2 := h0 j (by simpa using hlt)
    rw [Array.getElem?_toList] at h2
    rw [Array.getD_eq_getD_getElem?, h2] at h1
    cases h1
   exact ⟨hr, fin l a w hsz hr hn⟩
 | succ fuel ih =>
   intro l a w hsz hcnt hnn
   refine ⟨fun hr => fin l a w hsz hr hnn, fun i hi => ?_⟩
   obtain ⟨g, hn, hS⟩ := hnn
   obtain ⟨h1, o, ho, hall⟩ := mem_ready.1 hi
   have hlt : i < l.size := by rw [hsz]; exact (Array.getElem?_eq_some_iff.1 ho).1
   have hli : l.toList[i]? = some false := by
    rw [Array.getElem?_toList, Array.getElem?_eq_getElem hlt]
    rw [Array.getD_eq_getD_getElem?, Array.getElem?_eq_getElem hlt] at h1
    exact congrArg some h1
   have h1f : l.getD i false = false := by
    rw [Array.getD_eq_getD_getElem?, ← Array.getElem?_toList, hli]
    rfl
   have hstep : ∀ (v : Value) (w' : World), After aF S i o l g v w' → wpAny P md ops Q fuel (l.setIfInBounds i true) (a.put o.dst v) w' := fun v w' ⟨g', hg', hv, hS'⟩ =>
    ih _ _ w' (by simpa using hsz) (by
     have := unl_set l.toList i hli
     rw [Array.toList_setIfInBounds]
     omega) ⟨g', (hn.turn hF ho h1f hg').put ho hv, hS'⟩
   have hw := hg i o ho l g w hsz h1f hall hS
   have he : execOp a.eval o = execOp (aF g).eval o := execOp_congr o (fun cs b => Region.noSelect_spec hs i o cs b ho) fun x hx => hn.eval x fun t ht => waits hc ho hall (by
    subst ht
    exact List.mem_append_left _ (List.mem_filterMap.2 ⟨.tmp t, by simpa using hx, rfl⟩))
   have hwt : Region.wanted o (yielded ops a.tmps) = Region.wanted o (yielded ops (aF g).tmps) := by
    unfold Region.wanted
    cases hgd : o.guard with
    | none => rfl
    | some gw =>
      obtain ⟨gg, want⟩ := gw
      have hy : yielded ops a.tmps gg = yielded ops (aF g).tmps gg := by
       unfold yielded
       cases ht : (ops[gg]?).bind (·.dst) with
       | none => rfl
       | some t =>
         have := hn.at_ t (waits hc ho hall (by simp [Oper.looksAt, hgd, ht]))
         show (match (some t).bind (a.tmps[·]?) with | some (.bool b) => some b | _ => none) = (match (some t).bind ((aF g).tmps[·]?) with | some (.bool b) => some b | _ => none)
         simp only [Option.bind_some, this]
      simp only [hy]
   unfold wpOp
   simp only [ho]
   rw [hwt]
   by_cases hq : Region.wanted o (yielded ops (aF g).tmps) = true
   ·rw [if_pos hq] at hw ⊢
    refine .inl ?_
    unfold Oper.wp
    rw [he]
    rcases hw with ⟨v, w', hrun | ⟨hrun, rfl⟩, hA⟩ | ⟨f, args, w1, hrun, hcall⟩
    ·rw [hrun, Oper.upon_value]
     exact hstep v w' hA
    ·rw [hrun, Oper.upon_skip]
     exact hstep undef w' hA
    ·rw [hrun, Oper.upon_enter]
     refine hcall.mono ?_
     rintro e w' ⟨v, rfl, hA⟩
     exact hstep v w' hA
   ·rw [if_neg hq] at hw ⊢
    exact hstep undef w hw
theorem fill_turn (a0 : Act) (ds : List Tmp) (g : Tmp → Value) (d : Tmp) (v : Value) : (∀ t, t ≠ d → (fillA a0 ds (upd g d v)).tmps[t]? = (fillA a0 ds g).tmps[t]?) ∧ (fillA a0 ds (upd g d v)).defers = (fillA a0 ds g).defers ∧ (fillA a0 ds (upd g d v)).tmps.size = (fillA a0 ds g).tmps.size :=
 ⟨fun _ ht => fillT_other g d v ht ds _ _ rfl rfl, rfl, by simp [fillA, fillT_size]⟩
theorem wp_region_made {id : Nat} {a a0 : Act} {w : World} {S : Array Bool → (Tmp → Value) → World → Prop} (ds : List Tmp) (hm : P.follows .mixedOrders = true) (hc : regCheck .any ops = true) (hs : Region.noSelect ops = true)
 (g0 : Tmp → Value) (hn : Near ops (fillA a0 ds g0) (Array.replicate ops.size false) a) (hS : S (Array.replicate ops.size false) g0 w.drew) (hg : GoesAllM P .any ops (fillA a0 ds) S)
 (hQ : ∀ l g w, (∀ j, j < ops.size → l.getD j false = true) → S l g w → Q .normal (fillA a0 ds g) w) :
 (Code.region id ops true).wp P Q a w :=
 wp_region_any hm (wpAny_made hc hs (fill_turn a0 ds) hg hQ ops.size _ a _ (by simp) (by
  refine Nat.le_trans List.countP_le_length ?_
  simp) ⟨g0, hn, hS⟩)
end
end Go.Proofs.YtdfojkbgdoiglaaGreatDoor
namespace Go.Proofs.YtdfojkbgdoiglaaGreatDoor
structure Ro where
 first : Int
 last : Int
 kind : Int
 finals : List UInt8
 nums : List Int
 chars : List UInt8
 keys : Bool
deriving DecidableEq
def roL : List Ro := [
 ⟨9, 9, 2, [], [], [], false⟩, ⟨13, 13, 2, [], [], [], false⟩, ⟨27, 27, 2, [], [], [], false⟩, ⟨127, 127, 2, [], [], [], false⟩,
 ⟨57350, 57353, 3, [68, 67, 65, 66], [], [], false⟩, ⟨57356, 57357, 3, [72, 70], [], [], false⟩, ⟨57364, 57367, 3, [80, 81, 82, 83], [], [], false⟩,
 ⟨57348, 57349, 4, [], [2, 3], [], false⟩, ⟨57354, 57355, 4, [], [5, 6], [], false⟩, ⟨57368, 57375, 4, [], [15, 17, 18, 19, 20, 21, 23, 24], [], false⟩, ⟨57363, 57363, 4, [], [29], [], false⟩,
 ⟨57399, 57408, 5, [112, 113, 114, 115, 116, 117, 118, 119, 120, 121], [], [48, 49, 50, 51, 52, 53, 54, 55, 56, 57], true⟩,
 ⟨57409, 57416, 5, [110, 111, 106, 109, 107, 77, 88, 108], [], [46, 47, 42, 45, 43, 13, 61, 44], true⟩,
 ⟨57417, 57420, 3, [68, 67, 65, 66], [], [], true⟩, ⟨57423, 57424, 3, [72, 70], [], [], true⟩, ⟨57427, 57427, 3, [69], [], [], true⟩,
 ⟨57421, 57422, 4, [], [5, 6], [], true⟩, ⟨57425, 57426, 4, [], [2, 3], [], true⟩,
 ⟨57358, 57362, 6, [], [], [], false⟩, ⟨57376, 57398, 6, [], [], [], false⟩, ⟨57428, 57440, 6, [], [], [], false⟩, ⟨57441, 57454, 7, [], [], [], false⟩]
def byL (l : List UInt8) (a : Nat) : Int := ((l.getD a 0).toNat : Int)
def entK (r : Ro) (a : Nat) : En := ⟨r.kind, byL r.finals a, r.nums.getD a 0, byL r.chars a, r.keys⟩
def inRo (c : Int) (r : Ro) : Bool := decide (r.first ≤ c) && decide (c ≤ r.last)
theorem inRo_iff (c : Int) (r : Ro) : inRo c r = true ↔ r.first ≤ c ∧ c ≤ r.last := by simp [inRo]
theorem inRo_no {c : Int} {r : Ro} (h : ¬ (r.first ≤ c ∧ c ≤ r.last)) : inRo c r = false := by
 cases e : inRo c r with
 | false => rfl
 | true => exact absurd ((inRo_iff c r).1 e) h
def txK (c : Int) : Bool := !(decide (c < 32) || decide (127 ≤ c) && decide (c ≤ 159)) && !(decide (57344 ≤ c) && decide (c ≤ 63743)) && isPtK c
def lookP (c : Int) : En := match roL.find? (inRo c) with
 | some r => entK r (c - r.first).toNat
 | none => if txK c then ⟨1, 0, 0, 0, false⟩ else ⟨0, 0, 0, 0, false⟩
theorem ro_all : ∀ r ∈ roL, (r.first = r.last ∧ (r.first = 9 ∨ r.first = 13 ∨ r.first = 27 ∨ r.first = 127)) ∨ (57344 ≤ r.first ∧ r.last < 57455) := by decide +kernel
theorem ro_bd : ∀ r ∈ roL, (0 ≤ r.first ∧ r.first ≤ r.last ∧ r.last ≤ 60000) ∧ (r.finals.length ≤ 100 ∧ r.nums.length ≤ 100 ∧ r.chars.length ≤ 100) := by decide +kernel
theorem look_in : ∀ k : Fin 111, lookP (57344 + k.1) = lookE (57344 + k.1) := by decide +kernel
theorem look_nil {c : Int} (h : c < 57344 ∨ 57455 ≤ c) (h9 : c ≠ 9) (h13 : c ≠ 13) (h27 : c ≠ 27) (h127 : c ≠ 127) : roL.find? (inRo c) = none := by
 rw [List.find?_eq_none]
 intro r hr hi
 have h1 := (inRo_iff c r).1 hi
 rcases ro_all r hr with ⟨e, e2⟩ | ⟨e, e2⟩ <;> omega
theorem txK_rest {c : Int} (h : c < 57344 ∨ 57455 ≤ c) (h9 : c ≠ 9) (h13 : c ≠ 13) (h27 : c ≠ 27) (h127 : c ≠ 127) : restN c = if txK c then 1 else 0 := by
 unfold restN txK
 rw [if_neg (by omega), if_neg (by omega), if_neg (by omega)]
 cases e : isPtK c with
 | false => simp
 | true =>
   by_cases h1 : c < 32 ∨ 127 ≤ c ∧ c ≤ 159 ∨ 57344 ≤ c ∧ c ≤ 63743
   ·rw [if_pos (.inr h1), if_neg]
    simp
    omega
   ·rw [if_neg (by simp; omega), if_pos]
    simp
    omega
theorem lookP_eq (c : Int) : lookP c = lookE c := by
 by_cases h : c < 57344 ∨ 57455 ≤ c
 ·by_cases h9 : c = 9
  ·subst h9; decide +kernel
  by_cases h13 : c = 13
  ·subst h13; decide +kernel
  by_cases h27 : c = 27
  ·subst h27; decide +kernel
  by_cases h127 : c = 127
  ·subst h127; decide +kernel
  unfold lookP
  rw [look_nil h h9 h13 h27 h127, look_out h, txK_rest h h9 h13 h27 h127]
  cases txK c <;> rfl
 ·obtain ⟨k, rfl⟩ : ∃ k : Fin 111, c = 57344 + k.1 := ⟨⟨(c - 57344).toNat, by omega⟩, by simp; omega⟩
  exact look_in k
end Go.Proofs.YtdfojkbgdoiglaaGreatDoor
