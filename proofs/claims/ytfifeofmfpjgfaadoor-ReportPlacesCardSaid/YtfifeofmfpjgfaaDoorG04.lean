/-
  Numbers in figures, plainly: no program is named here. (Later layers' texts take this in the place of layer 1's own.) A block that is written whole, and read whole. A region that draws its order, whose operations each yield one value in every world that meets S, and leave a world that meets S (loads, moves, tests, and calls whose answers hang on S alone): one look at each operation serves whatever order is picked.
-/
import Derived.Test.YtfifeofmfpjgfaaDoorG01
import Derived.Test.YtfifeofmfpjgfaaDoorG03
import Derived.Lib.ItoaLen
import Derived.Deep.MidRow
import Derived.Orders
import Derived.Laws.StructEq
namespace Go.Proofs.YtfifeofmfpjgfaaDoor
def textL (n : Int) : List UInt8 := if n < 0 then [] else Lib.decDigits n.toNat
theorem textL_neg (n : Int) (h : n < 0) : textL n = [] := if_pos h
theorem textL_small (n : Int) (h0 : 0 ≤ n) (h : n < 10) : textL n = [UInt8.ofNat (48 + n.toNat)] := by
 unfold textL; rw [if_neg (by omega), Lib.decDigits, dif_pos (by omega)]
theorem textL_big (n : Int) (h : 10 ≤ n) : textL n = textL (n / 10) ++ [UInt8.ofNat (48 + (n % 10).toNat)] := by
 unfold textL
 rw [if_neg (by omega), if_neg (by omega), Lib.decDigits, dif_neg (by omega)]
 rw [show (n / 10).toNat = n.toNat / 10 by omega, show (n % 10).toNat = n.toNat % 10 by omega]
theorem textL_length (n : Int) (h1 : n ≤ 9223372036854775807) : (textL n).length ≤ 21 := by
 by_cases h : n < 0
 ·rw [textL_neg n h]; simp
 ·rw [show textL n = Lib.itoa n by unfold textL Lib.itoa; rw [if_neg h, if_neg h]]
  exact Lib.itoa_length_le n (by omega) h1
def isD (c : UInt8) : Bool := decide (48 ≤ c.toNat ∧ c.toNat ≤ 57)
theorem digit_isD (k : Nat) (h : k < 10) : isD (UInt8.ofNat (48 + k)) = true ∧ (UInt8.ofNat (48 + k)).toNat = 48 + k := by
 have e : (UInt8.ofNat (48 + k)).toNat = 48 + k := UInt8.toNat_ofNat_of_lt' (by show 48 + k < 256; omega)
 unfold isD
 rw [e]
 exact ⟨decide_eq_true (by omega), rfl⟩
theorem dec_step (u : Nat) (h : ¬ u < 10) : Lib.decDigits u = Lib.decDigits (u / 10) ++ [UInt8.ofNat (48 + u % 10)] := by rw [Lib.decDigits, dif_neg h]
theorem dec_small (u : Nat) (h : u < 10) : Lib.decDigits u = [UInt8.ofNat (48 + u)] := by rw [Lib.decDigits, dif_pos h]
theorem dec_all (u : Nat) : ∀ c ∈ Lib.decDigits u, isD c = true := by
 induction u using Nat.strongRecOn with
 | _ u ih =>
   by_cases h : u < 10
   ·rw [dec_small u h]
    intro c hc
    rw [List.mem_singleton] at hc
    subst hc
    exact (digit_isD u h).1
   ·rw [dec_step u h]
    intro c hc
    rcases List.mem_append.1 hc with hc | hc
    ·exact ih (u / 10) (by omega) c hc
    ·rw [List.mem_singleton] at hc
     subst hc
     exact (digit_isD (u % 10) (by omega)).1
theorem dec_ne (u : Nat) : Lib.decDigits u ≠ [] := by
 by_cases h : u < 10
 ·rw [dec_small u h]; simp
 ·rw [dec_step u h]; simp
def rd (M : Int) (n : Int) (c : UInt8) : Int := min (10 * max n 0 + ((c.toNat : Int) - 48)) M
theorem dec_read (M : Int) (u : Nat) (hM : 9 ≤ M) : (Lib.decDigits u).foldl (rd M) (-1) = min (u : Int) M := by
 induction u using Nat.strongRecOn with
 | _ u ih =>
   by_cases h : u < 10
   ·rw [dec_small u h, List.foldl_cons, List.foldl_nil, rd, (digit_isD u h).2]; omega
   ·rw [dec_step u h, List.foldl_append, ih (u / 10) (by omega), List.foldl_cons, List.foldl_nil, rd, (digit_isD (u % 10) (by omega)).2]; omega
theorem text_read (M n : Int) (hM : 9 ≤ M) (h : 0 ≤ n) : (textL n).foldl (rd M) (-1) = min n M := by
 unfold textL
 rw [if_neg (by omega), dec_read M _ hM]
 omega
theorem text_all_isD (n : Int) : ∀ c ∈ textL n, isD c = true := by
 unfold textL
 split
 ·intro c hc; cases hc
 ·exact dec_all _
theorem text_ne (n : Int) (h : 0 ≤ n) : textL n ≠ [] := by
 unfold textL
 rw [if_neg (by omega)]
 exact dec_ne _
end Go.Proofs.YtfifeofmfpjgfaaDoor
namespace Go.Proofs.YtfifeofmfpjgfaaDoor
open Go.RowKit
section
section
variable {w w' : World} {g : Nat} {t : TypeId} {cs ds : Array Value}
theorem Blk.there (h : Blk w g t cs) : w.there g 0 cs.size := fun j hj => by
 rw [Nat.zero_add]
 exact ⟨by rw [h.cell j]; simp [hj], h.frozen j⟩
theorem Blk.range (h : Blk w g t cs) : w.rangeAt g 0 cs.toList := fun j v hv => by
 rw [Nat.zero_add, h.cell j]
 simpa using hv
theorem setCells_blk {g : Nat} {t : TypeId} : ∀ (vs pre old : List Value) (w : World), old.length = vs.length → Blk w g t (pre ++ old).toArray → Blk (w.setCells g pre.length vs) g t (pre ++ vs).toArray
 | [], pre, old, w, hl, h => by
   rw [List.length_eq_zero_iff.1 hl] at h
   exact h
 | v :: vs, pre, u :: old, w, hl, h => by
   have h1 : Blk (w.setCell ⟨g, pre.length, none⟩ v) g t ((pre ++ [v]) ++ old).toArray := by
    have h2 := h.set pre.length v
    have e : (pre ++ u :: old).toArray.setIfInBounds pre.length v = ((pre ++ [v]) ++ old).toArray := by
     rw [List.setIfInBounds_toArray, List.set_append_right _ _ (Nat.le_refl _), Nat.sub_self, List.set_cons_zero, List.append_assoc]
     rfl
    rwa [e] at h2
   have h3 := setCells_blk vs (pre ++ [v]) old _ (by simpa using hl) h1
   rw [List.length_append, List.append_assoc] at h3
   exact h3
theorem Blk.setAll (h : Blk w g t cs) (hs : ds.size = cs.size) : Blk (w.setCells g 0 ds.toList) g t ds := by
 obtain ⟨l⟩ := cs
 obtain ⟨m⟩ := ds
 have := setCells_blk (g := g) (t := t) m [] l w (by simpa using hs.symm) h
 exact this
theorem Blk.run_set {P : Program} (h : Blk w g t cs) (ds : Array Value) (hs : ds.size = cs.size) (hi : (P.info? t).map (·.size) = some cs.size) (h1 : ds.toList.all (·.oneCell') = true) :
 (Instr.storeAt t (.pointer (some ⟨g, 0, none⟩)) (.agg ds)).run P w = .ok () (w.setCells g 0 ds.toList) :=
 run_storeAt_mid w g 0 t ds (by rw [hs]; exact h.there) (by rw [hi, hs]) (by rw [← Array.all_toList]; exact h1)
theorem Blk.wp_set {P : Program} {ops : Array Oper} {rest : List Oper} {op : Oper} {a : Act} {Q : Exit → Act → World → Prop} (h : Blk w g t cs) (ds : Array Value) (hs : ds.size = cs.size) (hi : (P.info? t).map (·.size) = some cs.size) (h1 : ds.toList.all (·.oneCell') = true)
 (hgd : op.guard = none) (x y : Operand) (ho : op.op = .store t x y) (hx : a.eval x = .pointer (some ⟨g, 0, none⟩)) (hy : a.eval y = .agg ds)
 (hK : ∀ w', Blk w' g t ds → w.grownBy w' (some g) → wpList P ops Q rest (a.put op.dst undef) w') : wpList P ops Q (op :: rest) a w :=
 wpList_store_mid hgd t x y ho g 0 ds hx hy (by rw [hs]; exact h.there) (by rw [hi, hs]) (by rw [← Array.all_toList]; exact h1) (hK _ (h.setAll hs) (grown_setCells g _ 0 w))
end
end
section
section
variable {P : Program} {ops : Array Oper} {Q : Exit → Act → World → Prop} {md : Region.Mode} {S : World → Prop}
def regCheck (md : Region.Mode) (ops : Array Oper) : Bool :=
 (List.range ops.size).all fun i =>
   match ops[i]? with
   | none => true
   | some o => (o.looksAt ops).all (fun t => (List.range ops.size).all fun j => ((ops[j]?).map fun oj => oj.dst != some t || o.after.any fun e => Region.binds md e && e.on == j).getD true) &&
      o.after.all (fun e => !Region.binds md e || decide (e.on < i))
structure Near (ops : Array Oper) (aF : Act) (l : Array Bool) (a : Act) : Prop where
 defers : a.defers = aF.defers
 size : a.tmps.size = aF.tmps.size
 at_ : ∀ t, (∀ (j : Nat) (o : Oper), ops[j]? = some o → o.dst = some t → l.getD j false = true) → a.tmps[t]? = aF.tmps[t]?
theorem unl_set : ∀ (l : List Bool) (i : Nat), l[i]? = some false → (l.set i true).countP (fun b => !b) + 1 = l.countP (fun b => !b)
 | [], _, h => by simp at h
 | b :: l, 0, h => by
   simp at h
   subst h
   simp
 | b :: l, i + 1, h => by
   have := unl_set l i (by simpa using h)
   simp only [List.set_cons_succ, List.countP_cons]
   omega
theorem unl_none (l : List Bool) (h : l.countP (fun b => !b) = 0) : ∀ i, i < l.length → l[i]? = some true := fun i hi => by
 have := List.countP_eq_zero.1 h l[i] (List.getElem_mem hi)
 rw [List.getElem?_eq_getElem hi]
 simpa using this
theorem Near.eq {aF a : Act} {l : Array Bool} (h : Near ops aF l a) (hl : ∀ j, j < ops.size → l.getD j false = true) : a = aF := by
 obtain ⟨t, d⟩ := a
 obtain ⟨t', d'⟩ := aF
 have h1 := h.defers
 have h2 : t = t' := Array.ext_getElem? fun i => h.at_ i fun j o ho _ => hl j (Array.getElem?_eq_some_iff.1 ho).1
 simp only at h1
 rw [h1, h2]
theorem Near.put {aF a : Act} {l : Array Bool} (h : Near ops aF l a) {i : Nat} {o : Oper} (ho : ops[i]? = some o) {v : Value} (hv : ∀ d, o.dst = some d → aF.tmps[d]? = some v) : Near ops aF (l.setIfInBounds i true) (a.put o.dst v) := by
 cases hd : o.dst with
 | none =>
   refine ⟨h.defers, h.size, fun t ht => h.at_ t fun j oj hj hdj => ?_⟩
   have := ht j oj hj hdj
   by_cases hij : i = j
   ·subst hij
    rw [ho] at hj
    obtain rfl := Option.some.inj hj
    rw [hd] at hdj
    cases hdj
   ·rwa [getD_set_ne false hij] at this
 | some d =>
   have hF := hv d hd
   have hlt : d < a.tmps.size := by rw [h.size]; exact (Array.getElem?_eq_some_iff.1 hF).1
   refine ⟨h.defers, by simp [Act.put, h.size], fun t ht => ?_⟩
   show (a.tmps.setIfInBounds d v)[t]? = aF.tmps[t]?
   by_cases hdt : d = t
   ·subst hdt
    rw [Array.getElem?_setIfInBounds_self_of_lt hlt, hF]
   ·rw [Array.getElem?_setIfInBounds_ne hdt]
    refine h.at_ t fun j oj hj hdj => ?_
    have := ht j oj hj hdj
    by_cases hij : i = j
    ·subst hij
     rw [ho] at hj
     obtain rfl := Option.some.inj hj
     rw [hd] at hdj
     exact absurd (Option.some.inj hdj) hdt
    ·rwa [getD_set_ne false hij] at this
theorem Near.eval {aF a : Act} {l : Array Bool} (h : Near ops aF l a) (x : Operand) (hx : ∀ t, x = .tmp t → ∀ (j : Nat) (o : Oper), ops[j]? = some o → o.dst = some t → l.getD j false = true) : a.eval x = aF.eval x := by
 cases x with
 | tmp t =>
   have := h.at_ t (hx t rfl)
   show a.tmps.getD t undef = aF.tmps.getD t undef
   rw [Array.getD_eq_getD_getElem?, Array.getD_eq_getD_getElem?, this]
 | _ => rfl
theorem waits (hc : regCheck md ops = true) {i : Nat} {o : Oper} (ho : ops[i]? = some o) {l : Array Bool} (hr : ∀ e ∈ o.after, Region.binds md e = true → l.getD e.on false = true) {t : Tmp} (ht : t ∈ o.looksAt ops) : ∀ (j : Nat) (oj : Oper), ops[j]? = some oj → oj.dst = some t → l.getD j false = true := fun j oj hj hd => by
 have hi : i < ops.size := (Array.getElem?_eq_some_iff.1 ho).1
 have h1 := List.all_eq_true.1 hc i (List.mem_range.2 hi)
 simp only [ho, Bool.and_eq_true] at h1
 have h2 := List.all_eq_true.1 h1.1 t ht
 have hjs : j < ops.size := (Array.getElem?_eq_some_iff.1 hj).1
 have h3 := List.all_eq_true.1 h2 j (List.mem_range.2 hjs)
 simp only [hj, Option.map_some, Option.getD_some, hd, bne_self_eq_false, Bool.false_or] at h3
 obtain ⟨e, he, hb⟩ := Array.any_eq_true'.1 h3
 simp only [Bool.and_eq_true, beq_iff_eq] at hb
 rw [← hb.2]
 exact hr e he hb.1
def goF (a : Act) : List Oper → List Value → Act
 | o :: os, v :: vs => goF (a.put o.dst v) os vs
 | _, _ => a
theorem goF_near (a0 : Act) : ∀ (os : List Oper) (vs : List Value) (a : Act), a.defers = a0.defers → a.tmps.size = a0.tmps.size → (∀ t, (∀ o ∈ os, o.dst ≠ some t) → a.tmps[t]? = a0.tmps[t]? → (goF a os vs).tmps[t]? = a0.tmps[t]?) ∧ (goF a os vs).defers = a0.defers ∧ (goF a os vs).tmps.size = a0.tmps.size
 | [], _, a, h1, h2 => ⟨fun _ _ h => h, h1, h2⟩
 | _ :: _, [], a, h1, h2 => ⟨fun _ _ h => h, h1, h2⟩
 | o :: os, v :: vs, a, h1, h2 => by
   have hd : (a.put o.dst v).defers = a.defers := by cases o.dst <;> rfl
   have hz : (a.put o.dst v).tmps.size = a.tmps.size := by cases o.dst <;> simp [Act.put]
   obtain ⟨q1, q2, q3⟩ := goF_near a0 os vs (a.put o.dst v) (hd.trans h1) (hz.trans h2)
   refine ⟨fun t ht h => q1 t (fun o' ho' => ht o' (List.mem_cons_of_mem _ ho')) ?_, q2, q3⟩
   have hne := ht o (List.mem_cons_self ..)
   rw [← h]
   cases hdst : o.dst with
   | none => rfl
   | some d =>
     show (a.tmps.setIfInBounds d v)[t]? = _
     rw [Array.getElem?_setIfInBounds_ne (fun e => hne (by rw [hdst, e]))]
theorem near_goF (a : Act) (vs : List Value) : Near ops (goF a ops.toList vs) (Array.replicate ops.size false) a := by
 obtain ⟨q1, q2, q3⟩ := goF_near a ops.toList vs a rfl rfl
 refine ⟨q2.symm, q3.symm, fun t ht => (q1 t (fun o ho hd => ?_) rfl).symm⟩
 obtain ⟨i, hi, he⟩ := List.getElem_of_mem ho
 have := ht i o (by rw [← Array.getElem?_toList, List.getElem?_eq_getElem hi, he]) hd
 rw [Array.getD_eq_getD_getElem?, Array.getElem?_replicate] at this
 split at this <;> cases this
theorem near_of {a aF : Act} (vs : List Value) (h : goF a ops.toList vs = aF) : Near ops aF (Array.replicate ops.size false) a := by
 rw [← h]
 exact near_goF a vs
end
end
end Go.Proofs.YtfifeofmfpjgfaaDoor
