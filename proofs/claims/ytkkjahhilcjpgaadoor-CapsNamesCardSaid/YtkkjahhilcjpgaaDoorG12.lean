/-
  A region that draws its order, whose calls answer what the run alone tells (facts of it stand in every later world), with at most two steps that turn what lay (an append onto a row of one's own, a store), which come last.
-/
import Derived.Test.YtkkjahhilcjpgaaDoorG11
namespace Go.Proofs.YtkkjahhilcjpgaaDoor
open Go.RowKit
section
section
variable {P : Program} {ops : Array Oper} {md : Region.Mode}
structure Fact where
 i : Nat
 d : Tmp
 F : Value → World → Prop
def Fact.ok (f : Fact) : Prop := ∀ v w w', f.F v w → Below w.heap.size w w' → f.F v w'
def Shut (md : Region.Mode) (ops : Array Oper) (l : Array Bool) : Prop := ∀ (i : Nat) (o : Oper), ops[i]? = some o → l.getD i false = true → ∀ e ∈ o.after, Region.binds md e = true → l.getD e.on false = true
theorem Shut.zero (md : Region.Mode) (ops : Array Oper) (k : Nat) : Shut md ops (Array.replicate k false) := fun i o _ h => by
 rw [no_laid] at h
 cases h
theorem Shut.step {l : Array Bool} {i : Nat} {o : Oper} (h : Shut md ops l) (ho : ops[i]? = some o) (hr : ∀ e ∈ o.after, Region.binds md e = true → l.getD e.on false = true) : Shut md ops (l.setIfInBounds i true) := fun j oj hj hl e he hb => by
 by_cases hij : i = j
 ·subst hij
  rw [ho] at hj
  obtain rfl := Option.some.inj hj
  exact getD_up (hr e he hb)
 ·rw [getD_set_ne false hij] at hl
  exact getD_up (h j oj hj hl e he hb)
def edgeB (md : Region.Mode) (ops : Array Oper) (i j : Nat) : Bool := match ops[i]? with
 | some o => o.after.any fun e => Region.binds md e && e.on == j
 | none => false
structure SK (md : Region.Mode) (ops : Array Oper) (w1 : World) (K : List Fact) (ix iz : Nat) (R0 R1 : (Tmp → Value) → World → World → Prop) (l : Array Bool) (g : Tmp → Value) (w : World) : Prop where
 shut : Shut md ops l
 pre : l.getD ix false = false → Below w1.heap.size w1 w ∧ ∀ f ∈ K, l.getD f.i false = true → f.F (g f.d) w
 mid : l.getD ix false = true → l.getD iz false = false → ∃ ws, Below w1.heap.size w1 ws ∧ (∀ f ∈ K, f.F (g f.d) ws) ∧ R0 g ws w
 fin : l.getD iz false = true → ∃ ws, Below w1.heap.size w1 ws ∧ (∀ f ∈ K, f.F (g f.d) ws) ∧ R1 g ws w
 turn : l.getD iz false = true → l.getD ix false = true
variable {w1 : World} {K : List Fact} {ix iz : Nat} {R0 R1 : (Tmp → Value) → World → World → Prop} {l : Array Bool} {g : Tmp → Value} {w w' : World} {aF : (Tmp → Value) → Act} {i : Nat} {o : Oper}
theorem SK.zero (hb : Below w1.heap.size w1 w) (k : Nat) : SK md ops w1 K ix iz R0 R1 (Array.replicate k false) g w :=
 ⟨Shut.zero _ _ _, fun _ => ⟨hb, fun f _ h => by rw [no_laid] at h; cases h⟩, (fun h => by rw [no_laid] at h; cases h), (fun h => by rw [no_laid] at h; cases h), (fun h => by rw [no_laid] at h; cases h)⟩
theorem all_ne {i : Nat} (h : (K.all fun f => f.i != i) = true) : ∀ f ∈ K, f.i ≠ i := fun f hf => by
 have := List.all_eq_true.1 h f hf
 simpa using this
theorem goesK_pure (v : (Tmp → Value) → Value) (hio : ops[i]? = some o) (hx : i ≠ ix) (hz : i ≠ iz) (hni : (K.all fun f => f.i != i) = true) (hw : ∀ g, Region.wanted o (yielded ops (aF g).tmps) = true) {d0 : Tmp} (h0 : o.dst = some d0) (hd : ∀ g, (aF g).tmps[d0]? = some (v g)) (h : ∀ g w, (execOp (aF g).eval o).run P w = .ok (.value (v g)) w) :
 GoesM P md ops aF (SK md ops w1 K ix iz R0 R1) i o := fun l g w _ _ hr hS => by
 rw [if_pos (hw g)]
 refine .inl ⟨v g, w, .inl (h g w), g, .inl rfl, (fun d' h' => by rw [h0] at h'; cases h'; exact hd g), hS.shut.step hio hr, ?_, ?_, ?_, ?_⟩ <;> simp only [getD_set_ne false hx, getD_set_ne false hz]
 ·exact fun hf => ⟨(hS.pre hf).1, fun f hf' hl => (hS.pre hf).2 f hf' (by rwa [getD_set_ne false (fun e => all_ne hni f hf' e.symm)] at hl)⟩
 ·exact hS.mid
 ·exact hS.fin
 ·exact hS.turn
def Ahead (md : Region.Mode) (ops : Array Oper) (ix i : Nat) : Prop := ∀ l : Array Bool, l.size = ops.size → Shut md ops l → l.getD i false = false → l.getD ix false = false
theorem ahead_none (h : ops.size ≤ ix) : Ahead md ops ix i := fun l hsz _ _ => by
 rw [Array.getD_eq_getD_getElem?, Array.getElem?_eq_none (by omega)]
 rfl
theorem SK.quiet (hst : ∀ f ∈ K, f.ok) (hS : SK md ops w1 K ix iz R0 R1 l g w) (hsh : Shut md ops (l.setIfInBounds i true)) (hb : Below w.heap.size w w') (hx : i ≠ ix) (hz : i ≠ iz) (hni : (K.all fun f => f.i != i) = true) (hf : l.getD ix false = false) : SK md ops w1 K ix iz R0 R1 (l.setIfInBounds i true) g w' := by
 obtain ⟨h1, h2⟩ := hS.pre hf
 refine ⟨hsh, fun _ => ⟨h1.trans (hb.mono h1.size), fun f hf' hl => hst f hf' _ _ _ (h2 f hf' (by rwa [getD_set_ne false (fun e => all_ne hni f hf' e.symm)] at hl)) hb⟩, ?_, ?_, ?_⟩
 ·rw [getD_set_ne false hx, hf]
  intro h
  cases h
 ·intro h
  rw [getD_set_ne false hz] at h
  rw [hS.turn h] at hf
  cases hf
 ·intro h
  rw [getD_set_ne false hz] at h
  rw [hS.turn h] at hf
  cases hf
theorem goesK_val (v : Value) (hst : ∀ f ∈ K, f.ok) (hah : Ahead md ops ix i) (hio : ops[i]? = some o) (hx : i ≠ ix) (hz : i ≠ iz) (hni : (K.all fun f => f.i != i) = true) (hw : ∀ g, Region.wanted o (yielded ops (aF g).tmps) = true) {d0 : Tmp} (h0 : o.dst = some d0) (hd : ∀ g, (aF g).tmps[d0]? = some v) (h : ∀ g w, Below w1.heap.size w1 w → (execOp (aF g).eval o).run P w = .ok (.value v) w) :
 GoesM P md ops aF (SK md ops w1 K ix iz R0 R1) i o := fun l g w hsz hf hr hS => by
 rw [if_pos (hw g)]
 have hfx := hah l hsz hS.shut hf
 exact .inl ⟨v, w, .inl (h g w (hS.pre hfx).1), g, .inl rfl, (fun d' h' => by rw [h0] at h'; cases h'; exact hd g), hS.quiet hst (hS.shut.step hio hr) (Below.refl _ _) hx hz hni hfx⟩
theorem goesK_load {t : TypeId} {x : Operand} {b : Nat} {es : Array Value} {td : TypeDesc} (hst : ∀ f ∈ K, f.ok) (hah : Ahead md ops ix i) (hio : ops[i]? = some o) (hx : i ≠ ix) (hz : i ≠ iz) (hni : (K.all fun f => f.i != i) = true) (hw : ∀ g, Region.wanted o (yielded ops (aF g).tmps) = true) {d0 : Tmp} (h0 : o.dst = some d0) (hd : ∀ g, (aF g).tmps[d0]? = some (.agg es)) (ho : o.op = .load t x) (hxv : ∀ g, (aF g).eval x = .pointer (some ⟨b, 0, none⟩)) (hk : ∀ w, Below w1.heap.size w1 w → Blk w b t es) (hu : P.underlying t = some td) (hrw : td.isRow = true) (hi : (P.info? t).map (·.size) = some es.size) :
 GoesM P md ops aF (SK md ops w1 K ix iz R0 R1) i o :=
 goesK_val (.agg es) hst hah hio hx hz hni hw h0 hd fun g w hb => by
  unfold execOp
  simp only [ho, hxv, Instr.loadAt, Instr.sureAddr, Sem.run_bind, Sem.run_pure, Result.andThen_ok, run_loadVar_mid w b 0 t es.toList td (hk w hb).range hu hrw (by rw [hi]; simp)]
theorem goesK_cell {t : TypeId} {x : Operand} {a : Addr} {v : Value} (hst : ∀ f ∈ K, f.ok) (hah : Ahead md ops ix i) (hio : ops[i]? = some o) (hx : i ≠ ix) (hz : i ≠ iz) (hni : (K.all fun f => f.i != i) = true) (hw : ∀ g, Region.wanted o (yielded ops (aF g).tmps) = true) {d0 : Tmp} (h0 : o.dst = some d0) (hd : ∀ g, (aF g).tmps[d0]? = some v) (ho : o.op = .load t x) (hxv : ∀ g, (aF g).eval x = .pointer (some a)) (hk : ∀ w, Below w1.heap.size w1 w → w.cell? a = some v) (hag : ∀ w, (isAgg t).run P w = .ok false w) :
 GoesM P md ops aF (SK md ops w1 K ix iz R0 R1) i o :=
 goesK_val v hst hah hio hx hz hni hw h0 hd fun g w hb => by
  unfold execOp
  simp only [ho, hxv, Instr.loadAt, Instr.sureAddr, Sem.run_bind, Sem.run_pure, Result.andThen_ok, run_loadVar_one hag (hk w hb)]
theorem goesK_bin {op : BinOp} {t t2 : TypeId} {x y : Operand} {xv yv v : Value} (hio : ops[i]? = some o) (hx : i ≠ ix) (hz : i ≠ iz) (hni : (K.all fun f => f.i != i) = true) (hw : ∀ g, Region.wanted o (yielded ops (aF g).tmps) = true) {d0 : Tmp} (h0 : o.dst = some d0) (hd : ∀ g, (aF g).tmps[d0]? = some v) (ho : o.op = .binOp op t x y t2) (hxv : ∀ g, (aF g).eval x = xv) (hy : ∀ g, (aF g).eval y = yv) (hr : ∀ w, (do eqGuard op t x y xv yv; binOp op t xv yv : Sem Value).run P w = .ok v w) :
 GoesM P md ops aF (SK md ops w1 K ix iz R0 R1) i o :=
 goesK_pure (fun _ => v) hio hx hz hni hw h0 hd fun g w => by
  unfold execOp
  have h := hr w
  simp only [Sem.run_bind] at h
  simp only [ho, hxv, hy, Sem.run_bind, h, Result.andThen_ok, Sem.run_pure]
theorem goesK_call {v : Value} {f : FuncId} {args : (Tmp → Value) → Array Value} (hst : ∀ f ∈ K, f.ok) (hah : Ahead md ops ix i) (hio : ops[i]? = some o) (hx : i ≠ ix) (hz : i ≠ iz) (hni : (K.all fun f => f.i != i) = true) (hw : ∀ g, Region.wanted o (yielded ops (aF g).tmps) = true) {d0 : Tmp} (h0 : o.dst = some d0) (hd : ∀ g, (aF g).tmps[d0]? = some v) (hr : ∀ g w, (execOp (aF g).eval o).run P w = .ok (.enter f (args g)) w)
 (hc : ∀ g w, Below w1.heap.size w1 w → (∀ (q : Nat) (f : Fact), K[q]? = some f → edgeB md ops i f.i = true → f.F (g f.d) w) → Calls P f (args g) w fun e w' => e = .returned v ∧ Below w.heap.size w w') :
 GoesM P md ops aF (SK md ops w1 K ix iz R0 R1) i o := fun l g w hsz hf hrd hS => by
 rw [if_pos (hw g)]
 have hfx := hah l hsz hS.shut hf
 obtain ⟨h1, h2⟩ := hS.pre hfx
 refine .inr ⟨f, args g, w, hr g w, (hc g w h1 fun q f' hf' he => h2 f' (List.mem_of_getElem? hf') ?_).mono fun e w' ⟨he, hb⟩ => ⟨v, he, g, .inl rfl, (fun d' h' => by rw [h0] at h'; cases h'; exact hd g), hS.quiet hst (hS.shut.step hio hrd) hb hx hz hni hfx⟩⟩
 unfold edgeB at he
 rw [hio] at he
 obtain ⟨e, he, hb⟩ := Array.any_eq_true'.1 he
 simp only [Bool.and_eq_true, beq_iff_eq] at hb
 rw [← hb.2]
 exact hrd e he hb.1
theorem SK.ghost (hst : ∀ f ∈ K, f.ok) (hS : SK md ops w1 K ix iz R0 R1 l g w) (hsh : Shut md ops (l.setIfInBounds i true)) (hb : Below w.heap.size w w') (hx : i ≠ ix) (hz : i ≠ iz) (hf : l.getD ix false = false) {d : Tmp} {v : Value} (hme : ∀ f ∈ K, f.i = i → f.d = d ∧ f.F v w') (hot : ∀ f ∈ K, f.i ≠ i → f.d ≠ d) : SK md ops w1 K ix iz R0 R1 (l.setIfInBounds i true) (upd g d v) w' := by
 obtain ⟨h1, h2⟩ := hS.pre hf
 refine ⟨hsh, fun _ => ⟨h1.trans (hb.mono h1.size), fun f hf' hl => ?_⟩, ?_, ?_, ?_⟩
 ·by_cases hi : f.i = i
  ·obtain ⟨e1, e2⟩ := hme f hf' hi
   rw [e1, upd_at]
   exact e2
  ·rw [getD_set_ne false (fun e => hi e.symm)] at hl
   rw [upd_ne g v (hot f hf' hi)]
   exact hst f hf' _ _ _ (h2 f hf' hl) hb
 ·rw [getD_set_ne false hx, hf]
  intro h
  cases h
 ·intro h
  rw [getD_set_ne false hz] at h
  rw [hS.turn h] at hf
  cases hf
 ·intro h
  rw [getD_set_ne false hz] at h
  rw [hS.turn h] at hf
  cases hf
theorem only_at {d : Tmp} {F : Value → World → Prop} {p : Nat} (hat : K[p]? = some ⟨i, d, F⟩) (huq : ((List.range K.length).all fun q => q == p || ((K[q]?).map fun f => f.i != i && f.d != d).getD true) = true) (f : Fact) (hf : f ∈ K) : f = ⟨i, d, F⟩ ∨ (f.i ≠ i ∧ f.d ≠ d) := by
 obtain ⟨q, hq, rfl⟩ := List.getElem_of_mem hf
 have h1 := List.all_eq_true.1 huq q (List.mem_range.2 hq)
 rw [List.getElem?_eq_getElem hq] at h1
 simp only [Option.map_some, Option.getD_some, Bool.or_eq_true, beq_iff_eq, Bool.and_eq_true, bne_iff_ne] at h1
 rcases h1 with rfl | h1
 ·rw [List.getElem?_eq_getElem hq] at hat
  exact .inl (Option.some.inj hat)
 ·exact .inr h1
theorem only_me {d : Tmp} {F : Value → World → Prop} {p : Nat} (hat : K[p]? = some ⟨i, d, F⟩) (huq : ((List.range K.length).all fun q => q == p || ((K[q]?).map fun f => f.i != i && f.d != d).getD true) = true) {v : Value} {w' : World} (h : F v w') : ∀ f ∈ K, f.i = i → f.d = d ∧ f.F v w' := fun f hf hi => by
 rcases only_at hat huq f hf with rfl | h1
 ·exact ⟨rfl, h⟩
 ·exact absurd hi h1.1
theorem only_ot {d : Tmp} {F : Value → World → Prop} {p : Nat} (hat : K[p]? = some ⟨i, d, F⟩) (huq : ((List.range K.length).all fun q => q == p || ((K[q]?).map fun f => f.i != i && f.d != d).getD true) = true) : ∀ f ∈ K, f.i ≠ i → f.d ≠ d := fun f hf hi => by
 rcases only_at hat huq f hf with rfl | h1
 ·exact absurd rfl hi
 ·exact h1.2
theorem goesK_ghost {f : FuncId} {args : (Tmp → Value) → Array Value} {d : Tmp} (hst : ∀ f ∈ K, f.ok) (hah : Ahead md ops ix i) (hio : ops[i]? = some o) (hx : i ≠ ix) (hz : i ≠ iz) {F : Value → World → Prop} (p : Nat) (hat : K[p]? = some ⟨i, d, F⟩) (huq : ((List.range K.length).all fun q => q == p || ((K[q]?).map fun f => f.i != i && f.d != d).getD true) = true) (hw : ∀ g, Region.wanted o (yielded ops (aF g).tmps) = true) (h0 : o.dst = some d) (hd : ∀ g, (aF g).tmps[d]? = some (g d)) (hr : ∀ g w, (execOp (aF g).eval o).run P w = .ok (.enter f (args g)) w)
 (hc : ∀ g w, Below w1.heap.size w1 w → (∀ (q : Nat) (f : Fact), K[q]? = some f → edgeB md ops i f.i = true → f.F (g f.d) w) → Calls P f (args g) w fun e w' => ∃ v, e = .returned v ∧ F v w' ∧ Below w.heap.size w w') :
 GoesM P md ops aF (SK md ops w1 K ix iz R0 R1) i o := fun l g w hsz hf hrd hS => by
 rw [if_pos (hw g)]
 have hfx := hah l hsz hS.shut hf
 obtain ⟨h1, h2⟩ := hS.pre hfx
 refine .inr ⟨f, args g, w, hr g w, (hc g w h1 fun q f' hf' he => h2 f' (List.mem_of_getElem? hf') ?_).mono fun e w' ⟨v, he, hme, hb⟩ => ⟨v, he, upd g d v, .inr ⟨d, _, h0, rfl⟩, (fun d' h' => by rw [h0] at h'; cases h'; rw [hd, upd_at]), hS.ghost hst (hS.shut.step hio hrd) hb hx hz hfx (only_me hat huq hme) (only_ot hat huq)⟩⟩
 unfold edgeB at he
 rw [hio] at he
 obtain ⟨e, he, hb⟩ := Array.any_eq_true'.1 he
 simp only [Bool.and_eq_true, beq_iff_eq] at hb
 rw [← hb.2]
 exact hrd e he hb.1
theorem wp_region_told {Q : Exit → Act → World → Prop} {id : Nat} {a : Act} {w0 : World} (ds : List Tmp) (a0 : Act) (aL : (Tmp → Value) → Act) (vals : List Value) (hm : P.follows .mixedOrders = true) (hc : regCheck .any ops = true) (hs : Region.noSelect ops = true)
 (hL : ∀ g, fillA a0 ds g = aL g) (hn : goF a ops.toList vals = aL fun _ => undef) (hS : Below w1.heap.size w1 w0.drew) (hix : ops.size ≤ ix) (hin : (K.all fun f => decide (f.i < ops.size)) = true)
 (hg : GoesL P .any ops aL (SK .any ops w1 K ix ix R0 R1) 0 ops.toList)
 (hQ : ∀ g w, Below w1.heap.size w1 w → (∀ (q : Nat) (f : Fact), K[q]? = some f → f.F (g f.d) w) → Q .normal (aL g) w) :
 (Code.region id ops true).wp P Q a w0 :=
 wp_region_made (a0 := a0) (S := fun l g w => l.size = ops.size ∧ SK .any ops w1 K ix ix R0 R1 l g w) ds hm hc hs (fun _ => undef) (by rw [hL]; exact near_of vals hn) ⟨by simp, SK.zero hS _⟩ (fun i o ho l g w hsz hf hr hS => by
  have hfn : fillA a0 ds = aL := funext hL
  rw [hfn]
  have h := goesAllM_of_list hg i o ho l g w hsz hf hr hS.2
  have up : ∀ v w', After aL (SK .any ops w1 K ix ix R0 R1) i o l g v w' → After aL (fun l g w => l.size = ops.size ∧ SK .any ops w1 K ix ix R0 R1 l g w) i o l g v w' := fun v w' ⟨g', h1, h2, h3⟩ => ⟨g', h1, h2, by simpa using hsz, h3⟩
  split
  ·rename_i hq
   rw [if_pos hq] at h
   rcases h with ⟨v, w', h1, h2⟩ | ⟨f, args, w2, h1, h2⟩
   ·exact .inl ⟨v, w', h1, up v w' h2⟩
   ·exact .inr ⟨f, args, w2, h1, h2.mono fun e w' ⟨v, he, ha⟩ => ⟨v, he, up v w' ha⟩⟩
  ·rename_i hq
   rw [if_neg hq] at h
   exact up _ _ h) fun l g w hall h => by
  rw [hL]
  have hf : l.getD ix false = false := by
   rw [Array.getD_eq_getD_getElem?, Array.getElem?_eq_none (by rw [h.1]; exact hix)]
   rfl
  obtain ⟨h1, h2⟩ := h.2.pre hf
  exact hQ g w h1 fun q f hf' => h2 f (List.mem_of_getElem? hf') (hall _ (by have := List.all_eq_true.1 hin f (List.mem_of_getElem? hf'); simpa using this))
end
section
variable {P : Program} {ops : Array Oper} {md : Region.Mode} {w1 : World} {K : List Fact} {ix iz : Nat} {R0 R1 : (Tmp → Value) → World → World → Prop} {aF : (Tmp → Value) → Act} {i : Nat} {o : Oper}
theorem gkP (v : (Tmp → Value) → Value) (hio : ops[i]? = some o := by rfl) (hx : i ≠ ix := by decide) (hz : i ≠ iz := by decide) (hni : (K.all fun f => f.i != i) = true := by kernel_rfl) (hw : ∀ g, Region.wanted o (yielded ops (aF g).tmps) = true := by intro g; kernel_rfl) {d0 : Tmp} (h0 : o.dst = some d0 := by rfl) (hd : ∀ g, (aF g).tmps[d0]? = some (v g) := by intro g; kernel_rfl) (h : ∀ g w, (execOp (aF g).eval o).run P w = .ok (.value (v g)) w := by intro g w; kernel_rfl) : GoesM P md ops aF (SK md ops w1 K ix iz R0 R1) i o := goesK_pure v hio hx hz hni hw h0 hd h
theorem gkL {t : TypeId} {x : Operand} {b : Nat} {es : Array Value} {td : TypeDesc} (hst : ∀ f ∈ K, f.ok) (hk : ∀ w, Below w1.heap.size w1 w → Blk w b t es) (hu : P.underlying t = some td) (hah : Ahead md ops ix i := by exact ahead_none (by decide)) (hio : ops[i]? = some o := by rfl) (hx : i ≠ ix := by decide) (hz : i ≠ iz := by decide) (hni : (K.all fun f => f.i != i) = true := by kernel_rfl) (hw : ∀ g, Region.wanted o (yielded ops (aF g).tmps) = true := by intro g; kernel_rfl) {d0 : Tmp} (h0 : o.dst = some d0 := by rfl) (hd : ∀ g, (aF g).tmps[d0]? = some (.agg es) := by intro g; kernel_rfl) (ho : o.op = .load t x := by rfl) (hxv : ∀ g, (aF g).eval x = .pointer (some ⟨b, 0, none⟩) := by intro g; kernel_rfl) (hrw : td.isRow = true := by rfl) (hi : (P.info? t).map (·.size) = some es.size := by kernel_rfl) : GoesM P md ops aF (SK md ops w1 K ix iz R0 R1) i o := goesK_load hst hah hio hx hz hni hw h0 hd ho hxv hk hu hrw hi
theorem gkC {t : TypeId} {x : Operand} {a : Addr} {v : Value} (hst : ∀ f ∈ K, f.ok) (hk : ∀ w, Below w1.heap.size w1 w → w.cell? a = some v) (hah : Ahead md ops ix i := by exact ahead_none (by decide)) (hio : ops[i]? = some o := by rfl) (hx : i ≠ ix := by decide) (hz : i ≠ iz := by decide) (hni : (K.all fun f => f.i != i) = true := by kernel_rfl) (hw : ∀ g, Region.wanted o (yielded ops (aF g).tmps) = true := by intro g; kernel_rfl) {d0 : Tmp} (h0 : o.dst = some d0 := by rfl) (hd : ∀ g, (aF g).tmps[d0]? = some v := by intro g; kernel_rfl) (ho : o.op = .load t x := by rfl) (hxv : ∀ g, (aF g).eval x = .pointer (some a) := by intro g; kernel_rfl) (hag : ∀ w, (isAgg t).run P w = .ok false w := by intro w; kernel_rfl) : GoesM P md ops aF (SK md ops w1 K ix iz R0 R1) i o := goesK_cell hst hah hio hx hz hni hw h0 hd ho hxv hk hag
theorem gkK {v : Value} {f : FuncId} (args : (Tmp → Value) → Array Value) (hst : ∀ f ∈ K, f.ok) (hc : ∀ g w, Below w1.heap.size w1 w → (∀ (q : Nat) (f : Fact), K[q]? = some f → edgeB md ops i f.i = true → f.F (g f.d) w) → Calls P f (args g) w fun e w' => e = .returned v ∧ Below w.heap.size w w') (hah : Ahead md ops ix i := by exact ahead_none (by decide)) (hio : ops[i]? = some o := by rfl) (hx : i ≠ ix := by decide) (hz : i ≠ iz := by decide) (hni : (K.all fun f => f.i != i) = true := by kernel_rfl) (hw : ∀ g, Region.wanted o (yielded ops (aF g).tmps) = true := by intro g; kernel_rfl) {d0 : Tmp} (h0 : o.dst = some d0 := by rfl) (hd : ∀ g, (aF g).tmps[d0]? = some v := by intro g; kernel_rfl) (hr : ∀ g w, (execOp (aF g).eval o).run P w = .ok (.enter f (args g)) w := by intro g w; kernel_rfl) : GoesM P md ops aF (SK md ops w1 K ix iz R0 R1) i o := goesK_call hst hah hio hx hz hni hw h0 hd hr hc
theorem gkG {f : FuncId} (args : (Tmp → Value) → Array Value) {d : Tmp} (hst : ∀ f ∈ K, f.ok) {F : Value → World → Prop} (p : Nat) (hc : ∀ g w, Below w1.heap.size w1 w → (∀ (q : Nat) (f : Fact), K[q]? = some f → edgeB md ops i f.i = true → f.F (g f.d) w) → Calls P f (args g) w fun e w' => ∃ v, e = .returned v ∧ F v w' ∧ Below w.heap.size w w') (hat : K[p]? = some ⟨i, d, F⟩ := by rfl) (hah : Ahead md ops ix i := by exact ahead_none (by decide)) (hio : ops[i]? = some o := by rfl) (hx : i ≠ ix := by decide) (hz : i ≠ iz := by decide) (huq : ((List.range K.length).all fun q => q == p || ((K[q]?).map fun f => f.i != i && f.d != d).getD true) = true := by kernel_rfl) (hw : ∀ g, Region.wanted o (yielded ops (aF g).tmps) = true := by intro g; kernel_rfl) (h0 : o.dst = some d := by rfl) (hd : ∀ g, (aF g).tmps[d]? = some (g d) := by intro g; kernel_rfl) (hr : ∀ g w, (execOp (aF g).eval o).run P w = .ok (.enter f (args g)) w := by intro g w; kernel_rfl) : GoesM P md ops aF (SK md ops w1 K ix iz R0 R1) i o := goesK_ghost hst hah hio hx hz p hat huq hw h0 hd hr hc
end
end
end Go.Proofs.YtkkjahhilcjpgaaDoor
