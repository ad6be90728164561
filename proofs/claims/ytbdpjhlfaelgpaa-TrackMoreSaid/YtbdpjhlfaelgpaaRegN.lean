/-
  A region that draws its order, with one new block that is stored into (and one slice that is handed to a call): what each operation keeps.
-/
import Derived.Test.YtbdpjhlfaelgpaaRegM
import Derived.Test.YtbdpjhlfaelgpaaIns
namespace Go.Proofs.Ytbdpjhlfaelgpaa
open Go.RowKit

section
variable {P : Program} {ops : Array Oper} {md : Region.Mode}
theorem getD_up {l : Array Bool} {i j : Nat} (h : l.getD j false = true) : (l.setIfInBounds i true).getD j false = true := by
  by_cases hij : i = j
  · subst hij
    have hlt : i < l.size := by
      rcases Nat.lt_or_ge i l.size with h1 | h1
      · exact h1
      · rw [Array.getD_eq_getD_getElem?, Array.getElem?_eq_none h1] at h
        cases h
    rw [Array.getD_eq_getD_getElem?, Array.getElem?_setIfInBounds_self_of_lt hlt]
    rfl
  · rw [getD_set_ne false hij]
    exact h
theorem getD_dn {l : Array Bool} {i j : Nat} (h : (l.setIfInBounds i true).getD j false = false) : l.getD j false = false := by
  cases hh : l.getD j false with
  | false => rfl
  | true =>
    rw [getD_up hh] at h
    cases h
theorem getD_self {l : Array Bool} {i : Nat} (h : i < l.size) : (l.setIfInBounds i true).getD i false = true := by
  rw [Array.getD_eq_getD_getElem?, Array.getElem?_setIfInBounds_self_of_lt h]
  rfl
/-- A region's state: one new block (made by operation ia into slot d, stored by operation iz), one slice that is handed on (made by operation ih into slot dh, wanted till operation ic). -/
structure SM (w1 : World) (ia iz : Nat) (d : Tmp) (ty : TypeId) (z cs : Array Value) (ih ic : Nat) (dh : Tmp) (n : Nat) (xs : List Value) (l : Array Bool) (g : Tmp → Value) (w : World) : Prop where
  below : Below w1.heap.size w1 w
  made : l.getD ia false = true → ∃ b, g d = .pointer (some ⟨b, 0, none⟩) ∧ w1.heap.size ≤ b ∧ Blk w b ty (if l.getD iz false = true then cs else z)
  hand : l.getD ih false = true → l.getD ic false = false → ∃ A c, g dh = .slice A n c ∧ Rd w A xs
  turn : l.getD iz false = true → l.getD ia false = true
variable {w1 : World} {ia iz : Nat} {d : Tmp} {ty : TypeId} {z cs : Array Value} {ih ic : Nat} {dh : Tmp} {n : Nat} {xs : List Value} {l : Array Bool} {g : Tmp → Value} {w w' : World} {aF : (Tmp → Value) → Act} {i : Nat} {o : Oper}
theorem SM.quiet (h : SM w1 ia iz d ty z cs ih ic dh n xs l g w) (hb : Below w.heap.size w w') (hia : i ≠ ia) (hiz : i ≠ iz) (hih : i ≠ ih) : SM w1 ia iz d ty z cs ih ic dh n xs (l.setIfInBounds i true) g w' := by
  refine ⟨h.below.trans (hb.mono h.below.size), fun ha => ?_, fun ha hc => ?_, fun hz => ?_⟩
  · rw [getD_set_ne false hia] at ha
    obtain ⟨b, h1, h2, h3⟩ := h.made ha
    refine ⟨b, h1, h2, ?_⟩
    rw [getD_set_ne false hiz]
    exact h3.below hb h3.lt
  · rw [getD_set_ne false hih] at ha
    obtain ⟨A, c, h1, h2⟩ := h.hand ha (getD_dn hc)
    exact ⟨A, c, h1, h2.below hb⟩
  · rw [getD_set_ne false hiz] at hz
    exact getD_up (h.turn hz)
theorem no_laid (k j : Nat) : (Array.replicate k false).getD j false = false := by
  rw [Array.getD_eq_getD_getElem?, Array.getElem?_replicate]
  split <;> rfl
theorem SM.zero (w1 : World) (hb : Below w1.heap.size w1 w) (k : Nat) : SM w1 ia iz d ty z cs ih ic dh n xs (Array.replicate k false) g w :=
  ⟨hb, (fun h => by rw [no_laid] at h; cases h), (fun h => by rw [no_laid] at h; cases h), (fun h => by rw [no_laid] at h; cases h)⟩
theorem SM.end_ (h : SM w1 ia iz d ty z cs ih ic dh n xs l g w) (ha : l.getD ia false = true) (hz : l.getD iz false = true) : ∃ b, g d = .pointer (some ⟨b, 0, none⟩) ∧ w1.heap.size ≤ b ∧ Blk w b ty cs := by
  obtain ⟨b, h1, h2, h3⟩ := h.made ha
  rw [if_pos hz] at h3
  exact ⟨b, h1, h2, h3⟩
/-- A list of looks, one an operation. -/
def GoesL (P : Program) (md : Region.Mode) (ops : Array Oper) (aF : (Tmp → Value) → Act) (S : Array Bool → (Tmp → Value) → World → Prop) : Nat → List Oper → Prop
  | _, [] => True
  | i, o :: os => GoesM P md ops aF S i o ∧ GoesL P md ops aF S (i + 1) os
theorem goes_cons {S : Array Bool → (Tmp → Value) → World → Prop} {os : List Oper} (h : GoesM P md ops aF S i o) (hs : GoesL P md ops aF S (i + 1) os) : GoesL P md ops aF S i (o :: os) := ⟨h, hs⟩
theorem goes_nil {S : Array Bool → (Tmp → Value) → World → Prop} : GoesL P md ops aF S i [] := trivial
theorem goesL_get {S : Array Bool → (Tmp → Value) → World → Prop} : ∀ (os : List Oper) (k : Nat), GoesL P md ops aF S k os → ∀ (j : Nat) (o : Oper), os[j]? = some o → GoesM P md ops aF S (k + j) o
  | [], _, _, _, _, h => by simp at h
  | x :: os, k, h, 0, o, ho => by
    simp at ho
    subst ho
    exact h.1
  | x :: os, k, h, j + 1, o, ho => by
    have := goesL_get os (k + 1) h.2 j o (by simpa using ho)
    rwa [show k + 1 + j = k + (j + 1) by omega] at this
theorem goesAllM_of_list {S : Array Bool → (Tmp → Value) → World → Prop} (h : GoesL P md ops aF S 0 ops.toList) : GoesAllM P md ops aF S := fun i o ho => by
  have := goesL_get ops.toList 0 h i o (by rw [← ho, Array.getElem?_toList])
  rwa [Nat.zero_add] at this
/-- A value, and the world as it was. -/
theorem goesM_val (v : (Tmp → Value) → Value) (hia : i ≠ ia) (hiz : i ≠ iz) (hih : i ≠ ih) (hw : ∀ g, Region.wanted o (yielded ops (aF g).tmps) = true) {d0 : Tmp} (h0 : o.dst = some d0) (hd : ∀ g, (aF g).tmps[d0]? = some (v g)) (h : ∀ g w, Below w1.heap.size w1 w → (execOp (aF g).eval o).run P w = .ok (.value (v g)) w) :
    GoesM P md ops aF (SM w1 ia iz d ty z cs ih ic dh n xs) i o := fun l g w _ _ _ hS => by
  rw [if_pos (hw g)]
  exact .inl ⟨v g, w, .inl (h g w hS.below), g, .inl rfl, (fun d' h' => by rw [h0] at h'; cases h'; exact hd g), hS.quiet (Below.refl _ _) hia hiz hih⟩
/-- A struct, or an array, of a known block. -/
theorem goesM_load {t : TypeId} {x : Operand} {b : Nat} {es : Array Value} {td : TypeDesc} (hia : i ≠ ia) (hiz : i ≠ iz) (hih : i ≠ ih) (hw : ∀ g, Region.wanted o (yielded ops (aF g).tmps) = true) {d0 : Tmp} (h0 : o.dst = some d0) (hd : ∀ g, (aF g).tmps[d0]? = some (.agg es)) (ho : o.op = .load t x) (hx : ∀ g, (aF g).eval x = .pointer (some ⟨b, 0, none⟩)) (hk : ∀ w, Below w1.heap.size w1 w → Blk w b t es) (hu : P.underlying t = some td) (hr : td.isRow = true) (hi : (P.info? t).map (·.size) = some es.size) :
    GoesM P md ops aF (SM w1 ia iz d ty z cs ih ic dh n xs) i o :=
  goesM_val (fun _ => .agg es) hia hiz hih hw h0 hd fun g w hb => by
    unfold execOp
    simp only [ho, hx, Instr.loadAt, Instr.sureAddr, Sem.run_bind, Sem.run_pure, Result.andThen_ok, run_loadVar_mid w b 0 t es.toList td (hk w hb).range hu hr (by rw [hi]; simp)]
/-- The same, out of the midst of a known block. -/
theorem goesM_row {t : TypeId} {x : Operand} {b q : Nat} {es : Array Value} {td : TypeDesc} (hia : i ≠ ia) (hiz : i ≠ iz) (hih : i ≠ ih) (hw : ∀ g, Region.wanted o (yielded ops (aF g).tmps) = true) {d0 : Tmp} (h0 : o.dst = some d0) (hd : ∀ g, (aF g).tmps[d0]? = some (.agg es)) (ho : o.op = .load t x) (hx : ∀ g, (aF g).eval x = .pointer (some ⟨b, q, none⟩)) (hk : ∀ w, Below w1.heap.size w1 w → w.rangeAt b q es.toList) (hu : P.underlying t = some td) (hr : td.isRow = true) (hi : (P.info? t).map (·.size) = some es.size) :
    GoesM P md ops aF (SM w1 ia iz d ty z cs ih ic dh n xs) i o :=
  goesM_val (fun _ => .agg es) hia hiz hih hw h0 hd fun g w hb => by
    unfold execOp
    simp only [ho, hx, Instr.loadAt, Instr.sureAddr, Sem.run_bind, Sem.run_pure, Result.andThen_ok, run_loadVar_mid w b q t es.toList td (hk w hb) hu hr (by rw [hi]; simp)]
theorem run_loadVar_one {t : TypeId} {a : Addr} {v : Value} {w : World} (hag : ∀ w, (isAgg t).run P w = .ok false w) (hc : w.cell? a = some v) : (loadVar t a).run P w = .ok v w := by
  simp [loadVar, hag, hc, Result.andThen]
/-- One cell. -/
theorem goesM_cell {t : TypeId} {x : Operand} {a : Addr} {v : Value} (hia : i ≠ ia) (hiz : i ≠ iz) (hih : i ≠ ih) (hw : ∀ g, Region.wanted o (yielded ops (aF g).tmps) = true) {d0 : Tmp} (h0 : o.dst = some d0) (hd : ∀ g, (aF g).tmps[d0]? = some v) (ho : o.op = .load t x) (hx : ∀ g, (aF g).eval x = .pointer (some a)) (hk : ∀ w, Below w1.heap.size w1 w → w.cell? a = some v) (hag : ∀ w, (isAgg t).run P w = .ok false w) :
    GoesM P md ops aF (SM w1 ia iz d ty z cs ih ic dh n xs) i o :=
  goesM_val (fun _ => v) hia hiz hih hw h0 hd fun g w hb => by
    unfold execOp
    simp only [ho, hx, Instr.loadAt, Instr.sureAddr, Sem.run_bind, Sem.run_pure, Result.andThen_ok, run_loadVar_one hag (hk w hb)]
/-- The place of a slice's element, of one cell. -/
theorem goesM_index {t : TypeId} {x y : Operand} {b q m c k : Nat} (hia : i ≠ ia) (hiz : i ≠ iz) (hih : i ≠ ih) (hw : ∀ g, Region.wanted o (yielded ops (aF g).tmps) = true) {d0 : Tmp} (h0 : o.dst = some d0) (hd : ∀ g, (aF g).tmps[d0]? = some (.pointer (some ⟨b, q + k, none⟩))) (ho : o.op = .indexAddr t x y) (hx : ∀ g, (aF g).eval x = .slice (some ⟨b, q, none⟩) m c) (hy : ∀ g, (aF g).eval y = .int .i64 (k : Int)) (hk : k < m) (ht : P.underlying t = some (.slice (P.elem t))) (hs : ∀ w, (sizeOf (P.elem t)).run P w = .ok 1 w) :
    GoesM P md ops aF (SM w1 ia iz d ty z cs ih ic dh n xs) i o :=
  goesM_val (fun _ => .pointer (some ⟨b, q + k, none⟩)) hia hiz hih hw h0 hd fun g w _ => by
    unfold execOp
    have e : (⟨b, q, none⟩ : Addr).add k = ⟨b, q + k, none⟩ := by unfold Addr.add; split <;> simp_all
    simp only [ho, hx, hy, Sem.run_bind, run_indexAt_slice w t _ m c .i64 (k : Int) ht, if_pos (show (0 : Int) ≤ (k : Int) ∧ (k : Int) < (m : Int) by omega), hs, Result.andThen_ok, Int.toNat_natCast, Nat.mul_one, e, Sem.run_pure]
/-- Two values, weighed or reckoned with. -/
theorem goesM_bin {op : BinOp} {t t2 : TypeId} {x y : Operand} {xv yv v : Value} (hia : i ≠ ia) (hiz : i ≠ iz) (hih : i ≠ ih) (hw : ∀ g, Region.wanted o (yielded ops (aF g).tmps) = true) {d0 : Tmp} (h0 : o.dst = some d0) (hd : ∀ g, (aF g).tmps[d0]? = some v) (ho : o.op = .binOp op t x y t2) (hx : ∀ g, (aF g).eval x = xv) (hy : ∀ g, (aF g).eval y = yv) (hr : ∀ w, (do eqGuard op t x y xv yv; binOp op t xv yv : Sem Value).run P w = .ok v w) :
    GoesM P md ops aF (SM w1 ia iz d ty z cs ih ic dh n xs) i o :=
  goesM_val (fun _ => v) hia hiz hih hw h0 hd fun g w _ => by
    unfold execOp
    have h := hr w
    simp only [Sem.run_bind] at h
    simp only [ho, hx, hy, Sem.run_bind, h, Result.andThen_ok, Sem.run_pure]
/-- A call whose answer is known. -/
theorem goesM_call {v : Value} {f : FuncId} {args : (Tmp → Value) → Array Value} (hia : i ≠ ia) (hiz : i ≠ iz) (hih : i ≠ ih) (hw : ∀ g, Region.wanted o (yielded ops (aF g).tmps) = true) {d0 : Tmp} (h0 : o.dst = some d0) (hd : ∀ g, (aF g).tmps[d0]? = some v) (hr : ∀ g w, (execOp (aF g).eval o).run P w = .ok (.enter f (args g)) w)
    (hc : ∀ l g w, l.size = ops.size → l.getD i false = false → (∀ e ∈ o.after, Region.binds md e = true → l.getD e.on false = true) → SM w1 ia iz d ty z cs ih ic dh n xs l g w → Calls P f (args g) w fun e w' => e = .returned v ∧ Below w.heap.size w w') :
    GoesM P md ops aF (SM w1 ia iz d ty z cs ih ic dh n xs) i o := fun l g w hz hf hrd hS => by
  rw [if_pos (hw g)]
  exact .inr ⟨f, args g, w, hr g w, (hc l g w hz hf hrd hS).mono fun e w' ⟨he, hb⟩ => ⟨v, he, g, .inl rfl, (fun d' h' => by rw [h0] at h'; cases h'; exact hd g), hS.quiet hb hia hiz hih⟩⟩
/-- The new block. -/
theorem goesM_alloc (hi : i = ia) (haz : ia ≠ iz) (hah : ia ≠ ih) (hdd : dh ≠ d) (hw : ∀ g, Region.wanted o (yielded ops (aF g).tmps) = true) (ho : o.dst = some d) (hd : ∀ g, (aF g).tmps[d]? = some (g d)) (hr : ∀ g w, (execOp (aF g).eval o).run P w = .ok (.value (.pointer (some ⟨w.heap.size, 0, none⟩))) (w.alloc (.cells z ty))) :
    GoesM P md ops aF (SM w1 ia iz d ty z cs ih ic dh n xs) i o := fun l g w hsz hf _ hS => by
  subst hi
  rw [if_pos (hw g)]
  have hz0 : l.getD iz false = false := by
    cases hh : l.getD iz false with
    | false => rfl
    | true =>
      rw [hS.turn hh] at hf
      cases hf
  refine .inl ⟨_, _, .inl (hr g w), upd g d (.pointer (some ⟨w.heap.size, 0, none⟩)), .inr ⟨d, _, ho, rfl⟩, fun d' h' => ?_, hS.below.alloc hS.below.size _, fun _ => ⟨w.heap.size, upd_at _ _ _, hS.below.size, ?_⟩, fun ha hc => ?_, fun hh => ?_⟩
  · rw [ho] at h'
    cases h'
    rw [hd, upd_at]
  · rw [getD_set_ne false haz, hz0]
    exact Blk.new w ty z
  · rw [getD_set_ne false hah] at ha
    obtain ⟨A, c, h1, h2⟩ := hS.hand ha (getD_dn hc)
    exact ⟨A, c, by rw [upd_ne g _ hdd]; exact h1, h2.alloc _⟩
  · rw [getD_set_ne false haz, hz0] at hh
    cases hh
/-- The store into it. -/
theorem goesM_store {x y : Operand} (hi : i = iz) (hio : ops[i]? = some o) (hzh : iz ≠ ih) (hza : iz ≠ ia) (hw : ∀ g, Region.wanted o (yielded ops (aF g).tmps) = true) (hop : o.op = .store ty x y) (ho : o.dst = none) (hx : ∀ g, (aF g).eval x = g d) (hy : ∀ g, (aF g).eval y = .agg cs)
    (hs : cs.size = z.size) (hin : (P.info? ty).map (·.size) = some z.size) (h1 : cs.toList.all (·.oneCell') = true)
    (hdone : ∀ l : Array Bool, l.size = ops.size → (∀ e ∈ o.after, Region.binds md e = true → l.getD e.on false = true) → l.getD ia false = true ∧ (l.getD ih false = true → l.getD ic false = true)) :
    GoesM P md ops aF (SM w1 ia iz d ty z cs ih ic dh n xs) i o := fun l g w hsz hf hrd hS => by
  subst hi
  rw [if_pos (hw g)]
  obtain ⟨la, lh⟩ := hdone l hsz hrd
  obtain ⟨b, g1, g2, g3⟩ := hS.made la
  rw [hf] at g3
  replace g3 : Blk w b ty z := g3
  have hlt : i < l.size := by rw [hsz]; exact (Array.getElem?_eq_some_iff.1 hio).1
  have hrun := g3.run_set (P := P) cs hs hin h1
  refine .inl ⟨undef, w.setCells b 0 cs.toList, .inr ⟨?_, rfl⟩, g, .inl rfl, (fun d' h' => by rw [ho] at h'; cases h'), hS.below.grown (grown_setCells b _ 0 w) hS.below.size (fun k e => by cases e; exact g2), fun _ => ⟨b, g1, g2, ?_⟩, fun ha hc => ?_, fun _ => ?_⟩
  · unfold execOp
    simp only [hop, hx, hy, g1, Sem.run_bind, hrun, Result.andThen_ok, Sem.run_pure]
  · rw [getD_self hlt, if_pos rfl]
    exact g3.setAll hs
  · rw [getD_set_ne false hzh] at ha
    rw [getD_up (lh ha)] at hc
    cases hc
  · exact getD_up la
/-- The slice, out of a call. -/
theorem goesM_hand {f : FuncId} {args : (Tmp → Value) → Array Value} (hi : i = ih) (hha : ih ≠ ia) (hhz : ih ≠ iz) (hdd : d ≠ dh) (hw : ∀ g, Region.wanted o (yielded ops (aF g).tmps) = true) (ho : o.dst = some dh) (hd : ∀ g, (aF g).tmps[dh]? = some (g dh)) (hr : ∀ g w, (execOp (aF g).eval o).run P w = .ok (.enter f (args g)) w)
    (hc : ∀ g w, Below w1.heap.size w1 w → Calls P f (args g) w fun e w' => ∃ A c, e = .returned (.slice A n c) ∧ Rd w' A xs ∧ Below w.heap.size w w') :
    GoesM P md ops aF (SM w1 ia iz d ty z cs ih ic dh n xs) i o := fun l g w hsz hf _ hS => by
  subst hi
  rw [if_pos (hw g)]
  refine .inr ⟨f, args g, w, hr g w, (hc g w hS.below).mono fun e w' ⟨A, c, he, hR, hb⟩ => ⟨.slice A n c, he, upd g dh (.slice A n c), .inr ⟨dh, _, ho, rfl⟩, fun d' h' => ?_, hS.below.trans (hb.mono hS.below.size), fun ha => ?_, fun _ _ => ⟨A, c, upd_at _ _ _, hR⟩, fun hh => ?_⟩⟩
  · rw [ho] at h'
    cases h'
    rw [hd, upd_at]
  · rw [getD_set_ne false hha] at ha
    obtain ⟨b, h1, h2, h3⟩ := hS.made ha
    refine ⟨b, by rw [upd_ne g _ hdd]; exact h1, h2, ?_⟩
    rw [getD_set_ne false hhz]
    exact h3.below hb h3.lt
  · rw [getD_set_ne false hhz] at hh
    exact getD_up (hS.turn hh)
/-- The slice, out of a list of its own. -/
theorem goesM_slice {te : TypeId} {es : Array Value} (hi : i = ih) (hha : ih ≠ ia) (hhz : ih ≠ iz) (hdd : d ≠ dh) (hw : ∀ g, Region.wanted o (yielded ops (aF g).tmps) = true) (ho : o.dst = some dh) (hd : ∀ g, (aF g).tmps[dh]? = some (g dh)) (hr : ∀ g w, (execOp (aF g).eval o).run P w = .ok (.value (.slice (some ⟨w.heap.size, 0, none⟩) n n)) (w.alloc (.cells es te))) (hxs : es.toList = xs) :
    GoesM P md ops aF (SM w1 ia iz d ty z cs ih ic dh n xs) i o := fun l g w hsz hf _ hS => by
  subst hi
  rw [if_pos (hw g)]
  refine .inl ⟨_, _, .inl (hr g w), upd g dh (.slice (some ⟨w.heap.size, 0, none⟩) n n), .inr ⟨dh, _, ho, rfl⟩, fun d' h' => ?_, hS.below.alloc hS.below.size _, fun ha => ?_, fun _ _ => ⟨_, _, upd_at _ _ _, Rd.block (heap_alloc_new w (.cells es te)) (by rw [hxs, List.take_length])⟩, fun hh => ?_⟩
  · rw [ho] at h'
    cases h'
    rw [hd, upd_at]
  · rw [getD_set_ne false hha] at ha
    obtain ⟨b, h1, h2, h3⟩ := hS.made ha
    refine ⟨b, by rw [upd_ne g _ hdd]; exact h1, h2, ?_⟩
    rw [getD_set_ne false hhz]
    exact h3.alloc _
  · rw [getD_set_ne false hhz] at hh
    exact getD_up (hS.turn hh)
/-- The region, whatever order is picked. -/
theorem wp_region_one {Q : Exit → Act → World → Prop} {id : Nat} {a : Act} {w0 : World} (ds : List Tmp) (aL : Value → Value → Act) (vals : List Value) (hm : P.follows .mixedOrders = true) (hc : regCheck .any ops = true) (hs : Region.noSelect ops = true)
    (hL : ∀ g, fillA (aL undef undef) ds g = aL (g d) (g dh)) (hn : goF a ops.toList vals = aL undef undef) (hS : Below w1.heap.size w1 w0.drew) (hia : ia < ops.size) (hiz : iz < ops.size)
    (hg : GoesL P .any ops (fun g => aL (g d) (g dh)) (SM w1 ia iz d ty z cs ih ic dh n xs) 0 ops.toList)
    (hQ : ∀ b v w, w1.heap.size ≤ b → Below w1.heap.size w1 w → Blk w b ty cs → Q .normal (aL (.pointer (some ⟨b, 0, none⟩)) v) w) :
    (Code.region id ops true).wp P Q a w0 :=
  wp_region_made (a0 := aL undef undef) (S := SM w1 ia iz d ty z cs ih ic dh n xs) ds hm hc hs (fun _ => undef) (by rw [hL]; exact near_of vals hn) (SM.zero w1 hS _) (by rw [show fillA (aL undef undef) ds = fun g => aL (g d) (g dh) from funext hL]; exact goesAllM_of_list hg) fun l g w hall h => by
    obtain ⟨b, h1, h2, h3⟩ := h.end_ (hall _ hia) (hall _ hiz)
    rw [hL, h1]
    exact hQ b (g dh) w h2 h.below h3
end
end Go.Proofs.Ytbdpjhlfaelgpaa
