/-
  A region that draws its order, in which an empty row is made, and two slices are appended, one behind the other (append(append([]T{}, a...), b...)).
-/
import Derived.Test.YtbdpjhlfaelgpaaRegN
namespace Go.Proofs.Ytbdpjhlfaelgpaa
open Go.RowKit

section
variable {P : Program} {ops : Array Oper} {md : Region.Mode}
structure SJ (w1 : World) (i0 i1 i2 i3 : Nat) (d0 d1 d2 d3 : Tmp) (te : TypeId) (n1 n2 : Nat) (x1 x2 : List Value) (l : Array Bool) (g : Tmp → Value) (w : World) : Prop where
  below : Below w1.heap.size w1 w
  s0 : l.getD i0 false = true → l.getD i1 false = false → Own w w1.heap.size te 1 (g d0) 0 []
  s1 : l.getD i1 false = true → l.getD i2 false = false → Own w w1.heap.size te 1 (g d1) n1 x1
  s2 : l.getD i2 false = true → Own w w1.heap.size te 1 (g d2) (n1 + n2) (x1 ++ x2)
  s3 : l.getD i3 false = true → g d3 = g d2
  t1 : l.getD i1 false = true → l.getD i0 false = true
  t2 : l.getD i2 false = true → l.getD i1 false = true
  t3 : l.getD i3 false = true → l.getD i2 false = true
variable {w1 : World} {i0 i1 i2 i3 : Nat} {d0 d1 d2 d3 : Tmp} {te : TypeId} {n1 n2 : Nat} {x1 x2 : List Value} {l : Array Bool} {g : Tmp → Value} {w : World} {aF : (Tmp → Value) → Act} {i : Nat} {o : Oper}
theorem SJ.zero (w1 : World) (hb : Below w1.heap.size w1 w) (k : Nat) : SJ w1 i0 i1 i2 i3 d0 d1 d2 d3 te n1 n2 x1 x2 (Array.replicate k false) g w :=
  ⟨hb, (fun h => by rw [no_laid] at h; cases h), (fun h => by rw [no_laid] at h; cases h), (fun h => by rw [no_laid] at h; cases h), (fun h => by rw [no_laid] at h; cases h), (fun h => by rw [no_laid] at h; cases h), (fun h => by rw [no_laid] at h; cases h), (fun h => by rw [no_laid] at h; cases h)⟩
theorem SJ.quiet (h : SJ w1 i0 i1 i2 i3 d0 d1 d2 d3 te n1 n2 x1 x2 l g w) (h0 : i ≠ i0) (h1 : i ≠ i1) (h2 : i ≠ i2) (h3 : i ≠ i3) : SJ w1 i0 i1 i2 i3 d0 d1 d2 d3 te n1 n2 x1 x2 (l.setIfInBounds i true) g w := by
  refine ⟨h.below, ?_, ?_, ?_, ?_, ?_, ?_, ?_⟩ <;> simp only [getD_set_ne false h0, getD_set_ne false h1, getD_set_ne false h2, getD_set_ne false h3]
  · exact h.s0
  · exact h.s1
  · exact h.s2
  · exact h.s3
  · exact h.t1
  · exact h.t2
  · exact h.t3
theorem goesJ_val (v : Value) (h0 : i ≠ i0) (h1 : i ≠ i1) (h2 : i ≠ i2) (h3 : i ≠ i3) (hw : ∀ g, Region.wanted o (yielded ops (aF g).tmps) = true) {d : Tmp} (hd0 : o.dst = some d) (hd : ∀ g, (aF g).tmps[d]? = some v) (h : ∀ g w, Below w1.heap.size w1 w → (execOp (aF g).eval o).run P w = .ok (.value v) w) :
    GoesM P md ops aF (SJ w1 i0 i1 i2 i3 d0 d1 d2 d3 te n1 n2 x1 x2) i o := fun l g w _ _ _ hS => by
  rw [if_pos (hw g)]
  exact .inl ⟨v, w, .inl (h g w hS.below), g, .inl rfl, (fun d' h' => by rw [hd0] at h'; cases h'; exact hd g), hS.quiet h0 h1 h2 h3⟩
theorem goesJ_cell {t : TypeId} {x : Operand} {a : Addr} {v : Value} (h0 : i ≠ i0) (h1 : i ≠ i1) (h2 : i ≠ i2) (h3 : i ≠ i3) (hw : ∀ g, Region.wanted o (yielded ops (aF g).tmps) = true) {d : Tmp} (hd0 : o.dst = some d) (hd : ∀ g, (aF g).tmps[d]? = some v) (ho : o.op = .load t x) (hx : ∀ g, (aF g).eval x = .pointer (some a)) (hk : ∀ w, Below w1.heap.size w1 w → w.cell? a = some v) (hag : ∀ w, (isAgg t).run P w = .ok false w) :
    GoesM P md ops aF (SJ w1 i0 i1 i2 i3 d0 d1 d2 d3 te n1 n2 x1 x2) i o :=
  goesJ_val v h0 h1 h2 h3 hw hd0 hd fun g w hb => by
    unfold execOp
    simp only [ho, hx, Instr.loadAt, Instr.sureAddr, Sem.run_bind, Sem.run_pure, Result.andThen_ok, run_loadVar_one hag (hk w hb)]
theorem laid_no {l : Array Bool} {a b : Nat} (ht : l.getD b false = true → l.getD a false = true) (ha : l.getD a false = false) : l.getD b false = false := by
  cases h : l.getD b false with
  | false => rfl
  | true =>
    rw [ht h] at ha
    cases ha
/-- The empty row. -/
theorem goesJ_make (hi : i = i0) (n01 : i0 ≠ i1) (n02 : i0 ≠ i2) (n03 : i0 ≠ i3) (hw : ∀ g, Region.wanted o (yielded ops (aF g).tmps) = true) (ho : o.dst = some d0) (hd : ∀ g, (aF g).tmps[d0]? = some (g d0)) (hr : ∀ g w, (execOp (aF g).eval o).run P w = .ok (.value (.slice (some ⟨w.heap.size, 0, none⟩) 0 0)) (w.alloc (.cells #[] te))) :
    GoesM P md ops aF (SJ w1 i0 i1 i2 i3 d0 d1 d2 d3 te n1 n2 x1 x2) i o := fun l g w hsz hf _ hS => by
  subst hi
  rw [if_pos (hw g)]
  have f1 := laid_no hS.t1 hf
  have f2 := laid_no hS.t2 f1
  have f3 := laid_no hS.t3 f2
  refine .inl ⟨_, _, .inl (hr g w), upd g d0 (.slice (some ⟨w.heap.size, 0, none⟩) 0 0), .inr ⟨d0, _, ho, rfl⟩, fun d' h' => ?_, hS.below.alloc hS.below.size _, fun _ _ => ?_, ?_, ?_, ?_, ?_, ?_, ?_⟩
  · rw [ho] at h'
    cases h'
    rw [hd, upd_at]
  · rw [upd_at]
    exact Own.of (World.ownsRow_made w #[] 0 hS.below.size (by decide) rfl)
  · rw [getD_set_ne false n01, f1]; intro h; cases h
  · rw [getD_set_ne false n02, f2]; intro h; cases h
  · rw [getD_set_ne false n03, f3]; intro h; cases h
  · rw [getD_set_ne false n01, f1]; intro h; cases h
  · rw [getD_set_ne false n02, f2]; intro h; cases h
  · rw [getD_set_ne false n03, f3]; intro h; cases h
theorem run_app_op {t : TypeId} {s x : Operand} {a : Act} (ho : o.op = .call { callee := .builtin .append, args := #[s, x], argTypes := #[t, t] }) (base : Nat) (e : TypeId) (ti : TypeInfo) (z : Value) (bytes : Nat) (ht : P.underlying t = some (.slice e)) (hi : P.info? e = some ti) (hz : ti.zero = some z) (hsize : ti.size = 1) (hby : ti.bytes = bytes) (hzs : z.cells.size = 1)
    {v : Value} {n : Nat} {xs : List Value} (hs : a.eval s = v) (hown : Own w base e 1 v n xs) {A : Option Addr} {m c : Nat} {news : List Value} (hx : a.eval x = .slice A m c) (hl : news.length = m) (hr : Rd w A news) (h1 : ∀ u ∈ news, u.oneCell' = true) (h63 : n + m ≤ maxLen) (hlim : (n + m) * bytes ≤ 140737488355328) (hbase : base ≤ w.heap.size) :
    ∃ v' w', (execOp a.eval o).run P w = .ok (.value v') w' ∧ Own w' base e 1 v' (n + m) (xs ++ news) ∧ w.grownBy w' v.ownBlock := by
  obtain ⟨v', w', hrun, h2, h3⟩ := run_app (P := P) w base t o.type e ti z 1 bytes ht hi hz hsize hby hzs Nat.one_pos v n xs hown A m c news (by rw [hl, Nat.mul_one]) hr h1 h63 hlim hbase
  refine ⟨v', w', ?_, h2, h3⟩
  unfold execOp
  simp only [ho, resolve, invoke, builtin, Sem.run_bind, Sem.run_pure, Result.andThen_ok, List.map_toArray, List.map_cons, List.map_nil, hs, hx, hrun]
theorem below_grew {v : Value} {n : Nat} {xs : List Value} {w' : World} (hb : Below w1.heap.size w1 w) (ho : Own w w1.heap.size te 1 v n xs) (hg : w.grownBy w' v.ownBlock) : Below w1.heap.size w1 w' :=
  hb.grown hg hb.size (fun k e => (ho.lt k e).1)
/-- The first slice. -/
theorem goesJ_one {t : TypeId} {x : Operand} {ti : TypeInfo} {z : Value} {bytes : Nat} {A : Option Addr} {c : Nat} (hi : i = i1) (n01 : i1 ≠ i0) (n02 : i1 ≠ i2) (n03 : i1 ≠ i3) (hw : ∀ g, Region.wanted o (yielded ops (aF g).tmps) = true) (hop : o.op = .call { callee := .builtin .append, args := #[.tmp d0, x], argTypes := #[t, t] }) (ho : o.dst = some d1) (hd : ∀ g, (aF g).tmps[d1]? = some (g d1)) (he : ∀ g, (aF g).eval (.tmp d0) = g d0) (hx : ∀ g, (aF g).eval x = .slice A n1 c)
    (ht : P.underlying t = some (.slice te)) (hti : P.info? te = some ti) (hz : ti.zero = some z) (hsize : ti.size = 1) (hby : ti.bytes = bytes) (hzs : z.cells.size = 1) (hl : x1.length = n1) (hr : ∀ w, Below w1.heap.size w1 w → Rd w A x1) (h1 : ∀ u ∈ x1, u.oneCell' = true) (h63 : n1 ≤ maxLen) (hlim : n1 * bytes ≤ 140737488355328)
    (hdone : ∀ l : Array Bool, (∀ e ∈ o.after, Region.binds md e = true → l.getD e.on false = true) → l.getD i0 false = true) (hio : ops[i]? = some o) :
    GoesM P md ops aF (SJ w1 i0 i1 i2 i3 d0 d1 d2 d3 te n1 n2 x1 x2) i o := fun l g w hsz hf hrd hS => by
  subst hi
  rw [if_pos (hw g)]
  have f2 := laid_no hS.t2 hf
  have f3 := laid_no hS.t3 f2
  have hlt : i < l.size := by rw [hsz]; exact (Array.getElem?_eq_some_iff.1 hio).1
  have o0 := hS.s0 (hdone l hrd) hf
  obtain ⟨v', w', hrun, h2, h3⟩ := run_app_op (P := P) (a := aF g) hop w1.heap.size te ti z bytes ht hti hz hsize hby hzs (he g) o0 (hx g) hl (hr w hS.below) h1 (by rw [Nat.zero_add]; exact h63) (by rw [Nat.zero_add]; exact hlim) hS.below.size
  rw [Nat.zero_add, List.nil_append] at h2
  refine .inl ⟨v', w', .inl hrun, upd g d1 v', .inr ⟨d1, _, ho, rfl⟩, fun d' h' => ?_, below_grew hS.below o0 h3, ?_, fun _ _ => ?_, ?_, ?_, fun _ => ?_, ?_, ?_⟩
  · rw [ho] at h'
    cases h'
    rw [hd, upd_at]
  · rw [getD_self hlt]; intro _ h; cases h
  · rw [upd_at]; exact h2
  · rw [getD_set_ne false n02, f2]; intro h; cases h
  · rw [getD_set_ne false n03, f3]; intro h; cases h
  · exact getD_up (hdone l hrd)
  · rw [getD_set_ne false n02, f2]; intro h; cases h
  · rw [getD_set_ne false n03, f3]; intro h; cases h
/-- The second slice. -/
theorem goesJ_two {t : TypeId} {x : Operand} {ti : TypeInfo} {z : Value} {bytes : Nat} {A : Option Addr} {c : Nat} (hi : i = i2) (n00 : i2 ≠ i0) (n01 : i2 ≠ i1) (n03 : i2 ≠ i3) (hw : ∀ g, Region.wanted o (yielded ops (aF g).tmps) = true) (hop : o.op = .call { callee := .builtin .append, args := #[.tmp d1, x], argTypes := #[t, t] }) (ho : o.dst = some d2) (hd : ∀ g, (aF g).tmps[d2]? = some (g d2)) (he : ∀ g, (aF g).eval (.tmp d1) = g d1) (hx : ∀ g, (aF g).eval x = .slice A n2 c)
    (ht : P.underlying t = some (.slice te)) (hti : P.info? te = some ti) (hz : ti.zero = some z) (hsize : ti.size = 1) (hby : ti.bytes = bytes) (hzs : z.cells.size = 1) (hl : x2.length = n2) (hr : ∀ w, Below w1.heap.size w1 w → Rd w A x2) (h1 : ∀ u ∈ x2, u.oneCell' = true) (h63 : n1 + n2 ≤ maxLen) (hlim : (n1 + n2) * bytes ≤ 140737488355328)
    (hdone : ∀ l : Array Bool, (∀ e ∈ o.after, Region.binds md e = true → l.getD e.on false = true) → l.getD i1 false = true) (hio : ops[i]? = some o) :
    GoesM P md ops aF (SJ w1 i0 i1 i2 i3 d0 d1 d2 d3 te n1 n2 x1 x2) i o := fun l g w hsz hf hrd hS => by
  subst hi
  rw [if_pos (hw g)]
  have f3 := laid_no hS.t3 hf
  have hlt : i < l.size := by rw [hsz]; exact (Array.getElem?_eq_some_iff.1 hio).1
  have l1 := hdone l hrd
  have o1 := hS.s1 l1 hf
  obtain ⟨v', w', hrun, h2, h3⟩ := run_app_op (P := P) (a := aF g) hop w1.heap.size te ti z bytes ht hti hz hsize hby hzs (he g) o1 (hx g) hl (hr w hS.below) h1 h63 hlim hS.below.size
  refine .inl ⟨v', w', .inl hrun, upd g d2 v', .inr ⟨d2, _, ho, rfl⟩, fun d' h' => ?_, below_grew hS.below o1 h3, ?_, ?_, fun _ => ?_, ?_, ?_, fun _ => ?_, ?_⟩
  · rw [ho] at h'
    cases h'
    rw [hd, upd_at]
  · intro _ h
    rw [getD_up l1] at h
    cases h
  · rw [getD_self hlt]; intro _ h; cases h
  · rw [upd_at]; exact h2
  · rw [getD_set_ne false n03, f3]; intro h; cases h
  · intro h
    exact getD_up (hS.t1 l1)
  · exact getD_up l1
  · rw [getD_set_ne false n03, f3]; intro h; cases h
/-- The row, given a name. -/
theorem goesJ_name (hi : i = i3) (n00 : i3 ≠ i0) (n01 : i3 ≠ i1) (n02 : i3 ≠ i2) (m2 : d2 ≠ d3) (hw : ∀ g, Region.wanted o (yielded ops (aF g).tmps) = true) (hop : o.op = .assign (.tmp d2)) (ho : o.dst = some d3) (hd : ∀ g, (aF g).tmps[d3]? = some (g d3)) (he : ∀ g, (aF g).eval (.tmp d2) = g d2)
    (hdone : ∀ l : Array Bool, (∀ e ∈ o.after, Region.binds md e = true → l.getD e.on false = true) → l.getD i2 false = true) :
    GoesM P md ops aF (SJ w1 i0 i1 i2 i3 d0 d1 d2 d3 te n1 n2 x1 x2) i o := fun l g w hsz hf hrd hS => by
  subst hi
  rw [if_pos (hw g)]
  have l2 := hdone l hrd
  have l1 := hS.t2 l2
  refine .inl ⟨g d2, w, .inl ?_, upd g d3 (g d2), .inr ⟨d3, _, ho, rfl⟩, fun d' h' => ?_, hS.below, ?_, ?_, fun _ => ?_, fun _ => ?_, fun _ => ?_, fun _ => ?_, fun _ => ?_⟩
  · unfold execOp
    simp only [hop, he, Sem.run_pure]
  · rw [ho] at h'
    cases h'
    rw [hd, upd_at]
  · intro _ h
    rw [getD_up l1] at h
    cases h
  · intro _ h
    rw [getD_up l2] at h
    cases h
  · rw [upd_ne g _ m2]
    exact hS.s2 l2
  · rw [upd_at, upd_ne g _ m2]
  · exact getD_up (hS.t1 l1)
  · exact getD_up l1
  · exact getD_up l2
/-- The region, whatever order is picked. -/
theorem wp_region_join {Q : Exit → Act → World → Prop} {id : Nat} {a : Act} {w0 : World} (aL : Value → Value → Value → Value → Act) (vals : List Value) (hm : P.follows .mixedOrders = true) (hc : regCheck .any ops = true) (hs : Region.noSelect ops = true)
    (hL : ∀ g, fillA (aL undef undef undef undef) [d0, d1, d2, d3] g = aL (g d0) (g d1) (g d2) (g d3)) (hn : goF a ops.toList vals = aL undef undef undef undef) (hS : Below w1.heap.size w1 w0.drew) (h2 : i2 < ops.size) (h3 : i3 < ops.size)
    (hg : GoesL P .any ops (fun g => aL (g d0) (g d1) (g d2) (g d3)) (SJ w1 i0 i1 i2 i3 d0 d1 d2 d3 te n1 n2 x1 x2) 0 ops.toList)
    (hQ : ∀ u0 u1 v w, Below w1.heap.size w1 w → Own w w1.heap.size te 1 v (n1 + n2) (x1 ++ x2) → Q .normal (aL u0 u1 v v) w) :
    (Code.region id ops true).wp P Q a w0 :=
  wp_region_made (a0 := aL undef undef undef undef) (S := SJ w1 i0 i1 i2 i3 d0 d1 d2 d3 te n1 n2 x1 x2) [d0, d1, d2, d3] hm hc hs (fun _ => undef) (by rw [hL]; exact near_of vals hn) (SJ.zero w1 hS _) (by rw [show fillA (aL undef undef undef undef) [d0, d1, d2, d3] = fun g => aL (g d0) (g d1) (g d2) (g d3) from funext hL]; exact goesAllM_of_list hg) fun l g w hall h => by
    rw [hL, h.s3 (hall _ h3)]
    exact hQ _ _ _ w h.below (h.s2 (hall _ h2))
end
end Go.Proofs.Ytbdpjhlfaelgpaa
