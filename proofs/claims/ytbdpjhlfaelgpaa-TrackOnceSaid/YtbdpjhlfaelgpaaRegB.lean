/-
  A region that draws its order, with an append onto a row of one's own (and a store behind it).
-/
import Derived.Test.YtbdpjhlfaelgpaaRegK
import Derived.Test.YtbdpjhlfaelgpaaRegA
namespace Go.Proofs.Ytbdpjhlfaelgpaa
open Go.RowKit

section
variable {P : Program} {ops : Array Oper} {md : Region.Mode} {w1 : World} {K : List Fact} {ix iz : Nat} {R1 : (Tmp → Value) → World → World → Prop} {aF : (Tmp → Value) → Act} {i : Nat} {o : Oper}
theorem run_storeAt_one {t : TypeId} {a : Addr} {v u : Value} {w : World} (hs : ∀ w, (sizeOf t).run P w = .ok 1 w) (hv : v.cells = #[v]) (h1 : v.oneCell' = true) (hc : w.cell? a = some u) (hf : w.frozen? a = false) :
    (Instr.storeAt t (.pointer (some a)) v).run P w = .ok () (w.setCell a v) := by
  have hst : (store a v).run P w = .ok () (w.setCell a v) := by
    rw [run_store P w a v _ h1, hc]
    simp [hf]
  have ha : a.add 0 = a := by unfold Addr.add; split <;> simp_all
  simp [Instr.storeAt, Instr.sureAddr, storeVar, hv, hs, storeCells, ha, hst, Result.andThen]
/-- The row behind the append. -/
def AppR (base : Nat) (te : TypeId) (d : Tmp) (n : Nat) (xs : List Value) (v0 : Value) (g : Tmp → Value) (ws w : World) : Prop := Own w base te 1 (g d) n xs ∧ ws.grownBy w v0.ownBlock
theorem goesK_app {t te : TypeId} {s x : Operand} {ti : TypeInfo} {z : Value} {bytes base n0 m : Nat} {v0 : Value} {xs0 news : List Value} {d : Tmp} (hi : i = ix) (hxz : ix ≠ iz) (hio : ops[i]? = some o) (hall : (K.all fun f => edgeB md ops ix f.i) = true) (hdf : (K.all fun f => f.d != d) = true) (hw : ∀ g, Region.wanted o (yielded ops (aF g).tmps) = true) (ho : o.dst = some d) (hd : ∀ g, (aF g).tmps[d]? = some (g d))
    (hop : o.op = .call { callee := .builtin .append, args := #[s, x], argTypes := #[t, t] }) (ht : P.underlying t = some (.slice te)) (hti : P.info? te = some ti) (hz : ti.zero = some z) (hsize : ti.size = 1) (hby : ti.bytes = bytes) (hzs : z.cells.size = 1)
    (he : ∀ g, (aF g).eval s = v0) (hown : Own w1 base te 1 v0 n0 xs0) (hbs : base ≤ w1.heap.size) (hl : news.length = m) (h1 : ∀ u ∈ news, u.oneCell' = true) (h63 : n0 + m ≤ maxLen) (hlim : (n0 + m) * bytes ≤ 140737488355328)
    (hx : ∀ g w, Below w1.heap.size w1 w → (∀ (q : Nat) (f : Fact), K[q]? = some f → f.F (g f.d) w) → ∃ A c, (aF g).eval x = .slice A m c ∧ Rd w A news) :
    GoesM P md ops aF (SK md ops w1 K ix iz (AppR base te d (n0 + m) (xs0 ++ news) v0) R1) i o :=
  goesK_append hi hxz hio hall hdf hw ho hd fun g w hW hK => by
    obtain ⟨A, c, e, hR⟩ := hx g w hW hK
    obtain ⟨v', w', r1, r2, r3⟩ := run_app_op (P := P) (a := aF g) hop base te ti z bytes ht hti hz hsize hby hzs (he g) (hown.behind hW) e hl hR h1 h63 hlim (Nat.le_trans hbs hW.size)
    exact ⟨v', w', r1, by rw [upd_at]; exact r2, r3⟩
/-- The row's slice, stored into a cell of a known block. -/
theorem goesK_put {t te tb : TypeId} {x y : Operand} {base n q b : Nat} {v0 u : Value} {xs : List Value} {es : Array Value} {n0 : Nat} {xs0 : List Value} {d : Tmp} (hi : i = iz) (hxz : ix ≠ iz) (hio : ops[i]? = some o) (hax : edgeB md ops iz ix = true) (hni : (K.all fun f => f.i != iz) = true) (hw : ∀ g, Region.wanted o (yielded ops (aF g).tmps) = true) (ho : o.dst = none)
    (hop : o.op = .store t x y) (hx : ∀ g, (aF g).eval x = .pointer (some ⟨b, q, none⟩)) (hy : ∀ g, (aF g).eval y = g d) (hs : ∀ w, (sizeOf t).run P w = .ok 1 w) (hown : Own w1 base te 1 v0 n0 xs0) (hk : Blk w1 b tb es) (hq : es[q]? = some u) (hne : te ≠ tb) :
    GoesM P md ops aF (SK md ops w1 K ix iz (AppR base te d n xs v0) (fun g ws w => ∃ wm, AppR base te d n xs v0 g ws wm ∧ w = wm.setCell ⟨b, q, none⟩ (g d))) i o :=
  goesK_then hi hxz hio hax hni hw ho (fun g w => w.setCell ⟨b, q, none⟩ (g d)) fun g ws w hW _ hR => by
    obtain ⟨A2, c2, e2, _⟩ := hR.1.form
    have kw := (hk.below hW hk.lt).grown hR.2 ((hown.behind hW).no_cells (hk.below hW hk.lt) hne)
    refine ⟨?_, w, hR, rfl⟩
    have hc := kw.cell q
    rw [hq] at hc
    unfold execOp
    simp only [hop, hx, hy, e2, Sem.run_bind, run_storeAt_one (P := P) (t := t) (v := .slice A2 n c2) hs rfl rfl hc (kw.frozen q), Result.andThen_ok, Sem.run_pure]
/-- A struct that the run alone tells, stored whole into a known block, last of all. -/
theorem goesK_box {t : TypeId} {x y : Operand} {b : Nat} {es : Array Value} {d : Tmp} (hi : i = ix) (hxz : ix = iz) (hio : ops[i]? = some o) (hall : (K.all fun f => edgeB md ops ix f.i) = true) (hw : ∀ g, Region.wanted o (yielded ops (aF g).tmps) = true) (ho : o.dst = none)
    (hop : o.op = .store t x y) (hx : ∀ g, (aF g).eval x = .pointer (some ⟨b, 0, none⟩)) (hy : ∀ g, (aF g).eval y = g d) (hk : Blk w1 b t es) (hin : (P.info? t).map (·.size) = some es.size)
    (hf : ∀ (g : Tmp → Value) (w : World), Below w1.heap.size w1 w → (∀ (q : Nat) (f : Fact), K[q]? = some f → f.F (g f.d) w) → ∃ cs : Array Value, g d = .agg cs ∧ cs.size = es.size ∧ cs.toList.all (·.oneCell') = true) :
    GoesM P md ops aF (SK md ops w1 K ix iz (fun _ _ _ => True) (fun g ws w => ∃ cs : Array Value, g d = .agg cs ∧ w = ws.setCells b 0 cs.toList)) i o :=
  goesK_store hi hxz hio hall hw ho (fun g w => w.setCells b 0 (match g d with | .agg cs => cs.toList | _ => [])) fun g w hW hK => by
    obtain ⟨cs, e, h1, h2⟩ := hf g w hW hK
    have kw := hk.below hW hk.lt
    have hrun := kw.run_set (P := P) cs h1 hin h2
    refine ⟨?_, cs, e, by rw [e]⟩
    unfold execOp
    simp only [hop, hx, hy, e, Sem.run_bind, hrun, Result.andThen_ok, Sem.run_pure]
theorem setCells_fr (b : Nat) (vs : List Value) (w : World) : Fr w (w.setCells b 0 vs) (fun k => k = b) := (Fr.of_grown (grown_setCells b vs 0 w)).mono fun k hk => by
  cases hk
  rfl
end
end Go.Proofs.Ytbdpjhlfaelgpaa
