/-
  Regions that draw their order (RegK's state), whose operations make what the run alone tells out of what it told ahead: an append onto a slice without room, a struct built, a name given.
-/
import Derived.Test.YtbdpjhlfaelgpaaRegB
import Derived.Laws.Slices
namespace Go.Proofs.Ytbdpjhlfaelgpaa
open Go.RowKit

section
variable {P : Program} {ops : Array Oper} {md : Region.Mode} {w1 : World} {K : List Fact} {ix iz : Nat} {R0 R1 : (Tmp → Value) → World → World → Prop} {aF : (Tmp → Value) → Act} {i : Nat} {o : Oper}
/-- Whatever the run tells, of what it told ahead. -/
theorem goesK_any {d : Tmp} (hst : ∀ f ∈ K, f.ok) (hah : Ahead md ops ix i) (hio : ops[i]? = some o) (hx : i ≠ ix) (hz : i ≠ iz) {F : Value → World → Prop} (p : Nat) (hat : K[p]? = some ⟨i, d, F⟩) (huq : ((List.range K.length).all fun q => q == p || ((K[q]?).map fun f => f.i != i && f.d != d).getD true) = true) (hw : ∀ g, Region.wanted o (yielded ops (aF g).tmps) = true) (h0 : o.dst = some d) (hd : ∀ g, (aF g).tmps[d]? = some (g d))
    (hr : ∀ g w, Below w1.heap.size w1 w → (∀ (q : Nat) (f : Fact), K[q]? = some f → edgeB md ops i f.i = true → f.F (g f.d) w) → ∃ v w', (execOp (aF g).eval o).run P w = .ok (.value v) w' ∧ F v w' ∧ Below w.heap.size w w') :
    GoesM P md ops aF (SK md ops w1 K ix iz R0 R1) i o := fun l g w hsz hf hrd hS => by
  rw [if_pos (hw g)]
  have hfx := hah l hsz hS.shut hf
  obtain ⟨h1, h2⟩ := hS.pre hfx
  obtain ⟨v, w', hrun, hme, hb⟩ := hr g w h1 fun q f' hf' he => h2 f' (List.mem_of_getElem? hf') (by
    unfold edgeB at he
    rw [hio] at he
    obtain ⟨e, he, hb⟩ := Array.any_eq_true'.1 he
    simp only [Bool.and_eq_true, beq_iff_eq] at hb
    rw [← hb.2]
    exact hrd e he hb.1)
  exact .inl ⟨v, w', .inl hrun, upd g d v, .inr ⟨d, _, h0, rfl⟩, (fun d' h' => by rw [h0] at h'; cases h'; rw [hd, upd_at]), hS.ghost hst (hS.shut.step hio hrd) hb hx hz hfx (only_me hat huq hme) (only_ot hat huq)⟩
/-- A slice cut, as the run of the cut says. -/
theorem goesK_cut {t : TypeId} {x : Operand} {lo hi mx : Option Operand} {A A' : Option Addr} {n c n' c' : Nat} {lv hv mv : Option Value} (hio : ops[i]? = some o) (hx : i ≠ ix) (hz : i ≠ iz) (hni : (K.all fun f => f.i != i) = true) (hw : ∀ g, Region.wanted o (yielded ops (aF g).tmps) = true) {d0 : Tmp} (h0 : o.dst = some d0) (hd : ∀ g, (aF g).tmps[d0]? = some (.slice A' n' c')) (ho : o.op = .slice t x lo hi mx) (hxv : ∀ g, (aF g).eval x = .slice A n c)
    (hl : ∀ g, lo.map (aF g).eval = lv) (hh : ∀ g, hi.map (aF g).eval = hv) (hm : ∀ g, mx.map (aF g).eval = mv) (ht : P.underlying t = some (.slice (P.elem t))) (hr : ∀ w, (Instr.slice t (.slice A n c) lv hv mv).run P w = .ok (.slice A' n' c') w) :
    GoesM P md ops aF (SK md ops w1 K ix iz R0 R1) i o :=
  goesK_pure (fun _ => .slice A' n' c') hio hx hz hni hw h0 hd fun g w => by
    unfold execOp
    simp only [ho, hxv, hl, hh, hm, Sem.run_bind, run_sliceAt_slice w t _ _ _ _ ht, hr, Result.andThen_ok, Sem.run_pure]
/-- append onto a slice without room: it always makes a row of its own. -/
theorem run_app_full {t e ty : TypeId} {ti : TypeInfo} {z : Value} {bytes : Nat} (w : World) (ht : P.underlying t = some (.slice e)) (hi : P.info? e = some ti) (hz : ti.zero = some z) (hsize : ti.size = 1) (hby : ti.bytes = bytes) (hzs : z.cells.size = 1)
    {A : Option Addr} {n : Nat} {xs : List Value} (hn : xs.length = n) (hr : Rd w A xs) (hA : A = none → n = 0) {a : Addr} {m c : Nat} {news : List Value} (hl : news.length = m) (hm : 0 < m) (hr2 : Rd w (some a) news) (h1 : ∀ u ∈ news, u.oneCell' = true) (h63 : n + m ≤ maxLen) (hlim : (n + m) * bytes ≤ 140737488355328) :
    ∃ v' w', (Builtin.append_ #[t, t] ty #[.slice A n n, .slice (some a) m c]).run P w = .ok v' w' ∧ Own w' w.heap.size e 1 v' (n + m) (xs ++ news) ∧ Below w.heap.size w w' := by
  obtain ⟨b, o, hab, hb, hc⟩ := hr2 (by omega)
  obtain rfl := Option.some.inj hab
  have hnews : ∀ j u, news[j]? = some u → w.cell? ((⟨b, o, none⟩ : Addr).add j) = some u := fun j u hu => by rw [addr_add_at]; exact hc j u hu
  cases A with
  | none =>
    obtain rfl := hA rfl
    obtain ⟨v', w', r1, r2, r3, _⟩ := run_append_own (P := P) w w.heap.size t ty e ti z 1 bytes ht hi hz hsize hby hzs Nat.one_pos (.slice none 0 0) 0 xs ⟨by rw [hn, Nat.zero_mul], .inl ⟨rfl, rfl⟩⟩ ⟨b, o, none⟩ m c news (by rw [hl, Nat.mul_one]) hnews h1 h63 hlim (Nat.le_refl _)
    exact ⟨v', w', r1, Own.of r2, ⟨r3.os, r3.tape, r3.output, r3.size, fun k hk => r3.block k hk (by simp [Value.ownBlock])⟩⟩
  | some d =>
    obtain ⟨v', w', r1, r2, r3⟩ := run_append_arg_grows (P := P) w t ty e ti z 1 bytes ht hi hz hsize hby hzs Nat.one_pos d n n xs (by rw [hn, Nat.mul_one]) (fun j u hu => by
      have hj := (List.getElem?_eq_some_iff.1 hu).1
      obtain ⟨b2, o2, e2, _, hc2⟩ := hr (by omega)
      obtain rfl := Option.some.inj e2
      rw [addr_add_at]
      exact hc2 j u hu) ⟨b, o, none⟩ m c news (by rw [hl, Nat.mul_one]) hnews (by omega) h63 hlim
    exact ⟨v', w', r1, Own.of r2, ⟨r3.os, r3.tape, r3.output, r3.size, fun k hk => r3.block k hk (by simp)⟩⟩
theorem goesK_full {t te : TypeId} {s x : Operand} {ti : TypeInfo} {z : Value} {bytes n m : Nat} {A : Option Addr} {xs news : List Value} {d : Tmp} (hst : ∀ f ∈ K, f.ok) (hah : Ahead md ops ix i) (hio : ops[i]? = some o) (hx : i ≠ ix) (hz : i ≠ iz) {F : Value → World → Prop} (p : Nat) (hat : K[p]? = some ⟨i, d, F⟩) (huq : ((List.range K.length).all fun q => q == p || ((K[q]?).map fun f => f.i != i && f.d != d).getD true) = true) (hw : ∀ g, Region.wanted o (yielded ops (aF g).tmps) = true) (h0 : o.dst = some d) (hd : ∀ g, (aF g).tmps[d]? = some (g d))
    (hop : o.op = .call { callee := .builtin .append, args := #[s, x], argTypes := #[t, t] }) (ht : P.underlying t = some (.slice te)) (hti : P.info? te = some ti) (hzv : ti.zero = some z) (hsize : ti.size = 1) (hby : ti.bytes = bytes) (hzs : z.cells.size = 1)
    (he : ∀ g, (aF g).eval s = .slice A n n) (hn : xs.length = n) (hA : A = none → n = 0) (hl : news.length = m) (hm : 0 < m) (h1 : ∀ u ∈ news, u.oneCell' = true) (h63 : n + m ≤ maxLen) (hlim : (n + m) * bytes ≤ 140737488355328)
    (hr : ∀ w, Below w1.heap.size w1 w → Rd w A xs) (hxr : ∀ g w, Below w1.heap.size w1 w → (∀ (q : Nat) (f : Fact), K[q]? = some f → edgeB md ops i f.i = true → f.F (g f.d) w) → ∃ b c, (aF g).eval x = .slice (some b) m c ∧ Rd w (some b) news)
    (hF : ∀ v w w', Below w1.heap.size w1 w → Own w' w.heap.size te 1 v (n + m) (xs ++ news) → F v w') :
    GoesM P md ops aF (SK md ops w1 K ix iz R0 R1) i o :=
  goesK_any hst hah hio hx hz p hat huq hw h0 hd fun g w hb hK => by
    obtain ⟨b, c, e, hR⟩ := hxr g w hb hK
    obtain ⟨v', w', hrun, h2, h3⟩ := run_app_full (P := P) (ty := o.type) w ht hti hzv hsize hby hzs hn (hr w hb) hA (a := b) (c := c) hl hm hR h1 h63 hlim
    refine ⟨v', w', ?_, hF v' w w' hb h2, h3⟩
    unfold execOp
    simp only [hop, resolve, invoke, builtin, Sem.run_bind, Sem.run_pure, Result.andThen_ok, List.map_toArray, List.map_cons, List.map_nil, he, e, hrun]
/-- A slice cut at a place, without room behind its end. -/
theorem cutf_run {T e : TypeId} (he : P.elem T = e) (hT : P.underlying T = some (.slice e)) (hs : ∀ w, (sizeOf e).run P w = .ok 1 w) (A : Option Addr) (n c k : Nat) (hk : k ≤ n) (hn : n ≤ c) :
    ∃ A', (∀ w : World, (Instr.slice T (.slice A n c) (some (.int .i64 (k : Int))) (some (.int .i64 (n : Int))) (some (.int .i64 (n : Int)))).run P w = .ok (.slice A' (n - k) (n - k)) w) ∧ (A' = none → A = none) ∧
      ∀ (S : Nat → Prop) (w : World) (l : List Value), l.length = n → RdOff w S A l → RdOff w S A' (l.drop k) := by
  subst he
  refine ⟨if n = k then A else A.map (·.add (k * 1)), fun w => ?_, fun h => ?_, fun S w l hl hr => ?_⟩
  · rw [run_slice_lhm w T A n c hT .i64 .i64 .i64 (k : Int) (n : Int) (n : Int) (by omega) (by omega) (by omega) (by omega), hs]
    simp [Result.andThen, sliced]
  · split at h
    · exact h
    · simpa using h
  · intro hp
    rw [List.length_drop] at hp
    obtain ⟨b, o, rfl, hb, hn, hc⟩ := hr (by omega)
    rw [if_neg (by omega)]
    refine ⟨b, o + k, ?_, hb, hn, fun i u hu => ?_⟩
    · rw [Option.map_some, addr_add_at, Nat.mul_one]
    · rw [Nat.add_assoc]
      apply hc
      simp only [List.getElem?_drop] at hu
      exact hu
/-- A name given to what the run told ahead. -/
theorem goesK_name {d d' : Tmp} {i' p' : Nat} (hst : ∀ f ∈ K, f.ok) (hah : Ahead md ops ix i) (hio : ops[i]? = some o) (hx : i ≠ ix) (hz : i ≠ iz) {F : Value → World → Prop} (p : Nat) (hat : K[p]? = some ⟨i, d, F⟩) (hat' : K[p']? = some ⟨i', d', F⟩) (hed : edgeB md ops i i' = true) (huq : ((List.range K.length).all fun q => q == p || ((K[q]?).map fun f => f.i != i && f.d != d).getD true) = true) (hw : ∀ g, Region.wanted o (yielded ops (aF g).tmps) = true) (h0 : o.dst = some d) (hd : ∀ g, (aF g).tmps[d]? = some (g d))
    (hr : ∀ g w, (execOp (aF g).eval o).run P w = .ok (.value (g d')) w) :
    GoesM P md ops aF (SK md ops w1 K ix iz R0 R1) i o :=
  goesK_any hst hah hio hx hz p hat huq hw h0 hd fun g w _ hK => ⟨g d', w, hr g w, hK p' _ hat' hed, Below.refl _ _⟩
/-- A struct of two fields built, the second as the run told it. -/
theorem goesK_build2 {t : TypeId} {x y : Operand} {xv : Value} {d d' : Tmp} {i' p' : Nat} {F' : Value → World → Prop} (hst : ∀ f ∈ K, f.ok) (hah : Ahead md ops ix i) (hio : ops[i]? = some o) (hx : i ≠ ix) (hz : i ≠ iz) {F : Value → World → Prop} (p : Nat) (hat : K[p]? = some ⟨i, d, F⟩) (hat' : K[p']? = some ⟨i', d', F'⟩) (hed : edgeB md ops i i' = true) (huq : ((List.range K.length).all fun q => q == p || ((K[q]?).map fun f => f.i != i && f.d != d).getD true) = true) (hw : ∀ g, Region.wanted o (yielded ops (aF g).tmps) = true) (h0 : o.dst = some d) (hd : ∀ g, (aF g).tmps[d]? = some (g d))
    (hop : o.op = .build t #[(0, x), (1, y)]) (hxv : ∀ g, (aF g).eval x = xv) (hyv : ∀ g, (aF g).eval y = g d') (hr : ∀ v w, F' v w → (Instr.build t #[(0, xv), (1, v)]).run P w = .ok (.agg #[xv, v]) w ∧ F (.agg #[xv, v]) w) :
    GoesM P md ops aF (SK md ops w1 K ix iz R0 R1) i o :=
  goesK_any hst hah hio hx hz p hat huq hw h0 hd fun g w _ hK => by
    obtain ⟨h1, h2⟩ := hr (g d') w (hK p' _ hat' hed)
    refine ⟨_, w, ?_, h2, Below.refl _ _⟩
    unfold execOp
    simp only [hop, List.map_toArray, List.map_cons, List.map_nil, hxv, hyv, Sem.run_bind, h1, Result.andThen_ok, Sem.run_pure]
end
end Go.Proofs.Ytbdpjhlfaelgpaa
