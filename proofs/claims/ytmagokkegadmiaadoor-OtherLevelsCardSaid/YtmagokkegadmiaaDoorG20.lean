/-
  Layer 9, the landed keys: its table of rows in memory. Regions that draw their order (RegK's state), whose operations make what the run alone tells out of what it told ahead: an append onto a slice without room, a struct built, a name given. Layer 3, walked: two lists of numbers compared, by the document and by the library; lists of lists.
-/
import Derived.Test.YtmagokkegadmiaaDoorG02
import Derived.Test.YtmagokkegadmiaaDoorG07
import Derived.Test.YtmagokkegadmiaaDoorG13
import Derived.Test.YtmagokkegadmiaaDoorG14
import Derived.Test.YtmagokkegadmiaaDoorG18
import Derived.Test.YtmagokkegadmiaaDoorG19
import Derived.Laws.Slices
namespace Go.Proofs.YtmagokkegadmiaaDoor
open Go.RowKit

/-- A row as seven cells. -/
def roC (r : Ro) (A : Option Addr) (c : Nat) : List Value := [.int .i64 r.first, .int .i64 r.last, .int .i64 r.kind, .string ⟨r.finals.toArray⟩, .slice A r.nums.length c, .string ⟨r.chars.toArray⟩, .bool r.keys]
/-- A slice of rows, below a block. -/
def RdRo (n₁ : Nat) (w : World) (b o : Nat) (rs : List Ro) : Prop :=
  ∀ k (hk : k < rs.length), ∃ A' c', RdIn n₁ w A' (is_ rs[k].nums) ∧ ∀ i u, (roC rs[k] A' c')[i]? = some u → w.cell? ⟨b, o + k * 7 + i, none⟩ = some u
/-- The package's table, below a block. -/
def RwsIn (n₁ : Nat) (w : World) : Prop :=
  ∃ b o c t fz, w.heap[0]? = some (.cells #[.slice (some ⟨b, o, none⟩) 22 c] t fz) ∧ 0 < n₁ ∧ b < n₁ ∧ RdRo n₁ w b o roL
def Rws (w : World) : Prop := RwsIn w.heap.size w
section
variable {n₁ n₂ : Nat} {w w' : World} {b o : Nat} {rs : List Ro}
theorem RdRo.below (h : RdRo n₁ w b o rs) (hb : Below n₁ w w') (hl : b < n₁) : RdRo n₁ w' b o rs := fun k hk => by
  obtain ⟨A', c', h1, h2⟩ := h k hk
  exact ⟨A', c', h1.below hb, fun i u hu => (hb.cell (p := ⟨b, o + k * 7 + i, none⟩) hl).trans (h2 i u hu)⟩
theorem RdRo.kpx {X : Nat → Prop} (h : RdRo n₁ w b o rs) (hk : KpX X w w') (hX : ∀ k, X k → n₁ ≤ k) (hl : b < n₁) : RdRo n₁ w' b o rs := fun k hk2 => by
  obtain ⟨A', c', h1, h2⟩ := h k hk2
  refine ⟨A', c', h1.kpx hk hX, fun i u hu => (World.cell?_of_block (w := w) (a := ⟨b, o + k * 7 + i, none⟩) ?_).trans (h2 i u hu)⟩
  obtain ⟨ob, e1, e2⟩ := cells_is (h2 i u hu)
  exact (hk.2 b ob e1 e2 (fun hx => by have := hX b hx; omega)).trans e1.symm
theorem RwsIn.below (h : RwsIn n₁ w) (hb : Below n₁ w w') : RwsIn n₁ w' := by
  obtain ⟨b, o, c, t, fz, h1, h2, h3, h4⟩ := h
  exact ⟨b, o, c, t, fz, (hb.block _ h2).trans h1, h2, h3, h4.below hb h3⟩
theorem RwsIn.kpx {X : Nat → Prop} (h : RwsIn n₁ w) (hk : KpX X w w') (hX : ∀ k, X k → n₁ ≤ k) : RwsIn n₁ w' := by
  obtain ⟨b, o, c, t, fz, h1, h2, h3, h4⟩ := h
  exact ⟨b, o, c, t, fz, hk.2 _ _ h1 rfl (fun hx => by have := hX _ hx; omega), h2, h3, h4.kpx hk hX h3⟩
theorem RdIn.mono {A : Option Addr} {xs : List Value} (h : RdIn n₁ w A xs) (hn : n₁ ≤ n₂) : RdIn n₂ w A xs := fun hp => by
  obtain ⟨b, o, rfl, hb, hc⟩ := h hp
  exact ⟨b, o, rfl, by omega, hc⟩
theorem RwsIn.mono (h : RwsIn n₁ w) (hn : n₁ ≤ n₂) : RwsIn n₂ w := by
  obtain ⟨b, o, c, t, fz, h1, h2, h3, h4⟩ := h
  refine ⟨b, o, c, t, fz, h1, by omega, by omega, fun k hk => ?_⟩
  obtain ⟨A', c', e1, e2⟩ := h4 k hk
  exact ⟨A', c', e1.mono hn, e2⟩
theorem Rws.below (h : Rws w) (hb : Below w.heap.size w w') : Rws w' := (RwsIn.below h hb).mono hb.size
/-- A row that a round reads. -/
theorem RdRo.at_ (h : RdRo n₁ w b o rs) {k : Nat} (hk : k < rs.length) {r : Ro} (hr : rs[k] = r) : ∃ A' c', RdIn n₁ w A' (is_ r.nums) ∧
    w.cell? ⟨b, o + k * 7, none⟩ = some (.int .i64 r.first) ∧ w.cell? ⟨b, o + k * 7 + 1, none⟩ = some (.int .i64 r.last) ∧ w.cell? ⟨b, o + k * 7 + 2, none⟩ = some (.int .i64 r.kind) ∧ w.cell? ⟨b, o + k * 7 + 3, none⟩ = some (.string ⟨r.finals.toArray⟩) ∧ w.cell? ⟨b, o + k * 7 + 4, none⟩ = some (.slice A' r.nums.length c') ∧ w.cell? ⟨b, o + k * 7 + 5, none⟩ = some (.string ⟨r.chars.toArray⟩) ∧ w.cell? ⟨b, o + k * 7 + 6, none⟩ = some (.bool r.keys) := by
  obtain ⟨A', c', h1, h2⟩ := h k hk
  subst hr
  exact ⟨A', c', h1, h2 0 _ rfl, h2 1 _ rfl, h2 2 _ rfl, h2 3 _ rfl, h2 4 _ rfl, h2 5 _ rfl, h2 6 _ rfl⟩
end
def sbK (s : ByteArray) (a : Nat) : Int := if h : a < s.size then ((s[a]'h).toNat : Int) else 0
theorem sbK_eq (l : List UInt8) (a : Nat) : sbK ⟨l.toArray⟩ a = byL l a := by
  unfold sbK byL
  by_cases h : a < l.length
  · rw [dif_pos (show a < (⟨l.toArray⟩ : ByteArray).size from h)]
    rw [List.getD_eq_getElem?_getD, List.getElem?_eq_getElem h]
    rfl
  · rw [dif_neg (show ¬ a < (⟨l.toArray⟩ : ByteArray).size from h)]
    rw [List.getD_eq_getElem?_getD, List.getElem?_eq_none (by omega)]
    rfl
theorem sbK_yes {s : ByteArray} {a : Nat} (h : a < s.size) : sbK s a = ((s[a]'h).toNat : Int) := by unfold sbK; rw [dif_pos h]
theorem sbK_no {s : ByteArray} {a : Nat} (h : ¬ a < s.size) : sbK s a = 0 := by unfold sbK; rw [dif_neg h]
theorem getD_yes {l : List Int} {a : Nat} (h : a < l.length) : l.getD a 0 = l[a] := by rw [List.getD_eq_getElem?_getD, List.getElem?_eq_getElem h]; rfl
theorem getD_no {l : List Int} {a : Nat} (h : ¬ a < l.length) : l.getD a 0 = 0 := by rw [List.getD_eq_getElem?_getD, List.getElem?_eq_none (by omega)]; rfl
end Go.Proofs.YtmagokkegadmiaaDoor
namespace Go.Proofs.YtmagokkegadmiaaDoor
open Go.RowKit

section
variable {P : Program} {ops : Array Oper} {md : Region.Mode} {w1 : World} {K : List Fact} {ix iz : Nat} {R0 R1 : (Tmp → Value) → World → World → Prop} {aF : (Tmp → Value) → Act} {i : Nat} {o : Oper}
/-- Whatever the run tells, of what it told ahead. -/
theorem goesK_any {d : Tmp} (hst : ∀ f ∈ K, f.ok) (hah : Ahead md ops ix i) (hio : ops[i]? = some o) (hx : i ≠ ix) (hz : i ≠ iz) {F : Value → World → Prop} (p : Nat) (hat : K[p]? = some ⟨i, d, F⟩) (huq : ((List.range K.length).all fun q => q == p || ((K[q]?).map fun f => f.i != i && f.d != d).getD true) = true) (hw : ∀ g, Region.wanted o (yielded ops (aF g).tmps) = true) (h0 : o.dst = some d) (hd : ∀ g, (aF g).tmps[d]? = some (g d))
    (hr : ∀ g w, Below w1.heap.size w1 w → (∀ (q : Nat) (f : Fact), K[q]? = some f → edgeB md ops i f.i = true → f.F (g f.d) w) → ∃ v w', (execOp (aF g).eval o).run P w = .ok (.value v) w' ∧ F v w' ∧ Below w.heap.size w w') :
    GoesM P md ops aF (SK md ops w1 K ix iz R0 R1) i o := fun l g w hsz hf hrd hS => by
  rw [if_pos (hw g)]
  have hfx := hah l hsz hS.shut hf
  obtain ⟨h1, h2⟩ := hS.pre hfx
  obtain ⟨v, w', hrun, hme, hb⟩ := hr g w h1 fun q f' hf' he => h2 f' (List.mem_of_getElem? hf') (by
    unfold edgeB at he
    rw [hio] at he
    obtain ⟨e, he, hb⟩ := Array.any_eq_true'.1 he
    simp only [Bool.and_eq_true, beq_iff_eq] at hb
    rw [← hb.2]
    exact hrd e he hb.1)
  exact .inl ⟨v, w', .inl hrun, upd g d v, .inr ⟨d, _, h0, rfl⟩, (fun d' h' => by rw [h0] at h'; cases h'; rw [hd, upd_at]), hS.ghost hst (hS.shut.step hio hrd) hb hx hz hfx (only_me hat huq hme) (only_ot hat huq)⟩
/-- A slice cut, as the run of the cut says. -/
theorem goesK_cut {t : TypeId} {x : Operand} {lo hi mx : Option Operand} {A A' : Option Addr} {n c n' c' : Nat} {lv hv mv : Option Value} (hio : ops[i]? = some o) (hx : i ≠ ix) (hz : i ≠ iz) (hni : (K.all fun f => f.i != i) = true) (hw : ∀ g, Region.wanted o (yielded ops (aF g).tmps) = true) {d0 : Tmp} (h0 : o.dst = some d0) (hd : ∀ g, (aF g).tmps[d0]? = some (.slice A' n' c')) (ho : o.op = .slice t x lo hi mx) (hxv : ∀ g, (aF g).eval x = .slice A n c)
    (hl : ∀ g, lo.map (aF g).eval = lv) (hh : ∀ g, hi.map (aF g).eval = hv) (hm : ∀ g, mx.map (aF g).eval = mv) (ht : P.underlying t = some (.slice (P.elem t))) (hr : ∀ w, (Instr.slice t (.slice A n c) lv hv mv).run P w = .ok (.slice A' n' c') w) :
    GoesM P md ops aF (SK md ops w1 K ix iz R0 R1) i o :=
  goesK_pure (fun _ => .slice A' n' c') hio hx hz hni hw h0 hd fun g w => by
    unfold execOp
    simp only [ho, hxv, hl, hh, hm, Sem.run_bind, run_sliceAt_slice w t _ _ _ _ ht, hr, Result.andThen_ok, Sem.run_pure]
/-- append onto a slice without room: it always makes a row of its own. -/
theorem run_app_full {t e ty : TypeId} {ti : TypeInfo} {z : Value} {bytes : Nat} (w : World) (ht : P.underlying t = some (.slice e)) (hi : P.info? e = some ti) (hz : ti.zero = some z) (hsize : ti.size = 1) (hby : ti.bytes = bytes) (hzs : z.cells.size = 1)
    {A : Option Addr} {n : Nat} {xs : List Value} (hn : xs.length = n) (hr : Rd w A xs) (hA : A = none → n = 0) {a : Addr} {m c : Nat} {news : List Value} (hl : news.length = m) (hm : 0 < m) (hr2 : Rd w (some a) news) (h1 : ∀ u ∈ news, u.oneCell' = true) (h63 : n + m ≤ maxLen) (hlim : (n + m) * bytes ≤ 140737488355328) :
    ∃ v' w', (Builtin.append_ #[t, t] ty #[.slice A n n, .slice (some a) m c]).run P w = .ok v' w' ∧ Own w' w.heap.size e 1 v' (n + m) (xs ++ news) ∧ Below w.heap.size w w' := by
  obtain ⟨b, o, hab, hb, hc⟩ := hr2 (by omega)
  obtain rfl := Option.some.inj hab
  have hnews : ∀ j u, news[j]? = some u → w.cell? ((⟨b, o, none⟩ : Addr).add j) = some u := fun j u hu => by rw [addr_add_at]; exact hc j u hu
  cases A with
  | none =>
    obtain rfl := hA rfl
    obtain ⟨v', w', r1, r2, r3, _⟩ := run_append_own (P := P) w w.heap.size t ty e ti z 1 bytes ht hi hz hsize hby hzs Nat.one_pos (.slice none 0 0) 0 xs ⟨by rw [hn, Nat.zero_mul], .inl ⟨rfl, rfl⟩⟩ ⟨b, o, none⟩ m c news (by rw [hl, Nat.mul_one]) hnews h1 h63 hlim (Nat.le_refl _)
    exact ⟨v', w', r1, Own.of r2, ⟨r3.os, r3.tape, r3.output, r3.size, fun k hk => r3.block k hk (by simp [Value.ownBlock])⟩⟩
  | some d =>
    obtain ⟨v', w', r1, r2, r3⟩ := run_append_arg_grows (P := P) w t ty e ti z 1 bytes ht hi hz hsize hby hzs Nat.one_pos d n n xs (by rw [hn, Nat.mul_one]) (fun j u hu => by
      have hj := (List.getElem?_eq_some_iff.1 hu).1
      obtain ⟨b2, o2, e2, _, hc2⟩ := hr (by omega)
      obtain rfl := Option.some.inj e2
      rw [addr_add_at]
      exact hc2 j u hu) ⟨b, o, none⟩ m c news (by rw [hl, Nat.mul_one]) hnews (by omega) h63 hlim
    exact ⟨v', w', r1, Own.of r2, ⟨r3.os, r3.tape, r3.output, r3.size, fun k hk => r3.block k hk (by simp)⟩⟩
theorem goesK_full {t te : TypeId} {s x : Operand} {ti : TypeInfo} {z : Value} {bytes n m : Nat} {A : Option Addr} {xs news : List Value} {d : Tmp} (hst : ∀ f ∈ K, f.ok) (hah : Ahead md ops ix i) (hio : ops[i]? = some o) (hx : i ≠ ix) (hz : i ≠ iz) {F : Value → World → Prop} (p : Nat) (hat : K[p]? = some ⟨i, d, F⟩) (huq : ((List.range K.length).all fun q => q == p || ((K[q]?).map fun f => f.i != i && f.d != d).getD true) = true) (hw : ∀ g, Region.wanted o (yielded ops (aF g).tmps) = true) (h0 : o.dst = some d) (hd : ∀ g, (aF g).tmps[d]? = some (g d))
    (hop : o.op = .call { callee := .builtin .append, args := #[s, x], argTypes := #[t, t] }) (ht : P.underlying t = some (.slice te)) (hti : P.info? te = some ti) (hzv : ti.zero = some z) (hsize : ti.size = 1) (hby : ti.bytes = bytes) (hzs : z.cells.size = 1)
    (he : ∀ g, (aF g).eval s = .slice A n n) (hn : xs.length = n) (hA : A = none → n = 0) (hl : news.length = m) (hm : 0 < m) (h1 : ∀ u ∈ news, u.oneCell' = true) (h63 : n + m ≤ maxLen) (hlim : (n + m) * bytes ≤ 140737488355328)
    (hr : ∀ w, Below w1.heap.size w1 w → Rd w A xs) (hxr : ∀ g w, Below w1.heap.size w1 w → (∀ (q : Nat) (f : Fact), K[q]? = some f → edgeB md ops i f.i = true → f.F (g f.d) w) → ∃ b c, (aF g).eval x = .slice (some b) m c ∧ Rd w (some b) news)
    (hF : ∀ v w w', Below w1.heap.size w1 w → Own w' w.heap.size te 1 v (n + m) (xs ++ news) → F v w') :
    GoesM P md ops aF (SK md ops w1 K ix iz R0 R1) i o :=
  goesK_any hst hah hio hx hz p hat huq hw h0 hd fun g w hb hK => by
    obtain ⟨b, c, e, hR⟩ := hxr g w hb hK
    obtain ⟨v', w', hrun, h2, h3⟩ := run_app_full (P := P) (ty := o.type) w ht hti hzv hsize hby hzs hn (hr w hb) hA (a := b) (c := c) hl hm hR h1 h63 hlim
    refine ⟨v', w', ?_, hF v' w w' hb h2, h3⟩
    unfold execOp
    simp only [hop, resolve, invoke, builtin, Sem.run_bind, Sem.run_pure, Result.andThen_ok, List.map_toArray, List.map_cons, List.map_nil, he, e, hrun]
/-- A slice cut at a place, without room behind its end. -/
theorem cutf_run {T e : TypeId} (he : P.elem T = e) (hT : P.underlying T = some (.slice e)) (hs : ∀ w, (sizeOf e).run P w = .ok 1 w) (A : Option Addr) (n c k : Nat) (hk : k ≤ n) (hn : n ≤ c) :
    ∃ A', (∀ w : World, (Instr.slice T (.slice A n c) (some (.int .i64 (k : Int))) (some (.int .i64 (n : Int))) (some (.int .i64 (n : Int)))).run P w = .ok (.slice A' (n - k) (n - k)) w) ∧ (A' = none → A = none) ∧
      ∀ (S : Nat → Prop) (w : World) (l : List Value), l.length = n → RdOff w S A l → RdOff w S A' (l.drop k) := by
  subst he
  refine ⟨if n = k then A else A.map (·.add (k * 1)), fun w => ?_, fun h => ?_, fun S w l hl hr => ?_⟩
  · rw [run_slice_lhm w T A n c hT .i64 .i64 .i64 (k : Int) (n : Int) (n : Int) (by omega) (by omega) (by omega) (by omega), hs]
    simp [Result.andThen, sliced]
  · split at h
    · exact h
    · simpa using h
  · intro hp
    rw [List.length_drop] at hp
    obtain ⟨b, o, rfl, hb, hn, hc⟩ := hr (by omega)
    rw [if_neg (by omega)]
    refine ⟨b, o + k, ?_, hb, hn, fun i u hu => ?_⟩
    · rw [Option.map_some, addr_add_at, Nat.mul_one]
    · rw [Nat.add_assoc]
      apply hc
      simp only [List.getElem?_drop] at hu
      exact hu
/-- A name given to what the run told ahead. -/
theorem goesK_name {d d' : Tmp} {i' p' : Nat} (hst : ∀ f ∈ K, f.ok) (hah : Ahead md ops ix i) (hio : ops[i]? = some o) (hx : i ≠ ix) (hz : i ≠ iz) {F : Value → World → Prop} (p : Nat) (hat : K[p]? = some ⟨i, d, F⟩) (hat' : K[p']? = some ⟨i', d', F⟩) (hed : edgeB md ops i i' = true) (huq : ((List.range K.length).all fun q => q == p || ((K[q]?).map fun f => f.i != i && f.d != d).getD true) = true) (hw : ∀ g, Region.wanted o (yielded ops (aF g).tmps) = true) (h0 : o.dst = some d) (hd : ∀ g, (aF g).tmps[d]? = some (g d))
    (hr : ∀ g w, (execOp (aF g).eval o).run P w = .ok (.value (g d')) w) :
    GoesM P md ops aF (SK md ops w1 K ix iz R0 R1) i o :=
  goesK_any hst hah hio hx hz p hat huq hw h0 hd fun g w _ hK => ⟨g d', w, hr g w, hK p' _ hat' hed, Below.refl _ _⟩
/-- A struct of two fields built, the second as the run told it. -/
theorem goesK_build2 {t : TypeId} {x y : Operand} {xv : Value} {d d' : Tmp} {i' p' : Nat} {F' : Value → World → Prop} (hst : ∀ f ∈ K, f.ok) (hah : Ahead md ops ix i) (hio : ops[i]? = some o) (hx : i ≠ ix) (hz : i ≠ iz) {F : Value → World → Prop} (p : Nat) (hat : K[p]? = some ⟨i, d, F⟩) (hat' : K[p']? = some ⟨i', d', F'⟩) (hed : edgeB md ops i i' = true) (huq : ((List.range K.length).all fun q => q == p || ((K[q]?).map fun f => f.i != i && f.d != d).getD true) = true) (hw : ∀ g, Region.wanted o (yielded ops (aF g).tmps) = true) (h0 : o.dst = some d) (hd : ∀ g, (aF g).tmps[d]? = some (g d))
    (hop : o.op = .build t #[(0, x), (1, y)]) (hxv : ∀ g, (aF g).eval x = xv) (hyv : ∀ g, (aF g).eval y = g d') (hr : ∀ v w, F' v w → (Instr.build t #[(0, xv), (1, v)]).run P w = .ok (.agg #[xv, v]) w ∧ F (.agg #[xv, v]) w) :
    GoesM P md ops aF (SK md ops w1 K ix iz R0 R1) i o :=
  goesK_any hst hah hio hx hz p hat huq hw h0 hd fun g w _ hK => by
    obtain ⟨h1, h2⟩ := hr (g d') w (hK p' _ hat' hed)
    refine ⟨_, w, ?_, h2, Below.refl _ _⟩
    unfold execOp
    simp only [hop, List.map_toArray, List.map_cons, List.map_nil, hxv, hyv, Sem.run_bind, h1, Result.andThen_ok, Sem.run_pure]
end
end Go.Proofs.YtmagokkegadmiaaDoor
namespace Go.Proofs.YtmagokkegadmiaaDoor
open Go.RowKit

set_option maxRecDepth 100000 in
set_option maxHeartbeats 4000000 in
theorem eqf_any (A B : Option Addr) (n m c d : Nat) (ps qs : List (List Int)) (q : Bool) (w : World) (hn : ps.length = n) (hm : qs.length = m) (hq : decide (ps = qs) = q) (hl : n ≤ 4294967296) (hl2 : m ≤ 4294967296) (hp : ∀ p ∈ ps, p.length ≤ 4294967296) (hq2 : ∀ p ∈ qs, p.length ≤ 4294967296) (hra : RdP w A ps) (hrb : RdP w B qs) :
    Calls Tryd.prog 30 #[.slice A n c, .slice B m d, .func (.func 31) #[] #[]] w fun e w' => e = .returned (.bool q) ∧ Below w.heap.size w w' := by
  have HN := Lib.hid hn
  have HM := Lib.hid hm
  have HQ := Lib.hid hq
  have HP := Lib.hid hp
  have HP2 := Lib.hid hq2
  clear hp hq2
  by_cases hlen : n = m
  · subst hlen
    clear hn hm hq
    go_enter Tryd.func30, Tryd.ntmps30
    go_wp2_with fail
    go_loopw [17] (fun i wr => ∃ k : Nat, k ≤ n ∧ i = .int .i64 k ∧ ps.take k = qs.take k ∧ Below w.heap.size w wr) (fun i _ => n - (intOf i).toNat)
    case atStart => exact ⟨0, Nat.zero_le _, rfl, rfl, Below.refl _ _⟩
    case round =>
      obtain ⟨k, hk, rfl, hab, hbw⟩ := hrel
      have HAB := Lib.hid hab
      clear hab
      by_cases hlt : k < n
      · have hka : k < ps.length := by rw [HN.out]; exact hlt
        have hkb : k < qs.length := by rw [HM.out]; exact hlt
        obtain ⟨p, o, hA, hpb, hc⟩ := (hra.below hbw) (by omega)
        obtain ⟨p2, o2, hA2, hpb2, hc2⟩ := (hrb.below hbw) (by omega)
        cases hA
        cases hA2
        obtain ⟨A1, c1, hck, hr1⟩ := hc k hka
        obtain ⟨A2, c2, hdk, hr2⟩ := hc2 k hkb
        have h1l := HP.out _ (List.getElem_mem hka)
        have h2l := HP2.out _ (List.getElem_mem hkb)
        obtain ⟨x, hx⟩ : ∃ x, ps[k]'hka = x := ⟨_, rfl⟩
        obtain ⟨y, hy⟩ : ∃ y, qs[k]'hkb = y := ⟨_, rfl⟩
        rw [hx] at hck hr1 h1l
        rw [hy] at hdk hr2 h2l
        have HX := Lib.hid hx
        have HY := Lib.hid hy
        clear hx hy hc hc2
        obtain ⟨nx, hnx⟩ : ∃ nx, x.length = nx := ⟨_, rfl⟩
        obtain ⟨ny, hny⟩ : ∃ ny, y.length = ny := ⟨_, rfl⟩
        rw [hnx] at hck h1l
        rw [hny] at hdk h2l
        have HNX := Lib.hid hnx
        have HNY := Lib.hid hny
        clear hnx hny
        cases he : decide (x = y) with
        | true =>
          have HE := Lib.hid he
          have H := Lib.hid (show ps.take (k + 1) = qs.take (k + 1) by rw [List.take_succ_eq_append_getElem hka, List.take_succ_eq_append_getElem hkb, HAB.out, HX.out, HY.out, of_decide_eq_true he])
          clear he
          go_wp2_with fail
          refine (eq_at A1 A2 nx ny c1 c2 x y true _ HNX.out HNY.out HE.out h1l h2l hr1 hr2).mono ?_
          rintro e w2 ⟨rfl, hb2⟩
          go_wp2_with fail
          go_roundw
          case rel => exact ⟨k + 1, by omega, by go_num, H.out, hbw.trans (hb2.mono hbw.size)⟩
          case measure => simp [intOf]; omega
        | false =>
          have HE := Lib.hid he
          have E := Lib.hid (show false = q by
            rw [← HQ.out]
            refine (decide_eq_false (fun e => of_decide_eq_false he ?_)).symm
            subst e
            exact HX.out.symm.trans HY.out)
          clear he
          go_wp2_with fail
          refine (eq_at A1 A2 nx ny c1 c2 x y false _ HNX.out HNY.out HE.out h1l h2l hr1 hr2).mono ?_
          rintro e w2 ⟨rfl, hb2⟩
          go_wp2_with fail
          go_ret
          exact ⟨ret_b E.out, hbw.trans (hb2.mono hbw.size)⟩
      · have E := Lib.hid (show true = q by
          rw [← HQ.out]
          refine (decide_eq_true ?_).symm
          have h1 := HAB.out
          rw [List.take_of_length_le (by rw [HN.out]; omega), List.take_of_length_le (by rw [HM.out]; omega)] at h1
          exact h1)
        go_wp2_with fail
        go_ret
        exact ⟨ret_b E.out, hbw⟩
  · have E := Lib.hid (show false = q by
      rw [← hq]
      refine (decide_eq_false (fun e => hlen ?_)).symm
      rw [← hn, ← hm, e])
    have t1 : ((n : Int) == (m : Int)) = false := beq_false_of_ne (by omega)
    have t2 : ((n : Int) != (m : Int)) = true := by simp [bne, t1]
    clear hlen hn hm hq
    go_enter Tryd.func30, Tryd.ntmps30
    go_wp2_with fail
    go_ret
    exact ⟨ret_b E.out, Below.refl _ _⟩
end Go.Proofs.YtmagokkegadmiaaDoor
