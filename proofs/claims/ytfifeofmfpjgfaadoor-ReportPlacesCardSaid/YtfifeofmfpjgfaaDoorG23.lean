/-
  Layer 19's words: a screen in memory; a fact; replies with their rows. Stage 18: what calls tell, as a drawn region's facts; awake.
  Cut out of StyX. Regions that draw their order (RegK's state), whose operations make what the run alone tells out of what it told ahead: an append onto a slice without room, a struct built, a name given. Sequences in memory: one that is known, a slice of them; what stays readable while other blocks turn.
-/
import Derived.Test.YtfifeofmfpjgfaaDoorG03
import Derived.Test.YtfifeofmfpjgfaaDoorG07
import Derived.Test.YtfifeofmfpjgfaaDoorG08
import Derived.Test.YtfifeofmfpjgfaaDoorG11
import Derived.Test.YtfifeofmfpjgfaaDoorG12
import Derived.Test.YtfifeofmfpjgfaaDoorG18
import Derived.Test.YtfifeofmfpjgfaaDoorG19
import Derived.Test.YtfifeofmfpjgfaaDoorG22
import Derived.Laws.Slices
namespace Go.Proofs.YtfifeofmfpjgfaaDoor
open Go.RowKit
def scV (s : Sc) : Value := .agg #[.int .i64 s.rows, .int .i64 s.cols, .int .i64 s.row, .int .i64 s.col, .int .i64 s.top, .int .i64 s.bottom, .int .i64 s.left, .int .i64 s.right, .int .i64 s.shape, .bool s.style.bold, .bool s.style.faint, .bool s.style.italic, .bool s.style.blink, .bool s.style.inverse, .bool s.style.hidden, .bool s.style.strike, .int .i64 s.style.under, .int .i64 s.style.fore, .int .i64 s.style.back]
def scC (s : Sc) : Array Value := #[.int .i64 s.rows, .int .i64 s.cols, .int .i64 s.row, .int .i64 s.col, .int .i64 s.top, .int .i64 s.bottom, .int .i64 s.left, .int .i64 s.right, .int .i64 s.shape, .bool s.style.bold, .bool s.style.faint, .bool s.style.italic, .bool s.style.blink, .bool s.style.inverse, .bool s.style.hidden, .bool s.style.strike, .int .i64 s.style.under, .int .i64 s.style.fore, .int .i64 s.style.back]
def RepE (s : Sq) (w : World) (e : Ending) (w' : World) : Prop := ∃ A c, e = .returned (sqV s A c) ∧ RdP w' A s.params ∧ Below w.heap.size w w'
theorem max_run (n N : Int) (h : max n 0 = N) {P : Program} : ∀ (ts : Array TypeId) (t : TypeId) (W : World), (Builtin.max_ ts t #[.int .i64 n, .int .i64 0]).run P W = .ok (.int .i64 N) W := fun ts t W => by
 rw [run_max_int2]
 congr 2
 split <;> omega
theorem min_run (n N : Int) (h : min n 65535 = N) {P : Program} : ∀ (ts : Array TypeId) (t : TypeId) (W : World), (Builtin.min_ ts t #[.int .i64 n, .int .i64 65535]).run P W = .ok (.int .i64 N) W := fun ts t W => by
 rw [run_min_int2]
 congr 2
 split <;> omega
def FLs (ps : List (List Int)) (v : Value) (w : World) : Prop := ∃ A c, v = .slice A ps.length c ∧ LsIn w A ps
theorem par_in {s : Sy} : ∀ p ∈ parY s, ∀ m ∈ p, in18 m := fun p hp m hm => by
 by_cases h : mayY s = true
 ·obtain ⟨_, h2⟩ := pok_of (spar_ok h).1
  have := (h2 p hp).2 m hm
  exact ⟨by omega, by omega⟩
 ·rw [show parY s = [] from if_neg h] at hp
  cases hp
theorem par_lens (s : Sy) : (parY s).length ≤ 16 ∧ (∀ p ∈ parY s, p.length ≤ 4294967296 ∧ (partL p).length ≤ 140737488355328) ∧ (parL (parY s)).length ≤ 140737488355328 := by
 by_cases h : mayY s = true
 ·obtain ⟨h1, h2⟩ := pok_of (spar_ok h).1
  refine ⟨h1, fun p hp => ?_, ?_⟩
  ·obtain ⟨⟨h3, h4⟩, h5⟩ := h2 p hp
   have := rpart_len p h5
   exact ⟨by omega, by omega⟩
  ·have := parl_len (parY s) h2
   omega
 ·rw [show parY s = [] from if_neg h]
  exact ⟨by simp, fun p hp => (by cases hp), by decide⟩
theorem sParams_f (s : Sy) (hin : okSy s) (w : World) : Calls Tryd.prog 54 #[syV s] w fun e w' => ∃ v, e = .returned v ∧ FLs (parY s) v w' ∧ Below w.heap.size w w' := by
 refine (sParams_any s hin w).mono ?_
 rintro e w' ⟨v, n, rfl, h, hb⟩
 have hl := h.len
 obtain ⟨A, c, rfl, _, hls⟩ := h.ls par_in
 exact ⟨_, rfl, ⟨A, c, by rw [hl], hls⟩, hb⟩
theorem sText_par (s : Sy) (A : Option Addr) (c : Nat) (w : World) (ht : Tab w) (hl : LsIn w A (parY s)) : Calls Tryd.prog 53 #[.slice A (parY s).length c] w fun e w' => e = .returned (.string ⟨(parL (parY s)).toArray⟩) ∧ Below w.heap.size w w' := by
 obtain ⟨h1, h2, h3⟩ := par_lens s
 exact sText_any A (parY s) _ c rfl (by omega) h2 h3 w ht hl
section
section
variable {P : Program} {ops : Array Oper} {md : Region.Mode} {w1 : World} {K : List Fact} {ix iz : Nat} {R0 R1 : (Tmp → Value) → World → World → Prop} {aF : (Tmp → Value) → Act} {i : Nat} {o : Oper}
theorem goesK_any {d : Tmp} (hst : ∀ f ∈ K, f.ok) (hah : Ahead md ops ix i) (hio : ops[i]? = some o) (hx : i ≠ ix) (hz : i ≠ iz) {F : Value → World → Prop} (p : Nat) (hat : K[p]? = some ⟨i, d, F⟩) (huq : ((List.range K.length).all fun q => q == p || ((K[q]?).map fun f => f.i != i && f.d != d).getD true) = true) (hw : ∀ g, Region.wanted o (yielded ops (aF g).tmps) = true) (h0 : o.dst = some d) (hd : ∀ g, (aF g).tmps[d]? = some (g d))
 (hr : ∀ g w, Below w1.heap.size w1 w → (∀ (q : Nat) (f : Fact), K[q]? = some f → edgeB md ops i f.i = true → f.F (g f.d) w) → ∃ v w', (execOp (aF g).eval o).run P w = .ok (.value v) w' ∧ F v w' ∧ Below w.heap.size w w') :
 GoesM P md ops aF (SK md ops w1 K ix iz R0 R1) i o := fun l g w hsz hf hrd hS => by
 rw [if_pos (hw g)]
 have hfx := hah l hsz hS.shut hf
 obtain ⟨h1, h2⟩ := hS.pre hfx
 obtain ⟨v, w', hrun, hme, hb⟩ := hr g w h1 fun q f' hf' he => h2 f' (List.mem_of_getElem? hf') (by
  unfold edgeB at he
  rw [hio] at he
  obtain ⟨e, he, hb⟩ := Array.any_eq_true'.1 he
  simp only [Bool.and_eq_true, beq_iff_eq] at hb
  rw [← hb.2]
  exact hrd e he hb.1)
 exact .inl ⟨v, w', .inl hrun, upd g d v, .inr ⟨d, _, h0, rfl⟩, (fun d' h' => by rw [h0] at h'; cases h'; rw [hd, upd_at]), hS.ghost hst (hS.shut.step hio hrd) hb hx hz hfx (only_me hat huq hme) (only_ot hat huq)⟩
theorem goesK_cut {t : TypeId} {x : Operand} {lo hi mx : Option Operand} {A A' : Option Addr} {n c n' c' : Nat} {lv hv mv : Option Value} (hio : ops[i]? = some o) (hx : i ≠ ix) (hz : i ≠ iz) (hni : (K.all fun f => f.i != i) = true) (hw : ∀ g, Region.wanted o (yielded ops (aF g).tmps) = true) {d0 : Tmp} (h0 : o.dst = some d0) (hd : ∀ g, (aF g).tmps[d0]? = some (.slice A' n' c')) (ho : o.op = .slice t x lo hi mx) (hxv : ∀ g, (aF g).eval x = .slice A n c)
 (hl : ∀ g, lo.map (aF g).eval = lv) (hh : ∀ g, hi.map (aF g).eval = hv) (hm : ∀ g, mx.map (aF g).eval = mv) (ht : P.underlying t = some (.slice (P.elem t))) (hr : ∀ w, (Instr.slice t (.slice A n c) lv hv mv).run P w = .ok (.slice A' n' c') w) :
 GoesM P md ops aF (SK md ops w1 K ix iz R0 R1) i o :=
 goesK_pure (fun _ => .slice A' n' c') hio hx hz hni hw h0 hd fun g w => by
  unfold execOp
  simp only [ho, hxv, hl, hh, hm, Sem.run_bind, run_sliceAt_slice w t _ _ _ _ ht, hr, Result.andThen_ok, Sem.run_pure]
theorem run_app_full {t e ty : TypeId} {ti : TypeInfo} {z : Value} {bytes : Nat} (w : World) (ht : P.underlying t = some (.slice e)) (hi : P.info? e = some ti) (hz : ti.zero = some z) (hsize : ti.size = 1) (hby : ti.bytes = bytes) (hzs : z.cells.size = 1)
 {A : Option Addr} {n : Nat} {xs : List Value} (hn : xs.length = n) (hr : Rd w A xs) (hA : A = none → n = 0) {a : Addr} {m c : Nat} {news : List Value} (hl : news.length = m) (hm : 0 < m) (hr2 : Rd w (some a) news) (h1 : ∀ u ∈ news, u.oneCell' = true) (h63 : n + m ≤ maxLen) (hlim : (n + m) * bytes ≤ 140737488355328) :
 ∃ v' w', (Builtin.append_ #[t, t] ty #[.slice A n n, .slice (some a) m c]).run P w = .ok v' w' ∧ Own w' w.heap.size e 1 v' (n + m) (xs ++ news) ∧ Below w.heap.size w w' := by
 obtain ⟨b, o, hab, hb, hc⟩ := hr2 (by omega)
 obtain rfl := Option.some.inj hab
 have hnews : ∀ j u, news[j]? = some u → w.cell? ((⟨b, o, none⟩ : Addr).add j) = some u := fun j u hu => by rw [addr_add_at]; exact hc j u hu
 cases A with
 | none =>
   obtain rfl := hA rfl
   obtain ⟨v', w', r1, r2, r3, _⟩ := run_append_own (P := P) w w.heap.size t ty e ti z 1 bytes ht hi hz hsize hby hzs Nat.one_pos (.slice none 0 0) 0 xs ⟨by rw [hn, Nat.zero_mul], .inl ⟨rfl, rfl⟩⟩ ⟨b, o, none⟩ m c news (by rw [hl, Nat.mul_one]) hnews h1 h63 hlim (Nat.le_refl _)
   exact ⟨v', w', r1, Own.of r2, ⟨r3.os, r3.tape, r3.output, r3.size, fun k hk => r3.block k hk (by simp [Value.ownBlock])⟩⟩
 | some d =>
   obtain ⟨v', w', r1, r2, r3⟩ := run_append_arg_grows (P := P) w t ty e ti z 1 bytes ht hi hz hsize hby hzs Nat.one_pos d n n xs (by rw [hn, Nat.mul_one]) (fun j u hu => by
    have hj := (List.getElem?_eq_some_iff.1 hu).1
    obtain ⟨b2, o2, e2, _, hc2⟩ := hr (by omega)
    obtain rfl := Option.some.inj e2
    rw [addr_add_at]
    exact hc2 j u hu) ⟨b, o, none⟩ m c news (by rw [hl, Nat.mul_one]) hnews (by omega) h63 hlim
   exact ⟨v', w', r1, Own.of r2, ⟨r3.os, r3.tape, r3.output, r3.size, fun k hk => r3.block k hk (by simp)⟩⟩
theorem goesK_full {t te : TypeId} {s x : Operand} {ti : TypeInfo} {z : Value} {bytes n m : Nat} {A : Option Addr} {xs news : List Value} {d : Tmp} (hst : ∀ f ∈ K, f.ok) (hah : Ahead md ops ix i) (hio : ops[i]? = some o) (hx : i ≠ ix) (hz : i ≠ iz) {F : Value → World → Prop} (p : Nat) (hat : K[p]? = some ⟨i, d, F⟩) (huq : ((List.range K.length).all fun q => q == p || ((K[q]?).map fun f => f.i != i && f.d != d).getD true) = true) (hw : ∀ g, Region.wanted o (yielded ops (aF g).tmps) = true) (h0 : o.dst = some d) (hd : ∀ g, (aF g).tmps[d]? = some (g d))
 (hop : o.op = .call { callee := .builtin .append, args := #[s, x], argTypes := #[t, t] }) (ht : P.underlying t = some (.slice te)) (hti : P.info? te = some ti) (hzv : ti.zero = some z) (hsize : ti.size = 1) (hby : ti.bytes = bytes) (hzs : z.cells.size = 1)
 (he : ∀ g, (aF g).eval s = .slice A n n) (hn : xs.length = n) (hA : A = none → n = 0) (hl : news.length = m) (hm : 0 < m) (h1 : ∀ u ∈ news, u.oneCell' = true) (h63 : n + m ≤ maxLen) (hlim : (n + m) * bytes ≤ 140737488355328)
 (hr : ∀ w, Below w1.heap.size w1 w → Rd w A xs) (hxr : ∀ g w, Below w1.heap.size w1 w → (∀ (q : Nat) (f : Fact), K[q]? = some f → edgeB md ops i f.i = true → f.F (g f.d) w) → ∃ b c, (aF g).eval x = .slice (some b) m c ∧ Rd w (some b) news)
 (hF : ∀ v w w', Below w1.heap.size w1 w → Own w' w.heap.size te 1 v (n + m) (xs ++ news) → F v w') :
 GoesM P md ops aF (SK md ops w1 K ix iz R0 R1) i o :=
 goesK_any hst hah hio hx hz p hat huq hw h0 hd fun g w hb hK => by
  obtain ⟨b, c, e, hR⟩ := hxr g w hb hK
  obtain ⟨v', w', hrun, h2, h3⟩ := run_app_full (P := P) (ty := o.type) w ht hti hzv hsize hby hzs hn (hr w hb) hA (a := b) (c := c) hl hm hR h1 h63 hlim
  refine ⟨v', w', ?_, hF v' w w' hb h2, h3⟩
  unfold execOp
  simp only [hop, resolve, invoke, builtin, Sem.run_bind, Sem.run_pure, Result.andThen_ok, List.map_toArray, List.map_cons, List.map_nil, he, e, hrun]
theorem cutf_run {T e : TypeId} (he : P.elem T = e) (hT : P.underlying T = some (.slice e)) (hs : ∀ w, (sizeOf e).run P w = .ok 1 w) (A : Option Addr) (n c k : Nat) (hk : k ≤ n) (hn : n ≤ c) :
 ∃ A', (∀ w : World, (Instr.slice T (.slice A n c) (some (.int .i64 (k : Int))) (some (.int .i64 (n : Int))) (some (.int .i64 (n : Int)))).run P w = .ok (.slice A' (n - k) (n - k)) w) ∧ (A' = none → A = none) ∧
   ∀ (S : Nat → Prop) (w : World) (l : List Value), l.length = n → RdOff w S A l → RdOff w S A' (l.drop k) := by
 subst he
 refine ⟨if n = k then A else A.map (·.add (k * 1)), fun w => ?_, fun h => ?_, fun S w l hl hr => ?_⟩
 ·rw [run_slice_lhm w T A n c hT .i64 .i64 .i64 (k : Int) (n : Int) (n : Int) (by omega) (by omega) (by omega) (by omega), hs]
  simp [Result.andThen, sliced]
 ·split at h
  ·exact h
  ·simpa using h
 ·intro hp
  rw [List.length_drop] at hp
  obtain ⟨b, o, rfl, hb, hn, hc⟩ := hr (by omega)
  rw [if_neg (by omega)]
  refine ⟨b, o + k, ?_, hb, hn, fun i u hu => ?_⟩
  ·rw [Option.map_some, addr_add_at, Nat.mul_one]
  ·rw [Nat.add_assoc]
   apply hc
   simp only [List.getElem?_drop] at hu
   exact hu
theorem goesK_name {d d' : Tmp} {i' p' : Nat} (hst : ∀ f ∈ K, f.ok) (hah : Ahead md ops ix i) (hio : ops[i]? = some o) (hx : i ≠ ix) (hz : i ≠ iz) {F : Value → World → Prop} (p : Nat) (hat : K[p]? = some ⟨i, d, F⟩) (hat' : K[p']? = some ⟨i', d', F⟩) (hed : edgeB md ops i i' = true) (huq : ((List.range K.length).all fun q => q == p || ((K[q]?).map fun f => f.i != i && f.d != d).getD true) = true) (hw : ∀ g, Region.wanted o (yielded ops (aF g).tmps) = true) (h0 : o.dst = some d) (hd : ∀ g, (aF g).tmps[d]? = some (g d))
 (hr : ∀ g w, (execOp (aF g).eval o).run P w = .ok (.value (g d')) w) :
 GoesM P md ops aF (SK md ops w1 K ix iz R0 R1) i o :=
 goesK_any hst hah hio hx hz p hat huq hw h0 hd fun g w _ hK => ⟨g d', w, hr g w, hK p' _ hat' hed, Below.refl _ _⟩
end
end
section
structure SqIn (W : World) (s : Sq) (A : Option Addr) (c : Nat) : Prop where
 rd : RdP W A s.params
 np : s.params.length ≤ maxLen
 ni : s.inter.length ≤ maxLen
 nd : s.data.length ≤ maxLen
 nr : ∀ p ∈ s.params, p.length ≤ maxLen
def sqC (s : Sq) (A : Option Addr) (c : Nat) : List Value := [.int .i64 s.kind, .int .u8 (s.priv.toNat : Int), .slice A s.params.length c, .string ⟨s.inter.toArray⟩, .int .u8 (s.final.toNat : Int), .string ⟨s.data.toArray⟩]
def RdQ (w : World) (A : Option Addr) (ls : List Sq) : Prop :=
 0 < ls.length → ∃ b o, A = some ⟨b, o, none⟩ ∧ b < w.heap.size ∧ ∀ k (hk : k < ls.length), ∃ A' c', SqIn w ls[k] A' c' ∧ ∀ i u, (sqC ls[k] A' c')[i]? = some u → w.cell? ⟨b, o + k * 6 + i, none⟩ = some u
theorem RdQ.nil (w : World) (A : Option Addr) : RdQ w A [] := fun h => absurd h (by simp)
theorem SqIn.below {w w' : World} {s : Sq} {A : Option Addr} {c : Nat} (h : SqIn w s A c) (hb : Below w.heap.size w w') : SqIn w' s A c := ⟨h.rd.below hb, h.np, h.ni, h.nd, h.nr⟩
theorem RdQ.below {w w' : World} {A : Option Addr} {ls : List Sq} (h : RdQ w A ls) (hb : Below w.heap.size w w') : RdQ w' A ls := fun hp => by
 obtain ⟨b, o, rfl, hlt, hc⟩ := h hp
 refine ⟨b, o, rfl, Nat.lt_of_lt_of_le hlt hb.size, fun k hk => ?_⟩
 obtain ⟨A', c', h1, h2⟩ := hc k hk
 exact ⟨A', c', h1.below hb, fun i u hu => (hb.cell (p := ⟨b, o + k * 6 + i, none⟩) hlt).trans (h2 i u hu)⟩
theorem RdQ.at_ {w : World} {A : Option Addr} {ls : List Sq} (h : RdQ w A ls) {k : Nat} (hk : k < ls.length) {s : Sq} (hs : ls[k] = s) : ∃ b o A' c', A = some ⟨b, o, none⟩ ∧ SqIn w s A' c' ∧
 w.cell? ⟨b, o + k * 6, none⟩ = some (.int .i64 s.kind) ∧ w.cell? ⟨b, o + k * 6 + 1, none⟩ = some (.int .u8 (s.priv.toNat : Int)) ∧ w.cell? ⟨b, o + k * 6 + 2, none⟩ = some (.slice A' s.params.length c') ∧ w.cell? ⟨b, o + k * 6 + 3, none⟩ = some (.string ⟨s.inter.toArray⟩) ∧ w.cell? ⟨b, o + k * 6 + 4, none⟩ = some (.int .u8 (s.final.toNat : Int)) ∧ w.cell? ⟨b, o + k * 6 + 5, none⟩ = some (.string ⟨s.data.toArray⟩) := by
 obtain ⟨b, o, rfl, _, hc⟩ := h (by omega)
 obtain ⟨A', c', h1, h2⟩ := hc k hk
 rw [hs] at h1 h2
 exact ⟨b, o, A', c', rfl, h1, h2 0 _ rfl, h2 1 _ rfl, h2 2 _ rfl, h2 3 _ rfl, h2 4 _ rfl, h2 5 _ rfl⟩
def Held (w : World) (S : Nat → Prop) (R : World → Prop) : Prop :=
 ∃ F : Nat → Prop, (∀ k, F k → k < w.heap.size ∧ ¬ S k) ∧ ∀ w' : World, w.heap.size ≤ w'.heap.size → (∀ k, F k → w'.heap[k]? = w.heap[k]?) → R w'
section
variable {w w' : World} {S S' : Nat → Prop} {R : World → Prop}
theorem Held.out (h : Held w S R) : R w := by
 obtain ⟨F, _, hR⟩ := h
 exact hR w (Nat.le_refl _) fun _ _ => rfl
theorem Held.go {T : Nat → Prop} (h : Held w S R) (hf : Fr w w' T) (hT : ∀ k, T k → S k) (hw : ∀ k, S' k → S k ∨ w.heap.size ≤ k) : Held w' S' R := by
 obtain ⟨F, hF, hR⟩ := h
 refine ⟨F, fun k hk => ⟨Nat.lt_of_lt_of_le (hF k hk).1 hf.size, fun hs => ?_⟩, fun w2 hs hk => hR w2 (Nat.le_trans hf.size hs) fun k hk2 => (hk k hk2).trans (hf.block k (hF k hk2).1 fun ht => (hF k hk2).2 (hT k ht))⟩
 rcases hw k hs with h1 | h1
 ·exact (hF k hk).2 h1
 ·have := (hF k hk).1; omega
theorem Held.fr (h : Held w S R) (hf : Fr w w' S) (hw : Wid w S S') : Held w' S' R := h.go hf (fun _ h => h) hw
theorem Held.below (h : Held w S R) (hb : Below w.heap.size w w') : Held w' S R := h.go (Fr.of_below hb (fun _ => False)) (fun _ h => h.elim) (fun _ h => .inl h)
theorem Held.imp {R' : World → Prop} (h : Held w S R) (hi : ∀ w', R w' → R' w') : Held w S R' := by
 obtain ⟨F, hF, hR⟩ := h
 exact ⟨F, hF, fun w' a b => hi w' (hR w' a b)⟩
theorem Held.true (w : World) (S : Nat → Prop) (h : ∀ w, R w) : Held w S R := ⟨fun _ => False, fun _ h => h.elim, fun w' _ _ => h w'⟩
theorem Held.old {n : Nat} (hn : n ≤ w.heap.size) (hS : ∀ k, S k → n ≤ k) (hR : ∀ w' : World, w.heap.size ≤ w'.heap.size → (∀ k, k < n → w'.heap[k]? = w.heap[k]?) → R w') : Held w S R :=
 ⟨fun k => k < n, fun k hk => ⟨by omega, fun hs => by have := hS k hs; omega⟩, hR⟩
end
end
end Go.Proofs.YtfifeofmfpjgfaaDoor
