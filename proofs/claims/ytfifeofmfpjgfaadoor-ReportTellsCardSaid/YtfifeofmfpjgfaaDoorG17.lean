/-
  From a walk to a law's row, for all laws: arguments read behind the call as they read before, out of the frame alone; a slice of bytes is opened as a list. Layer 15's mathematics: which of a mouse's events are told. Layer 10's mathematics: events of keys, and their modifiers. Layer 11's mathematics: a key's event in its old form. Layer 11's mathematics: old forms: what a functional key's, a text's, and a plain key's are. Layer 3's mathematics: a part of a sequence's parameters. The cells of a block of five, and of six. Stage 11, the landed legacy: the map of forms, and what is found in it.
  Cut out of LegPm. Cut out of Same: what names no function of any dump. A drawn region that lays one new block and stores known cells into it, last; and whose calls answer what the run alone tells. A drawn region whose last step stores a struct that the run alone tells into a block (one that lay, or one that the region itself made). Layer 6's mathematics: what modes leave of each other. Layer 6: words for modes in memory: as a value, as a box's cells; what calls tell. Layer 3, walked: the document's guess.
  Cut out of WirT. The document's Put, whatever it tells.
-/
import Derived.Test.YtfifeofmfpjgfaaDoorG01
import Derived.Test.YtfifeofmfpjgfaaDoorG03
import Derived.Test.YtfifeofmfpjgfaaDoorG04
import Derived.Test.YtfifeofmfpjgfaaDoorG05
import Derived.Test.YtfifeofmfpjgfaaDoorG08
import Derived.Test.YtfifeofmfpjgfaaDoorG11
import Derived.Test.YtfifeofmfpjgfaaDoorG12
import Derived.Test.YtfifeofmfpjgfaaDoorG13
import Derived.Test.YtfifeofmfpjgfaaDoorG14
import Derived.Test.YtfifeofmfpjgfaaDoorG16
import Derived.Deep.DeepHandedRow
import Derived.Lib.LaidTab
import Derived.SizedLaws
import Derived.BigQuiet
import Derived.Deep.QuietTactic
import Derived.Laws.StructEq
namespace Go.Proofs.YtfifeofmfpjgfaaDoor
open Go.RowKit Go.WideShapes Go.ChangeShapes Go.ChangeAt Go.ChangeMaps
section
section
variable {H : Type} {enc : TypeId × Value → H} {P : Program}
theorem trodAll_below (hl : laidOutB P = true) {W W' : World} (hb : Below W.heap.size W W') : ∀ {ts : List TypeId} {vs : List Value} {ds : List (DataW H)} {ps : List MemPlace},
 (ts.all fun t => P.readableRec t && decide (t < P.types.size)) = true → (∀ x ∈ ps, x.block < W.heap.size) → DataW.TrodAll enc P W 0 (fun _ => true) true ts vs ds ps →
 DataW.TrodAll enc P W' 0 (fun b => decide (b < W.heap.size)) true ts vs ds ps
 | [], [], [], _, _, _, h => h
 | t :: ts, v :: vs, d :: ds, ps, hr, hlt, h => by
   obtain ⟨p, q, h1, h2, rfl⟩ := h
   simp only [List.all_cons, Bool.and_eq_true, decide_eq_true_eq] at hr
   exact ⟨p, q, Below.trod hl hr.1.1 hr.1.2 h1 hb (fun x hx => hlt x (List.mem_append_left _ hx)), trodAll_below hl hb hr.2 (fun x hx => hlt x (List.mem_append_right _ hx)) h2, rfl⟩
theorem law_end (hl : laidOutB P = true) {f : Func} {s : ChangeSpec} {W W' : World} {args : Array Value} {ds : List (DataW H)} {before : List MemPlace} {T : TypeId} (hT : P.underlying T = some .bool)
 (hv : s.vars = []) (hrt : f.resultTypes = #[T]) (hread : (f.params.toList.all fun t => P.readableRec t && decide (t < P.types.size)) = true)
 (hW : DataW.Whole enc P f.params.toList s.vars false W args.toList ds [] before) (hA : DataW.TrodAll enc P W 0 (fun _ => true) true f.params.toList args.toList ds before)
 (hs : s.fn H (ds ++ []) = { results := [.lit (.bool true)], args := ds }) (hb : Below W.heap.size W W') :
 s.post enc P f false true false false W args (.bool true) W' := by
 have hlt : ∀ p ∈ before, p.block < W.heap.size := fun p hp => hW.lt p hp
 refine ⟨ds, [], before, [], before, [], hW, ?_, ?_, ?_, World.keptBut_mono (fun p hp => ⟨hp, .inr (.inl hp)⟩) (hb.frame (· ∈ before)), fun hd => absurd hd (by simp)⟩
 ·rw [hs, hrt]; exact trodAll_mk1 (shut_bool hT _)
 ·rw [hs]; exact trodAll_below hl hb hread hlt hA
 ·rw [hs, hv]; exact rfl
end
end
end Go.Proofs.YtfifeofmfpjgfaaDoor
namespace Go.Proofs.YtfifeofmfpjgfaaDoor
theorem byt_btw {f : Int} {a b : Nat} (h0 : (a : Int) ≤ f) (h1 : f ≤ (b : Int)) (hb : b < 256) : btw a b (byt f) = true := by
 have h := byt_nat f (by omega) (by omega)
 rw [btw_iff]
 omega
theorem par_nums {l : List Int} (hl : l.length ≤ 16) (hn : ∀ n ∈ l, 0 ≤ n ∧ n ≤ 1114111) : parOk (l.map fun n => [n]) = true := by
 unfold parOk
 simp only [Bool.and_eq_true, decide_eq_true_eq, List.all_eq_true]
 refine ⟨⟨by rw [List.length_map]; exact hl, fun h => ?_⟩, fun p hp => ?_⟩
 ·have : (-1 : Int) ∈ l := by
   match l, h with
   | [x], h =>
     simp at h
     simp [h]
  have := (hn _ this).1
  omega
 ·obtain ⟨n, hn', rfl⟩ := List.mem_map.1 hp
  have := hn n hn'
  exact ⟨⟨by simp, by simp⟩, fun m hm => by rw [List.mem_singleton.1 hm]; exact ⟨by omega, by omega⟩⟩
def FormE (e : En) : Prop := (e.kind = 4 → 1 ≤ e.num ∧ e.num ≤ 100) ∧ (e.kind = 3 → 65 ≤ e.fin ∧ e.fin ≤ 90) ∧ (e.kind = 5 → 65 ≤ e.fin ∧ e.fin ≤ 122)
instance (e : En) : Decidable (FormE e) := by unfold FormE; infer_instance
end Go.Proofs.YtfifeofmfpjgfaaDoor
namespace Go.Proofs.YtfifeofmfpjgfaaDoor
open Go.RowKit
theorem Blk.cells6 {w : World} {g : Nat} {t : TypeId} {a b c d e f : Value} (h : Blk w g t #[a, b, c, d, e, f]) :
 w.cell? ⟨g, 0, none⟩ = some a ∧ w.cell? ⟨g, 1, none⟩ = some b ∧ w.cell? ⟨g, 2, none⟩ = some c ∧ w.cell? ⟨g, 3, none⟩ = some d ∧ w.cell? ⟨g, 4, none⟩ = some e ∧ w.cell? ⟨g, 5, none⟩ = some f :=
 ⟨h.cell 0, h.cell 1, h.cell 2, h.cell 3, h.cell 4, h.cell 5⟩
end Go.Proofs.YtfifeofmfpjgfaaDoor
namespace Go.Proofs.YtfifeofmfpjgfaaDoor
open Go.RowKit Go.Maps
theorem wpList_ins1 {P : Program} {ops : Array Oper} {Q : Exit → Act → World → Prop} {T K E : TypeId} (KK : Keyed P K) (hT : P.underlying T = some (.map K E)) {a : Act} {b : Nat} {o : Oper} {rest : List Oper} {k : Lit} {v key : Value} {m x y : Operand} (hop : o.op = .insert T m x y) (hg : o.guard = none) (hd : o.dst = none) (hm : a.eval m = .map (some b)) (hx : a.eval x = key) (hkey : keyOf P K key = some k) (hv : a.eval y = v) {n : Nat} {D : DataW Value} {w : World} (hown : w.ownsMap P K hel b n D) (hn : n < maxLen)
 (hK : ∀ w', w'.ownsMap P K hel b (n + 1) (D.put k (.held v)) → w.grownBy w' (some b) → wpList P ops Q rest a w') : wpList P ops Q (o :: rest) a w := by
 obtain ⟨w', hrun, h1, h2⟩ := hown.store KK hT hn hkey (show hel v = some (.held v, []) from rfl)
 refine wpList_plain hg fun K hKK => ?_
 unfold Oper.wp
 have e : (execOp a.eval o).run P w = .ok .skip w' := by
  unfold execOp
  rw [hop]
  simp [hm, hx, hv, hrun, Result.andThen]
 rw [e, Oper.upon_skip, hd]
 exact hKK _ _ (hK _ h1 h2.grown)
end Go.Proofs.YtfifeofmfpjgfaaDoor
namespace Go.Proofs.YtfifeofmfpjgfaaDoor
open Go.RowKit
def sameB (s t : Sq) : Bool := decide (s.kind = t.kind) && decide (s.priv = t.priv) && decide (s.params = t.params) && decide (s.inter = t.inter) && decide (s.final = t.final) && decide (s.data = t.data)
theorem sameB_iff (s t : Sq) : sameB s t = true ↔ s = t := by
 obtain ⟨a, b, c, d, e, f⟩ := s
 obtain ⟨a', b', c', d', e', f'⟩ := t
 simp only [sameB, Bool.and_eq_true, decide_eq_true_eq, Sq.mk.injEq]
 constructor
 ·rintro ⟨⟨⟨⟨⟨h1, h2⟩, h3⟩, h4⟩, h5⟩, h6⟩
  exact ⟨h1, h2, h3, h4, h5, h6⟩
 ·rintro ⟨h1, h2, h3, h4, h5, h6⟩
  exact ⟨⟨⟨⟨⟨h1, h2⟩, h3⟩, h4⟩, h5⟩, h6⟩
theorem byte_ne {a b : UInt8} (h : a ≠ b) : ((a.toNat : Int) == (b.toNat : Int)) = false ∧ ((a.toNat : Int) != (b.toNat : Int)) = true := by
 have h1 : a.toNat ≠ b.toNat := fun e => h (UInt8.toNat_inj.1 e)
 have h2 : ((a.toNat : Int) == (b.toNat : Int)) = false := beq_false_of_ne (by omega)
 exact ⟨h2, by simp [bne, h2]⟩
section
section
variable {P : Program} {ops : Array Oper} {md : Region.Mode} {w1 : World} {K : List Fact} {ix iz : Nat} {R0 : (Tmp → Value) → World → World → Prop} {aF : (Tmp → Value) → Act} {i : Nat} {o : Oper}
def FNew (w1 : World) (ty : TypeId) (z : Array Value) (v : Value) (w : World) : Prop := ∃ b, v = .pointer (some ⟨b, 0, none⟩) ∧ w1.heap.size ≤ b ∧ Blk w b ty z
theorem fnew_ok (w1 : World) (i : Nat) (d : Tmp) (ty : TypeId) (z : Array Value) : (⟨i, d, FNew w1 ty z⟩ : Fact).ok := fun _ _ _ ⟨b, e, h1, h2⟩ hb => ⟨b, e, h1, h2.below hb h2.lt⟩
theorem goesK_new {d : Tmp} {ty : TypeId} {z : Array Value} (hst : ∀ f ∈ K, f.ok) (hah : Ahead md ops ix i) (hio : ops[i]? = some o) (hx : i ≠ ix) (hz : i ≠ iz) (p : Nat) (hat : K[p]? = some ⟨i, d, FNew w1 ty z⟩) (huq : ((List.range K.length).all fun q => q == p || ((K[q]?).map fun f => f.i != i && f.d != d).getD true) = true) (hw : ∀ g, Region.wanted o (yielded ops (aF g).tmps) = true) (h0 : o.dst = some d) (hd : ∀ g, (aF g).tmps[d]? = some (g d)) {R1 : (Tmp → Value) → World → World → Prop}
 (hr : ∀ g w, (execOp (aF g).eval o).run P w = .ok (.value (.pointer (some ⟨w.heap.size, 0, none⟩))) (w.alloc (.cells z ty))) : GoesM P md ops aF (SK md ops w1 K ix iz R0 R1) i o :=
 goesK_make hst hah hio hx hz p hat huq hw h0 hd (fun w => .pointer (some ⟨w.heap.size, 0, none⟩)) (fun w => w.alloc (.cells z ty)) hr fun w hb => ⟨⟨w.heap.size, rfl, hb.size, Blk.new w ty z⟩, (Below.refl _ w).alloc (Nat.le_refl _) _⟩
end
end
section
section
variable {P : Program} {ops : Array Oper} {md : Region.Mode} {w1 : World} {K : List Fact} {ix iz : Nat} {R0 R1 : (Tmp → Value) → World → World → Prop} {aF : (Tmp → Value) → Act} {i : Nat} {o : Oper}
theorem goesQ_store (hi : i = ix) (hxz : ix = iz) (hio : ops[i]? = some o) (hall : ∀ f ∈ K, f.i ≠ i ∧ ∃ js, pathB md ops ix js = true ∧ f.i ∈ js) (hw : ∀ g, Region.wanted o (yielded ops (aF g).tmps) = true) (ho : o.dst = none) (nw : (Tmp → Value) → World → World)
 (hr : ∀ g w, Below w1.heap.size w1 w → (∀ (q : Nat) (f : Fact), K[q]? = some f → f.F (g f.d) w) → (execOp (aF g).eval o).run P w = .ok .skip (nw g w) ∧ R1 g w (nw g w)) :
 GoesM P md ops aF (SK md ops w1 K ix iz R0 R1) i o := fun l g w hsz hf hrd hS => by
 subst hxz hi
 rw [if_pos (hw g)]
 obtain ⟨b1, h2⟩ := hS.pre hf
 have hsh := hS.shut.step hio hrd
 have hlt : i < l.size := by rw [hsz]; exact (Array.getElem?_eq_some_iff.1 hio).1
 have hfs : ∀ f ∈ K, f.F (g f.d) w := fun f hf' => h2 f hf' (by
  obtain ⟨hne, js, hp, hm⟩ := hall f hf'
  have := hsh.path i js (getD_self hlt) hp f.i hm
  rwa [getD_set_ne false (fun e => hne e.symm)] at this)
 obtain ⟨r1, r2⟩ := hr g w b1 fun q f hq => hfs f (List.mem_of_getElem? hq)
 refine .inl ⟨undef, nw g w, .inr ⟨r1, rfl⟩, g, .inl rfl, (fun d' h' => by rw [ho] at h'; cases h'), hsh, ?_, ?_, fun _ => ⟨w, b1, hfs, r2⟩, fun h => h⟩
 ·rw [getD_self hlt]; intro h; cases h
 ·rw [getD_self hlt]; intro _ h; cases h
theorem goesQ_box {t : TypeId} {x y : Operand} {d : Tmp} {px : (Tmp → Value) → Value} {n : Nat} (hi : i = ix) (hxz : ix = iz) (hio : ops[i]? = some o) (hall : ∀ f ∈ K, f.i ≠ i ∧ ∃ js, pathB md ops ix js = true ∧ f.i ∈ js) (hw : ∀ g, Region.wanted o (yielded ops (aF g).tmps) = true) (ho : o.dst = none)
 (hop : o.op = .store t x y) (hx : ∀ g, (aF g).eval x = px g) (hy : ∀ g, (aF g).eval y = g d) (hin : (P.info? t).map (·.size) = some n)
 (hf : ∀ (g : Tmp → Value) (w : World), Below w1.heap.size w1 w → (∀ (q : Nat) (f : Fact), K[q]? = some f → f.F (g f.d) w) → ∃ b es cs, px g = .pointer (some ⟨b, 0, none⟩) ∧ Blk w b t es ∧ es.size = n ∧ g d = .agg cs ∧ cs.size = n ∧ cs.toList.all (·.oneCell') = true) :
 GoesM P md ops aF (SK md ops w1 K ix iz R0 (fun g ws w => ∃ b es cs, px g = .pointer (some ⟨b, 0, none⟩) ∧ Blk ws b t es ∧ g d = .agg cs ∧ Blk w b t cs ∧ w = ws.setCells b 0 cs.toList)) i o :=
 goesQ_store hi hxz hio hall hw ho (fun g w => match px g, g d with | .pointer (some ⟨b, _, _⟩), .agg cs => w.setCells b 0 cs.toList | _, _ => w) fun g w hW hK => by
  obtain ⟨b, es, cs, e0, hk, h0, e, h1, h2⟩ := hf g w hW hK
  have hrun := hk.run_set (P := P) cs (by rw [h1, h0]) (by rw [h0]; exact hin) h2
  refine ⟨?_, b, es, cs, e0, hk, e, ?_, by simp only [e0, e]⟩
  ·unfold execOp
   simp only [hop, hx, hy, e0, e, Sem.run_bind, hrun, Result.andThen_ok, Sem.run_pure]
  ·simp only [e0, e]
   exact hk.setAll (by rw [h1, h0])
end
end
end Go.Proofs.YtfifeofmfpjgfaaDoor
namespace Go.Proofs.YtfifeofmfpjgfaaDoor
end Go.Proofs.YtfifeofmfpjgfaaDoor
namespace Go.Proofs.YtfifeofmfpjgfaaDoor
open Go.RowKit
section
section
variable {w w' : World} {g : Nat} {t : TypeId} {p0 p1 p2 p3 p4 p5 p6 p7 p8 p9 : Value}
end
def Bl (w : World) (L : List (Nat × TypeId × Array Value)) : Prop := ∀ x ∈ L, Blk w x.1 x.2.1 x.2.2
section
variable {w w' : World} {L : List (Nat × TypeId × Array Value)}
theorem Bl.nil (w : World) : Bl w [] := fun _ h => by cases h
theorem Bl.below (h : Bl w L) (hb : Below w.heap.size w w') : Bl w' L := fun x hx => (h x hx).below hb (h x hx).lt
theorem Bl.alloc (h : Bl w L) (o : Obj) : Bl (w.alloc o) L := fun x hx => (h x hx).alloc o
theorem Bl.add (h : Bl w L) (t : TypeId) (cs : Array Value) : Bl (w.alloc (.cells cs t)) ((w.heap.size, t, cs) :: L) := fun x hx => by
 rcases List.mem_cons.1 hx with rfl | hx
 ·exact Blk.new w t cs
 ·exact (h x hx).alloc _
theorem Bl.tail {x : Nat × TypeId × Array Value} (h : Bl w (x :: L)) : Bl w L := fun y hy => h y (List.mem_cons_of_mem _ hy)
end
def moV (m : Mo) : Value := .agg #[.bool m.cursor, .bool m.keypad, .bool m.back, .bool m.focus, .bool m.paste, .bool m.lock, .bool m.line, .int .i64 m.mouse, .int .i64 m.coding, .int .i64 m.other]
def moC (m : Mo) : Array Value := #[.bool m.cursor, .bool m.keypad, .bool m.back, .bool m.focus, .bool m.paste, .bool m.lock, .bool m.line, .int .i64 m.mouse, .int .i64 m.coding, .int .i64 m.other]
def MoE (m : Mo) (q : Bool) (w : World) (e : Ending) (w' : World) : Prop := e = .returned (.tuple #[moV m, .bool q]) ∧ Below w.heap.size w w'
theorem sameM_eq (a b : Mo) : sameM a b = decide (a.cursor = b.cursor ∧ a.keypad = b.keypad ∧ a.back = b.back ∧ a.focus = b.focus ∧ a.paste = b.paste ∧ a.lock = b.lock ∧ a.line = b.line ∧ a.mouse = b.mouse ∧ a.coding = b.coding ∧ a.other = b.other) := by
 rw [Bool.eq_iff_iff]
 simp [sameM]
def inI (n : Int) : Prop := -9223372036854775808 ≤ n ∧ n ≤ 9223372036854775807
def ValE (v : Value) (w : World) (e : Ending) (w' : World) : Prop := e = .returned v ∧ Below w.heap.size w w'
def okM (m : Mo) : Prop := inI m.mouse ∧ inI m.coding
theorem below_step {w w1 w2 : World} {n : Nat} (h : Below n w w1) (h' : Below w1.heap.size w1 w2) (hn : n ≤ w1.heap.size) : Below n w w2 := h.trans (h'.mono hn)
end
theorem RdPN.below {g : Nat} {w w' : World} {A : Option Addr} {ps : List (List Int)} (h : RdPN g w A ps) (hb : Below w.heap.size w w') : RdPN g w' A ps :=
 h.keep fun k _ ⟨cur, fz, hh⟩ => hb.block k (by rcases hh with hh | hh <;> exact (Array.getElem?_eq_some_iff.1 hh).1)
theorem rputE_any (s : Sq) (A : Option Addr) (c : Nat) (m : Int) (T : List UInt8) (w : World) (hm : mayS s = m) (hT : putE s = T) (hp : s.params.length ≤ 4294967296) (hi : s.inter.length ≤ 4294967296) (hr : RdP w A s.params) :
 Calls Tryd.prog 27 #[sqV s A c] w (PutE m T w) := by
 subst hT
 subst hm
 by_cases h : mayS s = 0
 ·refine (wput_yes s A c w h hr).mono ?_
  rintro e w' ⟨⟨A', c', rfl, h1, h2⟩, hb⟩
  rw [putE_0 h, h]
  exact ⟨⟨A', c', rfl, h1, h2⟩, hb⟩
 ·refine (wput_no s A c _ w rfl h hp hi hr).mono ?_
  rintro e w' ⟨rfl, hb⟩
  rw [putE_no h]
  exact ⟨⟨none, 0, rfl, Nat.le_refl _, Rd.nil _ _⟩, hb⟩
end Go.Proofs.YtfifeofmfpjgfaaDoor
