/-
  From a walk to a law's row, for all laws: arguments read behind the call as they read before, out of the frame alone; a slice of bytes is opened as a list. Layer 15's mathematics: which of a mouse's events are told. Layer 15: a mouse's event, and a cell, as values. Layer 11's mathematics: old forms: what a functional key's, a text's, and a plain key's are. Regions that draw their order (RegK's state), whose operations make what the run alone tells out of what it told ahead: an append onto a slice without room, a struct built, a name given. A sequence of numbers, as a value, and the document's Put of it.
  Cut out of SqnW. A sequence of numbers, as the program's Num tells it. Cut out of LegPw. Cut out of WpQ: what names no function of any dump.
-/
import Derived.Test.YtjlhhelikiegdaaDoorG01
import Derived.Test.YtjlhhelikiegdaaDoorG08
import Derived.Test.YtjlhhelikiegdaaDoorG13
import Derived.Test.YtjlhhelikiegdaaDoorG15
import Derived.Test.YtjlhhelikiegdaaDoorG17
import Derived.Test.YtjlhhelikiegdaaDoorG23
import Derived.Test.YtjlhhelikiegdaaDoorG25
import Derived.Deep.DeepHandedRow
import Derived.Lib.LaidTab
import Derived.SizedLaws
import Derived.Laws.Slices
namespace Go.Proofs.YtjlhhelikiegdaaDoor
open Go.RowKit Go.WideShapes Go.ChangeShapes Go.ChangeAt Go.ChangeMaps
section
section
variable {H : Type} {enc : TypeId × Value → H} {P : Program}
theorem trodAll_below (hl : laidOutB P = true) {W W' : World} (hb : Below W.heap.size W W') : ∀ {ts : List TypeId} {vs : List Value} {ds : List (DataW H)} {ps : List MemPlace},
 (ts.all fun t => P.readableRec t && decide (t < P.types.size)) = true → (∀ x ∈ ps, x.block < W.heap.size) → DataW.TrodAll enc P W 0 (fun _ => true) true ts vs ds ps →
 DataW.TrodAll enc P W' 0 (fun b => decide (b < W.heap.size)) true ts vs ds ps
 | [], [], [], _, _, _, h => h
 | t :: ts, v :: vs, d :: ds, ps, hr, hlt, h => by
   obtain ⟨p, q, h1, h2, rfl⟩ := h
   simp only [List.all_cons, Bool.and_eq_true, decide_eq_true_eq] at hr
   exact ⟨p, q, Below.trod hl hr.1.1 hr.1.2 h1 hb (fun x hx => hlt x (List.mem_append_left _ hx)), trodAll_below hl hb hr.2 (fun x hx => hlt x (List.mem_append_right _ hx)) h2, rfl⟩
theorem law_end (hl : laidOutB P = true) {f : Func} {s : ChangeSpec} {W W' : World} {args : Array Value} {ds : List (DataW H)} {before : List MemPlace} {T : TypeId} (hT : P.underlying T = some .bool)
 (hv : s.vars = []) (hrt : f.resultTypes = #[T]) (hread : (f.params.toList.all fun t => P.readableRec t && decide (t < P.types.size)) = true)
 (hW : DataW.Whole enc P f.params.toList s.vars false W args.toList ds [] before) (hA : DataW.TrodAll enc P W 0 (fun _ => true) true f.params.toList args.toList ds before)
 (hs : s.fn H (ds ++ []) = { results := [.lit (.bool true)], args := ds }) (hb : Below W.heap.size W W') :
 s.post enc P f false true false false W args (.bool true) W' := by
 have hlt : ∀ p ∈ before, p.block < W.heap.size := fun p hp => hW.lt p hp
 refine ⟨ds, [], before, [], before, [], hW, ?_, ?_, ?_, World.keptBut_mono (fun p hp => ⟨hp, .inr (.inl hp)⟩) (hb.frame (· ∈ before)), fun hd => absurd hd (by simp)⟩
 ·rw [hs, hrt]; exact trodAll_mk1 (shut_bool hT _)
 ·rw [hs]; exact trodAll_below hl hb hread hlt hA
 ·rw [hs, hv]; exact rfl
end
end
end Go.Proofs.YtjlhhelikiegdaaDoor
namespace Go.Proofs.YtjlhhelikiegdaaDoor
structure Ms where
 btn : Int
 typ : Int
 x : Int
 y : Int
 mods : Int
def heldT (n : Int) : Bool := decide (1 ≤ n ∧ n ≤ 3) || decide (8 ≤ n ∧ n ≤ 11)
def mayT (e : Ms) : Bool :=
 if e.x < 1 ∨ 65535 < e.x ∨ e.y < 1 ∨ 65535 < e.y ∨ e.mods < 0 ∨ 255 < e.mods then false
 else if e.typ = 1 then decide (1 ≤ e.btn ∧ e.btn ≤ 11) else if e.typ = 3 then heldT e.btn else decide (e.typ = 4) && (decide (e.btn = 0) || heldT e.btn)
theorem may_typ15 {e : Ms} (h : mayT e = true) : e.typ = 1 ∨ e.typ = 3 ∨ e.typ = 4 := by
 unfold mayT at h
 split at h
 ·cases h
 ·split at h
  ·exact .inl ‹_›
  ·split at h
   ·exact .inr (.inl ‹_›)
   ·simp only [Bool.and_eq_true, decide_eq_true_eq] at h
    exact .inr (.inr h.1)
theorem may_cell {e : Ms} (h : mayT e = true) : (1 ≤ e.x ∧ e.x ≤ 65535) ∧ (1 ≤ e.y ∧ e.y ≤ 65535) := by
 unfold mayT at h
 split at h
 ·cases h
 ·rename_i hr
  omega
end Go.Proofs.YtjlhhelikiegdaaDoor
namespace Go.Proofs.YtjlhhelikiegdaaDoor
open Go.RowKit
def msC (e : Ms) : Array Value := #[.int .i64 e.btn, .int .i64 e.typ, .int .i64 e.x, .int .i64 e.y, .int .i64 e.mods]
def msV (e : Ms) : Value := .agg #[.int .i64 e.btn, .int .i64 e.typ, .int .i64 e.x, .int .i64 e.y, .int .i64 e.mods]
theorem ret_bl {x y : Bool} (h : x = y) : Ending.returned (.bool x) = .returned (.bool y) := by rw [h]
end Go.Proofs.YtjlhhelikiegdaaDoor
namespace Go.Proofs.YtjlhhelikiegdaaDoor
theorem byt_btw {f : Int} {a b : Nat} (h0 : (a : Int) ≤ f) (h1 : f ≤ (b : Int)) (hb : b < 256) : btw a b (byt f) = true := by
 have h := byt_nat f (by omega) (by omega)
 rw [btw_iff]
 omega
theorem par_nums {l : List Int} (hl : l.length ≤ 16) (hn : ∀ n ∈ l, 0 ≤ n ∧ n ≤ 1114111) : parOk (l.map fun n => [n]) = true := by
 unfold parOk
 simp only [Bool.and_eq_true, decide_eq_true_eq, List.all_eq_true]
 refine ⟨⟨by rw [List.length_map]; exact hl, fun h => ?_⟩, fun p hp => ?_⟩
 ·have : (-1 : Int) ∈ l := by
   match l, h with
   | [x], h =>
     simp at h
     simp [h]
  have := (hn _ this).1
  omega
 ·obtain ⟨n, hn', rfl⟩ := List.mem_map.1 hp
  have := hn n hn'
  exact ⟨⟨by simp, by simp⟩, fun m hm => by rw [List.mem_singleton.1 hm]; exact ⟨by omega, by omega⟩⟩
def FormE (e : En) : Prop := (e.kind = 4 → 1 ≤ e.num ∧ e.num ≤ 100) ∧ (e.kind = 3 → 65 ≤ e.fin ∧ e.fin ≤ 90) ∧ (e.kind = 5 → 65 ≤ e.fin ∧ e.fin ≤ 122)
instance (e : En) : Decidable (FormE e) := by unfold FormE; infer_instance
end Go.Proofs.YtjlhhelikiegdaaDoor
namespace Go.Proofs.YtjlhhelikiegdaaDoor
open Go.RowKit
section
section
variable {P : Program} {ops : Array Oper} {md : Region.Mode} {w1 : World} {K : List Fact} {ix iz : Nat} {R0 R1 : (Tmp → Value) → World → World → Prop} {aF : (Tmp → Value) → Act} {i : Nat} {o : Oper}
theorem goesK_any {d : Tmp} (hst : ∀ f ∈ K, f.ok) (hah : Ahead md ops ix i) (hio : ops[i]? = some o) (hx : i ≠ ix) (hz : i ≠ iz) {F : Value → World → Prop} (p : Nat) (hat : K[p]? = some ⟨i, d, F⟩) (huq : ((List.range K.length).all fun q => q == p || ((K[q]?).map fun f => f.i != i && f.d != d).getD true) = true) (hw : ∀ g, Region.wanted o (yielded ops (aF g).tmps) = true) (h0 : o.dst = some d) (hd : ∀ g, (aF g).tmps[d]? = some (g d))
 (hr : ∀ g w, Below w1.heap.size w1 w → (∀ (q : Nat) (f : Fact), K[q]? = some f → edgeB md ops i f.i = true → f.F (g f.d) w) → ∃ v w', (execOp (aF g).eval o).run P w = .ok (.value v) w' ∧ F v w' ∧ Below w.heap.size w w') :
 GoesM P md ops aF (SK md ops w1 K ix iz R0 R1) i o := fun l g w hsz hf hrd hS => by
 rw [if_pos (hw g)]
 have hfx := hah l hsz hS.shut hf
 obtain ⟨h1, h2⟩ := hS.pre hfx
 obtain ⟨v, w', hrun, hme, hb⟩ := hr g w h1 fun q f' hf' he => h2 f' (List.mem_of_getElem? hf') (by
  unfold edgeB at he
  rw [hio] at he
  obtain ⟨e, he, hb⟩ := Array.any_eq_true'.1 he
  simp only [Bool.and_eq_true, beq_iff_eq] at hb
  rw [← hb.2]
  exact hrd e he hb.1)
 exact .inl ⟨v, w', .inl hrun, upd g d v, .inr ⟨d, _, h0, rfl⟩, (fun d' h' => by rw [h0] at h'; cases h'; rw [hd, upd_at]), hS.ghost hst (hS.shut.step hio hrd) hb hx hz hfx (only_me hat huq hme) (only_ot hat huq)⟩
theorem goesK_name {d d' : Tmp} {i' p' : Nat} (hst : ∀ f ∈ K, f.ok) (hah : Ahead md ops ix i) (hio : ops[i]? = some o) (hx : i ≠ ix) (hz : i ≠ iz) {F : Value → World → Prop} (p : Nat) (hat : K[p]? = some ⟨i, d, F⟩) (hat' : K[p']? = some ⟨i', d', F⟩) (hed : edgeB md ops i i' = true) (huq : ((List.range K.length).all fun q => q == p || ((K[q]?).map fun f => f.i != i && f.d != d).getD true) = true) (hw : ∀ g, Region.wanted o (yielded ops (aF g).tmps) = true) (h0 : o.dst = some d) (hd : ∀ g, (aF g).tmps[d]? = some (g d))
 (hr : ∀ g w, (execOp (aF g).eval o).run P w = .ok (.value (g d')) w) :
 GoesM P md ops aF (SK md ops w1 K ix iz R0 R1) i o :=
 goesK_any hst hah hio hx hz p hat huq hw h0 hd fun g w _ hK => ⟨g d', w, hr g w, hK p' _ hat' hed, Below.refl _ _⟩
end
end
theorem may_small {s : Sq} (h : mayS s = 0) : s.priv.toNat < 128 ∧ s.final.toNat < 128 ∧ (putS s).length ≤ 20000 ∧ (s.kind = 1 ∨ s.kind = 2 ∨ s.kind = 3 ∨ s.kind = 4 ∨ s.kind = 5) := by
 obtain ⟨hdl, hv, hp, hil, hi, hd, hl, hb⟩ := ok_parts h
 have hk : s.kind = 1 ∨ s.kind = 2 ∨ s.kind = 3 ∨ s.kind = 4 ∨ s.kind = 5 := by
  unfold lastOk at hl
  split at hl
  ·omega
  ·split at hl
   ·omega
   ·simp only [Bool.and_eq_true, decide_eq_true_eq] at hl; omega
 refine ⟨?_, ?_, ?_, hk⟩
 ·simp only [privOk, Bool.or_eq_true, decide_eq_true_eq] at hv
  rcases hv with hv | hv
  ·rw [hv]; decide
  ·have := (btw_iff _ _ _).1 hv; omega
 ·unfold lastOk at hl
  split at hl
  ·have := (btw_iff _ _ _).1 hl; omega
  ·split at hl
   ·simp only [Bool.and_eq_true] at hl
    have := (btw_iff _ _ _).1 hl.1; omega
   ·simp only [Bool.and_eq_true, decide_eq_true_eq] at hl
    rw [hl.2]; decide
 ·have h3 := body_len hp hil
  unfold putS
  (repeat' split) <;> simp <;> omega
end Go.Proofs.YtjlhhelikiegdaaDoor
