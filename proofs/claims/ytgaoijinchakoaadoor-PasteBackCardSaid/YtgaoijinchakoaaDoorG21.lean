/-
  Layer 3's mathematics: the reader that goes through the kinds reads just the sequence with which the bytes begin. A region that draws its order, by an invariant over which of its operations have come up: for one that puts a slot that others look at, while some need not wait for it. Stage 17, the document's paste, walked: Send, Take, Focus, Looked. Two strings of known bytes, compared.
-/
import Derived.Test.YtgaoijinchakoaaDoorG03
import Derived.Test.YtgaoijinchakoaaDoorG11
import Derived.Test.YtgaoijinchakoaaDoorG12
import Derived.Test.YtgaoijinchakoaaDoorG15
import Derived.Test.YtgaoijinchakoaaDoorG20
import Derived.Lib.SmallJoins
namespace Go.Proofs.YtgaoijinchakoaaDoor
structure Fm where
 letter : List UInt8
 body : Bool
 inter : Bool
 first : UInt8
 en : List UInt8
def formF (k : Int) : Fm :=
 if k = 1 then ⟨[91], true, true, 64, []⟩ else if k = 2 then ⟨[79], false, false, 64, []⟩ else if k = 3 then ⟨[80], true, true, 64, [27, 92]⟩
 else if k = 4 then ⟨[93], false, false, 0, [27, 92]⟩ else if k = 5 then ⟨[], false, true, 48, []⟩ else ⟨[], false, false, 0, []⟩
def rd2 (f : Fm) (r : List UInt8) : List (List Int) × List UInt8 := if f.body = true then paramsF r else ([], r)
end Go.Proofs.YtgaoijinchakoaaDoor
namespace Go.Proofs.YtgaoijinchakoaaDoor
open Go.RowKit
section
section
variable {P : Program} {ops : Array Oper} {Q : Exit → Act → World → Prop} {md : Region.Mode}
def backB (md : Region.Mode) (ops : Array Oper) : Bool :=
 (List.range ops.size).all fun i => ((ops[i]?).map fun o => o.after.all fun e => !Region.binds md e || decide (e.on < i)).getD true
theorem ready_all (hc : backB md ops = true) {l : Array Bool} (hs : l.size = ops.size) (hr : Region.ready md ops l = []) : ∀ j, j < ops.size → l.getD j false = true := by
 intro j
 induction j using Nat.strongRecOn with
 | _ j ih =>
   intro hj
   have ho : ops[j]? = some ops[j] := Array.getElem?_eq_getElem hj
   cases hh : l.getD j false with
   | true => rfl
   | false =>
     exfalso
     have hm : j ∈ Region.ready md ops l := mem_ready.2 ⟨by
      have : j < l.size := by omega
      simp [this] at hh ⊢
      exact hh, ops[j], ho, fun e he hbe => by
      have h1 := List.all_eq_true.1 hc j (List.mem_range.2 hj)
      simp only [ho, Option.map_some, Option.getD_some] at h1
      have h2 := Array.all_eq_true_iff_forall_mem.1 h1 e he
      simp only [hbe, Bool.not_true, Bool.false_or, decide_eq_true_eq] at h2
      exact ih e.on h2 (by omega)⟩
     rw [hr] at hm
     cases hm
theorem wpAny_inv {Inv : Array Bool → Act → World → Prop} (hc : backB md ops = true) (hs : ∀ l a w, Inv l a w → l.size = ops.size) (hstep : ∀ l a w i, Inv l a w → i ∈ Region.ready md ops l → wpOp P ops Q i (fun a w => Inv (l.setIfInBounds i true) a w) a w) (hend : ∀ l a w, Inv l a w → (∀ j, j < ops.size → l.getD j false = true) → Q .normal a w) :
 ∀ (fuel : Nat) (l : Array Bool) (a : Act) (w : World), l.toList.countP (fun b => !b) ≤ fuel → Inv l a w → wpAny P md ops Q fuel l a w := by
 intro fuel
 induction fuel with
 | zero =>
   intro l a w hn hI
   have hall : ∀ j, j < ops.size → l.getD j false = true := fun j hj => by
    have := unl_none l.toList (Nat.le_zero.1 hn) j (by rw [Array.length_toList, hs l a w hI]; exact hj)
    rw [Array.getD_eq_getD_getElem?, ← Array.getElem?_toList, this]
    rfl
   refine ⟨?_, hend l a w hI hall⟩
   rw [List.eq_nil_iff_forall_not_mem]
   intro j hj
   obtain ⟨h1, o, ho, _⟩ := mem_ready.1 hj
   have hlt : j < ops.size := (Array.getElem?_eq_some_iff.1 ho).1
   have h2 := hall j hlt
   have hl : j < l.size := by rw [hs l a w hI]; exact hlt
   simp [hl] at h1 h2
   rw [h1] at h2
   cases h2
 | succ fuel ih =>
   intro l a w hn hI
   refine ⟨fun hr => hend l a w hI (ready_all hc (hs l a w hI) hr), fun i hi => ?_⟩
   obtain ⟨h1, o, ho, _⟩ := mem_ready.1 hi
   have hlt : i < l.size := by rw [hs l a w hI]; exact (Array.getElem?_eq_some_iff.1 ho).1
   have hf : l.toList[i]? = some false := by
    rw [Array.getElem?_toList, Array.getElem?_eq_getElem hlt]
    simp [hlt] at h1
    rw [h1]
   have hk := unl_set l.toList i hf
   refine wpOp_mono (fun a w hI' => ih _ a w ?_ hI') (hstep l a w i hI hi)
   rw [Array.toList_setIfInBounds]
   omega
theorem wp_region_inv {id : Nat} {a : Act} {w : World} {Inv : Array Bool → Act → World → Prop} (hm : P.follows .mixedOrders = true) (hc : backB .any ops = true) (hs : ∀ l a w, Inv l a w → l.size = ops.size) (h0 : Inv (Array.replicate ops.size false) a w.drew) (hstep : ∀ l a w i, Inv l a w → i ∈ Region.ready .any ops l → wpOp P ops Q i (fun a w => Inv (l.setIfInBounds i true) a w) a w) (hend : ∀ l a w, Inv l a w → (∀ j, j < ops.size → l.getD j false = true) → Q .normal a w) :
 (Code.region id ops true).wp P Q a w :=
 wp_region_any hm (wpAny_inv hc hs hstep hend _ _ a _ (by refine Nat.le_trans List.countP_le_length ?_; simp) h0)
theorem wpOp_value {i : Nat} {o : Oper} {a : Act} {w w' : World} {K : Act → World → Prop} (v : Value) (hio : ops[i]? = some o) (hg : o.guard = none) (hr : (execOp a.eval o).run P w = .ok (.value v) w') (hK : K (a.put o.dst v) w') : wpOp P ops Q i K a w := by
 unfold wpOp
 rw [hio]
 simp only
 rw [if_pos (by simp [Region.wanted, hg])]
 refine .inl ?_
 unfold Oper.wp
 rw [hr, Oper.upon_value]
 exact hK
theorem wpOp_enter {i : Nat} {o : Oper} {a : Act} {w w' : World} {K : Act → World → Prop} (f : FuncId) (args : Array Value) (hio : ops[i]? = some o) (hg : o.guard = none) (hr : (execOp a.eval o).run P w = .ok (.enter f args) w') (hK : Calls P f args w' fun e w'' => ∃ v, e = .returned v ∧ K (a.put o.dst v) w'') : wpOp P ops Q i K a w := by
 unfold wpOp
 rw [hio]
 simp only
 rw [if_pos (by simp [Region.wanted, hg])]
 refine .inl ?_
 unfold Oper.wp
 rw [hr, Oper.upon_enter]
 refine hK.mono ?_
 rintro e w2 ⟨v, rfl, h⟩
 exact h
end
end
section
attribute [local go_sem] Oper.semAt_some
theorem own_mark17 (w : World) (base : Nat) (e : TypeId) (n : Nat) (C : Array Value) (hb : base ≤ w.heap.size) (hn : C.size = n) (hm : n ≤ maxLen) : Own (w.alloc (.cells C e (n, n + 1))) base e 1 (.slice (some ⟨w.heap.size, 0, none⟩) n n) n C.toList := by
 subst hn
 refine ⟨by simp, .inr ⟨w.heap.size, _, rfl, hb, ⟨_, _, heap_alloc_new w _⟩, Nat.le_refl _, hm, fun j u hu => ?_, fun j hj => ⟨?_, (World.frozen?_alloc_mark w _ _ _ _ j).trans ?_⟩⟩⟩
 ·refine (World.cell?_alloc_mark w _ _ _ j).trans ?_
  simpa using hu
 ·rw [show (w.alloc (.cells C e (C.size, C.size + 1))).cell? ⟨w.heap.size, j, none⟩ = C[j]? from World.cell?_alloc_mark w _ _ _ j]
  simpa using hj
 ·rw [Bool.and_eq_false_iff]
  left
  simpa using hj
theorem run_step17 {l : List UInt8} (h : l ≠ []) : runL l = if (takeL l).2 = 0 ∨ clnP (takeL l).1 = false then 0 else (takeL l).2 + runL (l.drop (takeL l).2) := by
 obtain ⟨n, hn⟩ : ∃ n, l.length = n + 1 := ⟨l.length - 1, by have := List.length_pos_iff.2 h; omega⟩
 rw [show runL l = runN (n + 1) l by rw [← hn]; rfl, run_step n h]
 split
 ·rfl
 ·rename_i hx
  have hp : 0 < (takeL l).2 := by omega
  rw [show runL (l.drop (takeL l).2) = runN n (l.drop (takeL l).2) from run_enough _ _ _ (Nat.le_refl _) (by rw [List.length_drop]; omega)]
theorem clnL_leD (l : List UInt8) : (clnL l).length ≤ l.length := cln_le _ _
def inD : List UInt8 := [27, 91, 73]
def outDB : List UInt8 := [27, 91, 79]
def focD (foc q : Bool) : List UInt8 := if foc = true then (if q = true then inD else outDB) else []
end
theorem seq_eql (L1 L2 : List UInt8) (r : Bool) (h : r = true ↔ L1 = L2) (x y : Operand) (w : World) : (do eqGuard .eql 9 x y (.string ⟨L1.toArray⟩) (.string ⟨L2.toArray⟩); binOp .eql 9 (.string ⟨L1.toArray⟩) (.string ⟨L2.toArray⟩) : Sem Value).run Tryd.prog w = .ok (.bool r) w := by
 cases r with
 | true =>
   obtain rfl := h.1 rfl
   go_simp
 | false =>
   have hn : ¬ L1 = L2 := fun e => by simpa using h.2 e
   have hne : (⟨L1.toArray⟩ : ByteArray) ≠ ⟨L2.toArray⟩ := str_ne hn
   go_simp
end Go.Proofs.YtgaoijinchakoaaDoor
