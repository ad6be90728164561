/-
  A range over a function whose iterator turns blocks of its own making, or of its maker's: what the caller says abides those.
-/
import Derived.Test.YtkkjahhilcjpgaaDoorG04
import Derived.RangeFuncNested
import Derived.RangeFuncBound
import Derived.RangeFuncCalls
import Derived.RangeFuncLeaves
import Derived.RangeFuncBox
namespace Go.Proofs.YtkkjahhilcjpgaaDoor
open Go.RowKit
section
section
variable {F : Fence} {n : Nat} {P : Program} {w : World}
def AbX {β : Type} (X : Nat → Prop) (J : β → World → Prop) : Prop := ∀ s A B row, J s A → A.grownBy B row → (∀ r, row = some r → X r) → J s B
theorem AbX.alloc {β : Type} {X : Nat → Prop} {J : β → World → Prop} (h : AbX X J) {s : β} {W : World} (hs : J s W) (o : Obj) : J s (W.alloc o) := h s W _ none hs (World.grownBy_alloc W o none) (fun r e => by cases e)
theorem AbX.put {β : Type} {X : Nat → Prop} {J : β → World → Prop} (h : AbX X J) {s : β} {W : World} (hs : J s W) {l : Nat} (hl : X l) (o : Obj) : J s (W.putObj l o) := h s W _ (some l) hs (grownBy_putObj' W l o) (fun r e => by cases e; exact hl)
def SeqX {α : Type} (F : Fence) (n : Nat) (P : Program) (g : Nat) (lb : Array Value) (encs : α → Array Value) (Kp : World → World → Prop) (X : World → Nat → Prop) (S Sp : List α → Prop) (N : Nat) (w : World) : Prop :=
 ∀ (l : Nat) (J Jx : List α → World → Prop) (W : World), Below w.heap.size w W → w.heap.size + 2 ≤ W.heap.size → AbX (X W) J → OwnFrom W.heap.size Jx →
   (∀ pre x W1, J pre W1 → pre.length < N → YieldAt F (n - 1) P l (encs x) W1 fun e W' => (e = .returned (.bool true) ∧ J (pre ++ [x]) W' ∧ Kp W1 W') ∨ (e = .returned (.bool false) ∧ Jx (pre ++ [x]) W' ∧ Kp W1 W')) →
   J [] W → CallsIn F n P g (#[.func (.yield l) #[] #[]] ++ lb) W fun e W' => (∃ v, e = .returned v) ∧ ((∃ xs, S xs ∧ J xs W') ∨ (∃ pre, Sp pre ∧ Jx pre W'))
def Kr (B : Nat) (A C : World) : Prop := C.heap[B]? = A.heap[B]? ∧ C.heap[B + 1]? = A.heap[B + 1]?
theorem Kr.refl (B : Nat) (A : World) : Kr B A A := ⟨rfl, rfl⟩
theorem Kr.trans {B : Nat} {A C D : World} (h : Kr B A C) (k : Kr B C D) : Kr B A D := ⟨k.1.trans h.1, k.2.trans h.2⟩
theorem Kr.below {B : Nat} {A C : World} (h : Below A.heap.size A C) (hB : B + 1 < A.heap.size) : Kr B A C := ⟨h.block B (by omega), h.block (B + 1) hB⟩
theorem Kr.set {B : Nat} (A : World) {p : Addr} (hp : p.block < B) (v : Value) : Kr B A (A.setCell p v) := ⟨heap_setCell_other A p B v (by omega), heap_setCell_other A p (B + 1) v (by omega)⟩
def rgPost {α : Type} (B : Nat) (Kp : World → World → Prop) (I : List α → World → Prop) (Ix : Code → List α → World → Prop) (xs : List α) (W : World) : Exit → Act → World → Prop
 | .normal, _, W' => Kr B W W' ∧ Kp W W' ∧ I xs W'
 | .ret, _, W' => Kr B W W' ∧ Kp W W' ∧ Ix .ret xs W'
 | .exit i, _, W' => Kr B W W' ∧ Kp W W' ∧ Ix (.exit i) xs W'
 | _, _, _ => False
set_option maxHeartbeats 2000000 in
theorem wpIn_rangeX {α : Type} {g : Operand} {ps : Array Tmp} {assign body : Code} {Q : Exit → Act → World → Prop} {a : Act}
 (hro : F.round = none) (h1 : 1 ≤ n) {gf : Nat} {lb : Array Value} (hg : a.eval g = .func (.func gf) #[] lb) (hFg : F.fn gf) (eg : ∀ args w, (callFunc gf args).run P w = .ok (.enter gf args) w)
 {encs : α → Array Value} {Kp : World → World → Prop} {X : World → Nat → Prop} {S Sp : List α → Prop} {N : Nat} {w0 : World} (hseq : SeqX F (n - 1) P gf lb encs Kp X S Sp N w0)
 (hKt : ∀ {A B C : World}, Kp A B → Kp B C → Kp A C) (hKb : ∀ (W : World) (o : Obj), Kp W (W.putObj (w.heap.size + 1) o)) (hb0 : Below w0.heap.size w0 w) (hps : ∀ x, (encs x).size = ps.size)
 (Y : Nat → Prop) (hY : ∀ r, Y r → r ≠ w.heap.size ∧ r ≠ w.heap.size + 1) (hXY : ∀ (W : World) r, W.heap.size = w.heap.size + 2 → X W r → Y r)
 (I : List α → World → Prop) (Ix : Code → List α → World → Prop) (hI : AbX (fun r => Y r ∨ r = w.heap.size + 1) I) (hIx : ∀ c, OwnFrom w.heap.size (Ix c)) (h0 : I [] w)
 (Ax : α → Act → World → Prop) (hAx : ∀ x a', AbX (fun r => r = w.heap.size + 1) (fun (_ : Unit) W => Ax x a' W))
 (hassign : ∀ (l : Nat) (pre : List α) (x : α) (W : World) (K : Act → World → Prop), w.heap.size + 1 < W.heap.size → I pre W → (∀ a' W', Kr w.heap.size W W' → Kp W W' → I pre W' → Ax x a' W' → K a' W') →
   assign.wpIn (F.inRound l) (n - 1 - 1) P (Exit.then K (fun _ _ _ => False)) { tmps := (ps.zip (encs x)).foldl (fun t (p, v) => t.setIfInBounds p v) a.tmps, defers := [] } W)
 (hbody : ∀ (l : Nat) (pre : List α) (x : α) (a' : Act) (W : World), w.heap.size + 1 < W.heap.size → I pre W → Ax x a' W → pre.length < N → body.wpIn (F.inRound l) (n - 1 - 1) P (rgPost w.heap.size Kp I Ix (pre ++ [x]) W) a' W)
 (hdone : ∀ (xs : List α) (W : World), S xs → I xs W → W.heap[w.heap.size]? = some (.deferred (some [])) → Q .normal { a with defers := { target := .collected w.heap.size, args := #[] } :: a.defers } W)
 (hstop : ∀ (c : Code) (pre : List α) (W : World), Sp pre → Ix c pre W → W.heap[w.heap.size]? = some (.deferred (some [])) → c.wpIn F n P Q { a with defers := { target := .collected w.heap.size, args := #[] } :: a.defers } W) :
 (Code.rangeFunc g ps assign body).wpIn F n P Q a w := by
 refine wpIn_rangeFunc fun fn hfn => ?_
 rw [hro]
 obtain ⟨R, hR⟩ : ∃ R : LoopState → Option Code → Loop, R = fun st pe => ⟨st, pe, fn, a.tmps, ps, assign, body, w.heap.size⟩ := ⟨_, rfl⟩
 obtain ⟨V, hV⟩ : ∃ V, (w.alloc (.deferred (some []))).alloc (.loop (R .ready none)) = V := ⟨_, rfl⟩
 have sV : V.heap.size = w.heap.size + 2 := by rw [← hV]; simp
 have gV : Kr w.heap.size V V := Kr.refl _ _
 have dV : V.heap[w.heap.size]? = some (.deferred (some [])) := by
  rw [← hV]
  exact (Below.heap_alloc _ _ _ (by simp)).trans (World.alloc_heap_new w _)
 have lV : V.heap[w.heap.size + 1]? = some (.loop (R .ready none)) := by
  have := World.alloc_heap_new (w.alloc (.deferred (some []))) (.loop (R .ready none))
  rw [World.size_alloc] at this
  rw [← hV]
  exact this
 have iV : I [] V := by rw [← hV]; exact hI.alloc (hI.alloc h0 _) _
 have bV : Below w0.heap.size w0 V := by
  rw [← hV]
  exact hb0.trans ((((Below.refl _ w).alloc (Nat.le_refl _) _).alloc (by simp) _).mono hb0.size)
 have out : ∀ {A B : World} {row : Option Nat} {k : Nat} {o : Obj}, (k = w.heap.size ∨ k = w.heap.size + 1) → A.heap[k]? = some o → A.grownBy B row → (∀ r, row = some r → X V r) → B.heap[k]? = some o := fun {A B row k o} hk ho hgr hr =>
  (hgr.block k (Array.getElem?_eq_some_iff.1 ho).1 (fun e => by
    have := hY k (hXY V k sV (hr k e.symm))
    omega)).trans ho
 have outN : ∀ {A B : World} {row : Option Nat} {k : Nat} {o : Obj}, (k = w.heap.size ∨ k = w.heap.size + 1) → A.heap[k]? = some o → A.grownBy B row → (∀ r, row = some r → V.heap.size ≤ r) → B.heap[k]? = some o := fun {A B row k o} hk ho hgr hr =>
  (hgr.block k (Array.getElem?_eq_some_iff.1 ho).1 (fun e => by
    have := hr k e.symm
    omega)).trans ho
 have inY : ∀ {row : Option Nat}, (∀ r, row = some r → X V r) → ∀ r, row = some r → Y r ∨ r = w.heap.size + 1 := fun h r e => .inl (hXY V r sV (h r e))
 refine ⟨w.heap.size + 1, [{ target := .collected w.heap.size, args := #[] }], V, { target := .fn (.func gf) lb, args := #[.func (.yield (w.heap.size + 1)) #[] #[]] }, V, gf, #[.func (.yield (w.heap.size + 1)) #[] #[]] ++ lb, V, ?_, ?_, ?_, ?_, fun _ => h1, ?_⟩
 ·rw [← hV, hR]
  exact run_enterLoop_outer _ _ _ _ _
 ·simp only [resolve, hg]
  simp [go_sem]
 ·intro f' hf'
  simp [Target.leads] at hf'
  subst hf'
  exact hFg
 ·simp [invoke, go_sem, eg]
 refine (hseq (w.heap.size + 1) (fun pre W => (I pre W ∧ W.heap[w.heap.size + 1]? = some (.loop (R .ready none))) ∧ W.heap[w.heap.size]? = some (.deferred (some [])))
  (fun pre W => ∃ c, (Ix c pre W ∧ W.heap[w.heap.size + 1]? = some (.loop (R .done (some c)))) ∧ W.heap[w.heap.size]? = some (.deferred (some []))) V bV (by have := hb0.size; omega)
  (fun s A B row hs hgr hr => ⟨⟨hI s A B row hs.1.1 hgr (inY hr), out (.inr rfl) hs.1.2 hgr hr⟩, out (.inl rfl) hs.2 hgr hr⟩)
  (fun s A B row ⟨c, hs⟩ hgr hr => ⟨c, ⟨hIx c s A B row hs.1.1 hgr (fun r e => ⟨by have := (hr r e).1; omega, (hr r e).2⟩), outN (.inr rfl) hs.1.2 hgr fun r e => (hr r e).1⟩, outN (.inl rfl) hs.2 hgr fun r e => (hr r e).1⟩) ?_ ⟨⟨iV, lV⟩, dV⟩).mono ?_
 ·rintro pre x W ⟨⟨hi, hl⟩, hd⟩ hlen
  have hlt := (Array.getElem?_eq_some_iff.1 hl).1
  have hy := run_yield (P := P) (args := encs x) hl (by rw [hR]; exact hps x)
  rw [hR] at hy
  refine ⟨fn, _, assign, body, hy, roundIn_of_wpIn hfn (hassign _ pre x W _ hlt hi ?_)⟩
  intro a' Wa hkr hkp hia hax
  have hla := hkr.2.trans hl
  have hda := hkr.1.trans hd
  have hlta := (Array.getElem?_eq_some_iff.1 hla).1
  refine ⟨_, run_beginRound hla (by rw [hR]), ?_⟩
  obtain ⟨Wb, hWb⟩ : ∃ Wb, Wa.putObj (w.heap.size + 1) (.loop { R .ready none with state := .busy }) = Wb := ⟨_, rfl⟩
  have hlb : Wb.heap[w.heap.size + 1]? = some (.loop { R .ready none with state := .busy }) := by rw [← hWb]; exact World.putObj_heap_same hlta
  have hdb : Wb.heap[w.heap.size]? = some (.deferred (some [])) := by rw [← hWb]; exact (World.putObj_heap_other (by omega)).trans hda
  have hib : I pre Wb := by rw [← hWb]; exact hI.put hia (.inr rfl) _
  have hab : Ax x a' Wb := by rw [← hWb]; exact (hAx x a').put (s := ()) hax rfl _
  have hkb : Kp W Wb := by rw [← hWb]; exact hKt hkp (hKb _ _)
  rw [hWb]
  refine wpIn_mono (hbody _ pre x a' Wb (Array.getElem?_eq_some_iff.1 hlb).1 hib hab hlen) ?_
  have fin : ∀ (j : Option Code) (Wc : World), Kr w.heap.size Wb Wc → ∃ We, Wc.putObj (w.heap.size + 1) (.loop (R (if j.isNone then .ready else .done) j)) = We ∧ (Instr.endRound (w.heap.size + 1) j).run P Wc = .ok (.bool j.isNone) We ∧ We.heap[w.heap.size + 1]? = some (.loop (R (if j.isNone then .ready else .done) j)) ∧ We.heap[w.heap.size]? = some (.deferred (some [])) := fun j Wc hk => by
   have hlc := hk.2.trans hlb
   have hr := run_endRound (P := P) j hlc
   refine ⟨_, rfl, ?_, World.putObj_heap_same (Array.getElem?_eq_some_iff.1 hlc).1, (World.putObj_heap_other (by omega)).trans (hk.1.trans hdb)⟩
   rw [hr, hR]
  rintro e a3 Wc hp
  cases e with
  | normal =>
    obtain ⟨hk, hkp3, hi3⟩ := hp
    obtain ⟨We, hWe, hr, hle, hde⟩ := fin none Wc hk
    exact ⟨_, _, hr, .inl ⟨rfl, ⟨⟨by rw [← hWe]; exact hI.put hi3 (.inr rfl) _, hle⟩, hde⟩, hKt hkb (hKt hkp3 (by rw [← hWe]; exact hKb _ _))⟩⟩
  | ret =>
    obtain ⟨hk, hkp3, hi3⟩ := hp
    obtain ⟨We, hWe, hr, hle, hde⟩ := fin (some .ret) Wc hk
    exact ⟨_, _, hr, .inr ⟨rfl, ⟨.ret, ⟨by rw [← hWe]; exact (hIx _).putObj _ hi3 (by omega) (hk.2.trans hlb) rfl, hle⟩, hde⟩, hKt hkb (hKt hkp3 (by rw [← hWe]; exact hKb _ _))⟩⟩
  | exit i =>
    obtain ⟨hk, hkp3, hi3⟩ := hp
    obtain ⟨We, hWe, hr, hle, hde⟩ := fin (some (.exit i)) Wc hk
    exact ⟨_, _, hr, .inr ⟨rfl, ⟨.exit i, ⟨by rw [← hWe]; exact (hIx _).putObj _ hi3 (by omega) (hk.2.trans hlb) rfl, hle⟩, hde⟩, hKt hkb (hKt hkp3 (by rw [← hWe]; exact hKb _ _))⟩⟩
  | goto t => exact hp.elim
  | panic ch => exact hp.elim
  | outgrown => exact hp.elim
 ·rintro e W2 ⟨⟨v, rfl⟩, (⟨xs, hS, ⟨⟨hi, hl⟩, hd⟩⟩ | ⟨pre, hSp, c, ⟨hi, hl⟩, hd⟩)⟩
  ·refine ⟨none, W2.putObj (w.heap.size + 1) (.loop { R .ready none with state := .exhausted }), ?_, hdone xs _ hS (hI.put hi (.inr rfl) _) ((World.putObj_heap_other (by omega)).trans hd)⟩
   have := run_endLoop (P := P) hl (by rw [hR]; simp)
   rw [this, hR]
  ·refine ⟨some c, W2.putObj (w.heap.size + 1) (.loop { R .done (some c) with state := .exhausted }), ?_, hstop c pre _ hSp ((hIx c).putObj _ hi (by omega) hl rfl) ((World.putObj_heap_other (by omega)).trans hd)⟩
   have := run_endLoop (P := P) hl (by rw [hR]; simp)
   rw [this, hR]
end
end
end Go.Proofs.YtkkjahhilcjpgaaDoor
