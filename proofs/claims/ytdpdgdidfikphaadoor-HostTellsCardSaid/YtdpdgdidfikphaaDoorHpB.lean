/-
  Layer 5: the landed parser in memory: its box, its rows; its small methods.
-/
import Derived.Test.YtdpdgdidfikphaaDoorHpR
import Derived.Test.YtdpdgdidfikphaaDoorHosC
import Derived.Test.YtdpdgdidfikphaaDoorMid
import Derived.Test.YtdpdgdidfikphaaDoorWpA
import Derived.Laws.EntriesVeiled
namespace Go.Proofs.YtdpdgdidfikphaaDoor
open Go.RowKit

def fnV (f : Nat) : Value := .func (.func f) #[] #[]
def fnOf (how : Nat) : Nat :=
  if how = 0 then 20 else if how = 1 then 34 else if how = 2 then 43 else if how = 3 then 44 else if how = 4 then 45 else 49
/-- A row of rows of numbers, each apart from the others. -/
structure ParR (w : World) (S : Nat → Prop) (base : Nat) (v : Value) (ps : List (List Int)) (r : Nat → Value) : Prop where
  row : Own w base 39 1 v ps.length ((List.range ps.length).map r)
  one : ∀ k q, ps[k]? = some q → Own w base 3 1 (r k) q.length (is_ q)
  apart : ∀ i j x, i < j → j < ps.length → (r i).ownBlock = some x → (r j).ownBlock ≠ some x
  sv : ∀ x, v.ownBlock = some x → S x
  so : ∀ k x, k < ps.length → (r k).ownBlock = some x → S x
def parC (b : PB) (vp vd : Value) : Array Value := #[fnV (fnOf b.how), .int .i64 b.kind, .int .u8 (b.priv.toNat : Int), vp, .string ⟨b.inter.toArray⟩, .int .u8 (b.final.toNat : Int), .string ⟨#[]⟩, vd, .bool b.spoilt]
structure BoxP (w : World) (S : Nat → Prop) (g base : Nat) (b : PB) (vp vd : Value) (r : Nat → Value) : Prop where
  box : Blk w g 42 (parC b vp vd)
  par : ParR w S base vp b.pars r
  dat : Own w base 5 1 vd b.data.length (bs b.data)
  sg : S g
  sd : ∀ x, vd.ownBlock = some x → S x
  lo : ∀ k, S k → base ≤ k
  hi : ∀ k, S k → k < w.heap.size
  fit : Fit b
def PBx (w : World) (S : Nat → Prop) (g base : Nat) (b : PB) : Prop := ∃ vp vd r, BoxP w S g base b vp vd r

section
variable {w w' : World} {S T : Nat → Prop} {g base : Nat} {b b' : PB} {v vp vd : Value} {ps : List (List Int)} {r : Nat → Value}
theorem ParR.fr (h : ParR w S base v ps r) (hf : Fr w w' T) (hn : ∀ k, S k → ¬ T k) : ParR w' S base v ps r :=
  ⟨h.row.fr hf fun k hk => hn k (h.sv k hk), fun k q hq => (h.one k q hq).fr hf fun x hx => hn x (h.so k x (List.getElem?_eq_some_iff.1 hq).1 hx), h.apart, h.sv, h.so⟩
/-- Where only other blocks turn. -/
theorem ParR.fr' (h : ParR w S base v ps r) (hf : Fr w w' T) (h1 : ∀ k, v.ownBlock = some k → ¬ T k) (h2 : ∀ k x, k < ps.length → (r k).ownBlock = some x → ¬ T x) : ParR w' S base v ps r :=
  ⟨h.row.fr hf h1, fun k q hq => (h.one k q hq).fr hf fun x hx => h2 k x (List.getElem?_eq_some_iff.1 hq).1 hx, h.apart, h.sv, h.so⟩
theorem ParR.nil (w : World) (S : Nat → Prop) (base : Nat) (r : Nat → Value) : ParR w S base (.slice none 0 0) [] r :=
  ⟨Own.nil_ _ _ _ _, fun _ _ hq => (by simp at hq), fun _ _ _ _ hj => absurd hj (Nat.not_lt_zero _), fun _ hx => (by cases hx), fun _ _ hk => absurd hk (Nat.not_lt_zero _)⟩
theorem BoxP.fr (h : BoxP w S g base b vp vd r) (hf : Fr w w' T) (hn : ∀ k, S k → ¬ T k) : BoxP w' S g base b vp vd r :=
  ⟨h.box.fr hf (hn g h.sg), h.par.fr hf hn, h.dat.fr hf (fun k hk => hn k (h.sd k hk)), h.sg, h.sd, h.lo, fun k hk => Nat.lt_of_lt_of_le (h.hi k hk) hf.size, h.fit⟩
theorem BoxP.no_row (h : BoxP w S g base b vp vd r) : vp.ownBlock ≠ some g := h.par.row.no_cells h.box (by decide)
theorem BoxP.no_one (h : BoxP w S g base b vp vd r) (k : Nat) (hk : k < b.pars.length) : (r k).ownBlock ≠ some g := (h.par.one k _ (List.getElem?_eq_getElem hk)).no_cells h.box (by decide)
theorem BoxP.no_dat (h : BoxP w S g base b vp vd r) : vd.ownBlock ≠ some g := h.dat.no_cells h.box (by decide)
/-- A field is written. -/
theorem BoxP.put (h : BoxP w S g base b vp vd r) (i : Nat) (u : Value) (hc : (parC b vp vd).setIfInBounds i u = parC b' vp vd) (hp : b'.pars = b.pars) (hd : b'.data = b.data) (hf : Fit b') :
    BoxP (w.setCell ⟨g, i, none⟩ u) S g base b' vp vd r := by
  have hF : Fr w (w.setCell ⟨g, i, none⟩ u) (fun k => k = g) := Fr.setCell w g i u _ rfl
  refine ⟨hc ▸ h.box.set i u, ?_, ?_, h.sg, h.sd, h.lo, fun k hk => Nat.lt_of_lt_of_le (h.hi k hk) hF.size, hf⟩
  · rw [hp]
    exact h.par.fr' hF (fun k hk e => h.no_row (by rw [hk, e])) fun k x hk hx e => h.no_one k hk (by rw [hx, e])
  · rw [hd]
    exact h.dat.fr hF fun k hk e => h.no_dat (by rw [hk, e])
theorem BoxP.frS (h : BoxP w S g base b vp vd r) (i : Nat) (u : Value) : Fr w (w.setCell ⟨g, i, none⟩ u) S := Fr.setCell w g i u _ h.sg
/-- Its cells. -/
theorem Blk.cells9 {t : TypeId} {a b c d e f i j k : Value} (h : Blk w g t #[a, b, c, d, e, f, i, j, k]) :
    w.cell? ⟨g, 0, none⟩ = some a ∧ w.cell? ⟨g, 1, none⟩ = some b ∧ w.cell? ⟨g, 2, none⟩ = some c ∧ w.cell? ⟨g, 3, none⟩ = some d ∧ w.cell? ⟨g, 4, none⟩ = some e ∧ w.cell? ⟨g, 5, none⟩ = some f ∧ w.cell? ⟨g, 6, none⟩ = some i ∧ w.cell? ⟨g, 7, none⟩ = some j ∧ w.cell? ⟨g, 8, none⟩ = some k :=
  ⟨h.cell 0, h.cell 1, h.cell 2, h.cell 3, h.cell 4, h.cell 5, h.cell 6, h.cell 7, h.cell 8⟩
/-- A box alone. -/
theorem BoxP.bare (hb : Blk w g 42 (parC b (.slice none 0 0) (.slice none 0 0))) (hB : base ≤ g) (hp : b.pars = []) (hd : b.data = []) (hf : Fit b) : BoxP w (fun k => k = g) g base b (.slice none 0 0) (.slice none 0 0) (fun _ => .slice none 0 0) :=
  ⟨hb, by rw [hp]; exact ParR.nil _ _ _ _, by rw [hd]; exact Own.nil_ _ _ _ _, rfl, fun x hx => (by cases hx), fun k hk => by rw [hk]; exact hB, fun k hk => by rw [hk]; exact hb.lt, hf⟩
end

/-- What a method leaves: the parser as it is then. -/
def MvE (S : Nat → Prop) (g base : Nat) (b' : PB) (v : Value) (w : World) (e : Ending) (w' : World) : Prop :=
  e = .returned v ∧ ∃ S', PBx w' S' g base b' ∧ Wid w S S' ∧ Fr w w' S
theorem MvE.same {S : Nat → Prop} {g base : Nat} {b : PB} {v : Value} {w : World} (h : PBx w S g base b) : MvE S g base b v w (.returned v) w :=
  ⟨rfl, S, h, Wid.refl _ _, Fr.refl _ _⟩
theorem MvE.put {w w' : World} {S : Nat → Prop} {g base : Nat} {b' : PB} {vp vd v : Value} {r : Nat → Value} (h : BoxP w' S g base b' vp vd r) (hf : Fr w w' S) : MvE S g base b' v w (.returned v) w' :=
  ⟨rfl, S, ⟨_, _, _, h⟩, Wid.refl _ _, hf⟩
theorem MvE.bare {w w' : World} {S : Nat → Prop} {g base : Nat} {b' : PB} {v : Value} (hb : Blk w' g 42 (parC b' (.slice none 0 0) (.slice none 0 0))) (hS : S g) (hB : base ≤ g) (hp : b'.pars = []) (hd : b'.data = []) (hf : Fit b') (hg : w.grownBy w' (some g)) : MvE S g base b' v w (.returned v) w' :=
  ⟨rfl, _, ⟨_, _, _, BoxP.bare hb hB hp hd hf⟩, fun k hk => .inl (by rw [hk]; exact hS), (Fr.of_grown hg).mono fun k hk => by injection hk with hk; rw [← hk]; exact hS⟩

set_option maxRecDepth 100000 in
set_option maxHeartbeats 4000000 in
theorem drop_any (w : World) (g : Nat) (cs : Array Value) (hb : Blk w g 42 cs) (hs : cs.size = 9) :
    Calls Tryd.prog 14 #[.pointer (some ⟨g, 0, none⟩)] w fun e w' => e = .returned (.tuple #[]) ∧ Blk w' g 42 (parC pb0 (.slice none 0 0) (.slice none 0 0)) ∧ w.grownBy w' (some g) := by
  go_enter Tryd.func14, Tryd.ntmps14
  go_wp2_with ((refine hb.wp_set (parC pb0 (.slice none 0 0) (.slice none 0 0)) (by rw [hs]; rfl) (by rw [hs]; rfl) rfl rfl _ _ rfl rfl rfl ?_; intro w2 hb2 hg2))
  go_end0
  exact ⟨rfl, hb2, hg2⟩
set_option maxRecDepth 100000 in
set_option maxHeartbeats 4000000 in
theorem begin_any (w : World) (g : Nat) (cs : Array Value) (hb : Blk w g 42 cs) (hs : cs.size = 9) :
    Calls Tryd.prog 28 #[.pointer (some ⟨g, 0, none⟩)] w fun e w' => e = .returned (.tuple #[]) ∧ Blk w' g 42 (parC pbE (.slice none 0 0) (.slice none 0 0)) ∧ w.grownBy w' (some g) := by
  go_enter Tryd.func28, Tryd.ntmps28
  go_wp2_with ((refine hb.wp_set (parC pbE (.slice none 0 0) (.slice none 0 0)) (by rw [hs]; rfl) (by rw [hs]; rfl) rfl rfl _ _ rfl rfl rfl ?_; intro w2 hb2 hg2))
  go_end0
  exact ⟨rfl, hb2, hg2⟩
set_option maxRecDepth 100000 in
theorem nothing_any (c : UInt8) (w : World) (q : Bool) (hq : decide (noneC c) = q) : Calls Tryd.prog 39 #[.int .u8 (c.toNat : Int)] w fun e w' => e = .returned (.bool q) ∧ w = w' := by
  have HQ := Lib.hid hq
  clear hq
  by_cases h1 : c.toNat < 32
  · have E := Lib.hid (show q = true by rw [← HQ.out]; exact decide_eq_true (.inl h1))
    go_enter Tryd.func39, Tryd.ntmps39
    go_wp2
    go_ret
    exact ⟨ret_b E.out.symm, rfl⟩
  · have t1 : decide ((c.toNat : Int) < 32) = false := by simp; omega
    cases h2 : ((c.toNat : Int) == 127) with
    | true =>
      have E := Lib.hid (show q = true by rw [← HQ.out]; exact decide_eq_true (.inr (by have := eq_of_beq h2; omega)))
      go_enter Tryd.func39, Tryd.ntmps39
      go_wp2
      go_ret
      exact ⟨ret_b E.out.symm, rfl⟩
    | false =>
      have E := Lib.hid (show q = false by rw [← HQ.out]; exact decide_eq_false (fun h => by have := ne_of_beq_false h2; rcases h with h | h <;> omega))
      go_enter Tryd.func39, Tryd.ntmps39
      go_wp2
      go_ret
      exact ⟨ret_b E.out.symm, rfl⟩
end Go.Proofs.YtdpdgdidfikphaaDoor
