/-
  Layer 5: the landed parser takes a byte of parameters.
-/
import Derived.Test.YtdpdgdidfikphaaDoorHpF
import Derived.Deep.Cut
namespace Go.Proofs.YtdpdgdidfikphaaDoor
open Go.RowKit

theorem int_parts : ∃ i, Tryd.prog.info? 3 = some i ∧ i.zero = some (.int .i64 0) ∧ i.size = 1 ∧ i.bytes = 8 := ⟨_, rfl, rfl, rfl, rfl⟩
theorem ints_parts : ∃ i, Tryd.prog.info? 39 = some i ∧ i.zero = some (.slice none 0 0) ∧ i.size = 1 ∧ i.bytes = 24 := ⟨_, rfl, rfl, rfl, rfl⟩
/-- The first part of all. -/
theorem BoxP.first {w : World} {S : Nat → Prop} {g base : Nat} {b : PB} {vp vd : Value} {r : Nat → Value} (h : BoxP w S g base b vp vd r) :
    ∃ S', BoxP (((w.alloc (.cells #[.int .i64 (-1)] 3)).alloc (.cells #[.slice (some ⟨w.heap.size, 0, none⟩) 1 1] 39)).setCell ⟨g, 3, none⟩ (.slice (some ⟨w.heap.size + 1, 0, none⟩) 1 1)) S' g base { b with pars := [[-1]] } (.slice (some ⟨w.heap.size + 1, 0, none⟩) 1 1) vd (fun _ => .slice (some ⟨w.heap.size, 0, none⟩) 1 1) ∧
      Wid w S S' ∧ Fr w (((w.alloc (.cells #[.int .i64 (-1)] 3)).alloc (.cells #[.slice (some ⟨w.heap.size, 0, none⟩) 1 1] 39)).setCell ⟨g, 3, none⟩ (.slice (some ⟨w.heap.size + 1, 0, none⟩) 1 1)) S := by
  have hs : base ≤ w.heap.size := Nat.le_trans (h.lo _ h.sg) (Nat.le_of_lt (h.hi _ h.sg))
  have hgl := h.box.lt
  obtain ⟨w1, e1⟩ : ∃ w1, w.alloc (.cells #[.int .i64 (-1)] 3) = w1 := ⟨_, rfl⟩
  have s1 : w1.heap.size = w.heap.size + 1 := by rw [← e1]; simp
  obtain ⟨w2, e2⟩ : ∃ w2, w1.alloc (.cells #[.slice (some ⟨w.heap.size, 0, none⟩) 1 1] 39) = w2 := ⟨_, rfl⟩
  have s2 : w2.heap.size = w.heap.size + 2 := by rw [← e2]; simp [s1]
  have o1 : Own w1 base 3 1 (.slice (some ⟨w.heap.size, 0, none⟩) 1 1) 1 (is_ [-1]) := by
    rw [← e1]
    exact Own.made w base 3 1 (is_ [-1]) rfl hs (by simp [maxLen])
  have o2 : Own w2 base 39 1 (.slice (some ⟨w.heap.size + 1, 0, none⟩) 1 1) 1 [.slice (some ⟨w.heap.size, 0, none⟩) 1 1] := by
    rw [← e2, ← s1]
    exact Own.made w1 base 39 1 [.slice (some ⟨w.heap.size, 0, none⟩) 1 1] rfl (by omega) (by simp [maxLen])
  have o1' : Own w2 base 3 1 (.slice (some ⟨w.heap.size, 0, none⟩) 1 1) 1 (is_ [-1]) := by rw [← e2]; exact o1.alloc _
  have hb : Below w.heap.size w w2 := by
    rw [← e2, ← e1]
    exact ((Below.refl _ w).alloc (Nat.le_refl _) _).alloc (by simp) _
  rw [e1, e2]
  have hF : Fr w2 (w2.setCell ⟨g, 3, none⟩ (.slice (some ⟨w.heap.size + 1, 0, none⟩) 1 1)) (fun k => k = g) := Fr.setCell w2 g 3 _ _ rfl
  have bx : Blk w2 g 42 (parC b vp vd) := h.box.below hb hgl
  have hW : Wid w S (fun k => S k ∨ k = w.heap.size ∨ k = w.heap.size + 1) := fun k hk => by
    rcases hk with hk | hk | hk
    · exact .inl hk
    · right; omega
    · right; omega
  refine ⟨fun k => S k ∨ k = w.heap.size ∨ k = w.heap.size + 1, h.re (bx.set 3 _) (fun k hk => ?_) ⟨?_, fun k q hq => ?_, fun i j x hi hj => ?_, fun x hx => ?_, fun k x hk hx => ?_⟩ (fun _ hk => .inl hk) hW hs (fun k hk => ?_) rfl ⟨h.fit.how, by show (1 : Nat) ≤ 16; omega, fun q hq => ?_, h.fit.ni, h.fit.nd⟩, hW, ?_⟩
  · have hl := (h.dat.lt k hk).2
    exact (hF.block k (by omega) (fun e => h.no_dat (by rw [hk, e]))).trans (hb.block k hl)
  · exact o2.fr hF fun k hk e => o2.no_cells bx (by decide) (by rw [hk, e])
  · match k, hq with
    | 0, hq =>
      injection hq with hq
      subst hq
      exact o1'.fr hF fun k hk e => o1'.no_cells bx (by decide) (by rw [hk, e])
    | k + 1, hq => simp at hq
  · simp at hj; omega
  · injection hx with hx; exact .inr (.inr hx.symm)
  · injection hx with hx; exact .inr (.inl hx.symm)
  · have : (w2.setCell ⟨g, 3, none⟩ (.slice (some ⟨w.heap.size + 1, 0, none⟩) 1 1)).heap.size = w2.heap.size := by simp [World.setCell]
    rcases hk with hk | hk | hk
    · have := h.hi k hk; omega
    · omega
    · omega
  · rw [List.mem_singleton] at hq
    subst hq
    exact ⟨by simp, by simp, fun n hn => by rw [List.mem_singleton] at hn; subst hn; exact ⟨by decide, by decide⟩⟩
  · exact (Fr.of_below hb S).trans (hF.mono (S' := S) fun k hk => by rw [hk]; exact h.sg) (fun _ h => .inl h)

/-- What the tail of param finds. -/
structure Tail (w : World) (P X k j n q cp cx : Nat) (m : Int) (r : Nat → Value) (vp : Value) : Prop where
  hv : vp = .slice (some ⟨P, 0, none⟩) n cp
  hr : r k = .slice (some ⟨X, 0, none⟩) q cx
  cr : w.cell? ⟨P, k, none⟩ = some (.slice (some ⟨X, 0, none⟩) q cx)
  cx_ : w.cell? ⟨X, j, none⟩ = some (.int .i64 m)
  zr : w.frozen? ⟨P, k, none⟩ = false
  zx : w.frozen? ⟨X, j, none⟩ = false
theorem BoxP.tail {w : World} {S : Nat → Prop} {g base : Nat} {b : PB} {vp vd : Value} {r : Nat → Value} (h : BoxP w S g base b vp vd r) {d : List (List Int)} {o : List Int} {m : Int} (hp : b.pars = d ++ [o ++ [m]]) :
    ∃ P X cp cx, Tail w P X d.length o.length (d.length + 1) (o.length + 1) cp cx m r vp := by
  have row := h.par.row
  have one := h.par.one d.length (o ++ [m]) (by rw [hp]; simp)
  have el : b.pars.length = d.length + 1 := by rw [hp]; simp
  rw [el] at row
  rw [show (o ++ [m]).length = o.length + 1 by simp] at one
  obtain ⟨P, cp, rfl, _⟩ := row.some_ (by omega)
  obtain ⟨X, cx, hr, _⟩ := one.some_ (by omega)
  rw [hr] at one
  have hl : d.length < ((List.range (d.length + 1)).map r).length := by simp
  have hl2 : o.length < (is_ (o ++ [m])).length := by simp [is_]
  refine ⟨P, X, cp, cx, rfl, hr, ?_, ?_, row.frozenAt _ hl, one.frozenAt _ hl2⟩
  · rw [row.cellAt _ hl]
    simp [hr]
  · rw [one.cellAt _ hl2]
    simp [is_]

section
variable {w w1 w2 : World} {S : Nat → Prop} {g base : Nat} {b : PB} {v v' vp vp' vd : Value} {r : Nat → Value} {d : List (List Int)} {o : List Int} {m : Int}
theorem BoxP.figure (h : BoxP w S g base b vp vd r) (hp : b.pars = d ++ [o ++ [m]]) {X cx : Nat} (hr : r d.length = .slice (some ⟨X, 0, none⟩) (o.length + 1) cx) (hb : Below w.heap.size w w1) (x : Int) (hf : Fit { b with pars := d ++ [o ++ [x]] }) :
    BoxP (w1.setCell ⟨X, o.length, none⟩ (.int .i64 x)) S g base { b with pars := d ++ [o ++ [x]] } vp vd r ∧ Fr w (w1.setCell ⟨X, o.length, none⟩ (.int .i64 x)) S := by
  have hF1 : Fr w w1 (fun _ => False) := Fr.of_below hb _
  have hX : (r d.length).ownBlock = some X := by rw [hr]; rfl
  have hl : d.length < b.pars.length := by rw [hp]; simp
  have hSX : S X := h.par.so d.length X hl hX
  have hF2 : Fr w1 (w1.setCell ⟨X, o.length, none⟩ (.int .i64 x)) (fun k => k = X) := Fr.setCell w1 X o.length _ _ rfl
  have one := h.par.one d.length (o ++ [m]) (by rw [hp]; simp)
  have hgX : g ≠ X := fun e => h.no_one d.length hl (by rw [hX, e])
  have h1 := h.fr hF1 (fun _ _ h => h)
  have hpar := h1.par
  rw [hp] at hpar
  have hs := hpar.store (q := o ++ [m]) (by rw [List.length_append, List.length_singleton]; exact hr) o.length x
  have e2 : (o ++ [m]).set o.length x = o ++ [x] := by simp
  rw [e2] at hs
  have hs2 : (w1.setCell ⟨X, o.length, none⟩ (.int .i64 x)).heap.size = w1.heap.size := by simp [World.setCell]
  refine ⟨⟨h1.box.far (a := ⟨X, o.length, none⟩) hgX _, hs, h1.dat.fr hF2 fun k hk e => one.ne h.dat (by decide) X hX (by rw [← e]; exact hk), h.sg, h.sd, h.lo, fun k hk => by rw [hs2]; exact h1.hi k hk, hf⟩, ?_⟩
  exact (hF1.mono (S' := S) fun _ h => h.elim).trans (hF2.mono (S' := S) fun k hk => by rw [hk]; exact hSX) (fun _ h => .inl h)
theorem BoxP.part (h : BoxP w S g base b vp vd r) (hp : b.pars = d ++ [o ++ [m]]) {P cp n : Nat} (hv : vp = .slice (some ⟨P, 0, none⟩) n cp) (hg : w.grownBy w1 (r d.length).ownBlock)
    (own : Own w1 base 3 1 v' (o.length + 1 + 1) (is_ (o ++ [m] ++ [-1]))) (hk : ∀ k, v'.ownBlock = some k → (r d.length).ownBlock = some k ∨ w.heap.size ≤ k) (hf : Fit { b with pars := d ++ [o ++ [m] ++ [-1]] }) :
    ∃ S' r', BoxP (w1.setCell ⟨P, d.length, none⟩ v') S' g base { b with pars := d ++ [o ++ [m] ++ [-1]] } vp vd r' ∧ Wid w S S' ∧ Fr w (w1.setCell ⟨P, d.length, none⟩ v') S := by
  have hl : d.length < b.pars.length := by rw [hp]; simp
  have one := h.par.one d.length (o ++ [m]) (by rw [hp]; simp)
  have hP : vp.ownBlock = some P := by rw [hv]; rfl
  have hpar := h.par
  rw [hp] at hpar
  have own' : Own w1 base 3 1 v' (o ++ [m] ++ [-1]).length (is_ (o ++ [m] ++ [-1])) := by
    have e : List.length (o ++ [m] ++ [(-1 : Int)]) = o.length + 1 + 1 := by simp
    rw [e]
    exact own
  have hs := hpar.swap (q' := o ++ [m] ++ [-1]) hv hg own' hk
  have hF1 : Fr w w1 (fun k => (r d.length).ownBlock = some k) := Fr.of_grown hg
  have hF2 : Fr w1 (w1.setCell ⟨P, d.length, none⟩ v') (fun k => k = P) := Fr.setCell w1 P d.length _ _ rfl
  have hgP : g ≠ P := fun e => h.no_row (by rw [hP, e])
  have hs2 : (w1.setCell ⟨P, d.length, none⟩ v').heap.size = w1.heap.size := by simp [World.setCell]
  have base_ : base ≤ w.heap.size := Nat.le_trans (h.lo _ h.sg) (Nat.le_of_lt (h.hi _ h.sg))
  have hW : Wid w S (fun k => S k ∨ v'.ownBlock = some k) := fun k hk' => by
    rcases hk' with h1 | h1
    · exact .inl h1
    · rcases hk k h1 with h2 | h2
      · exact .inl (h.par.so d.length k hl h2)
      · exact .inr h2
  refine ⟨_, _, h.re ((h.box.fr hF1 (h.no_one d.length hl)).far (a := ⟨P, d.length, none⟩) hgP _) (fun k hk' => ?_) hs (fun _ h => .inl h) hW base_ (fun k hk' => ?_) rfl hf, hW, ?_⟩
  · have hlt := (h.dat.lt k hk').2
    exact (hF2.block k (Nat.lt_of_lt_of_le hlt hg.size) (fun e => h.par.row.ne h.dat (by decide) P hP (by rw [← e]; exact hk'))).trans (hF1.block k hlt (fun e => one.ne h.dat (by decide) k e hk'))
  · rw [hs2]
    rcases hk' with h1 | h1
    · exact Nat.lt_of_lt_of_le (h.hi k h1) hg.size
    · exact (own.lt k h1).2
  · exact (hF1.mono (S' := S) fun k hk' => h.par.so d.length k hl hk').trans (hF2.mono (S' := S) fun k hk' => by rw [hk']; exact h.par.sv P hP) (fun _ h => .inl h)
theorem BoxP.param (h : BoxP w S g base b vp vd r) (hb1 : Below w.heap.size w w1) (own : Own w1 base 3 1 v' 1 (is_ [-1])) (hn : ∀ k, v'.ownBlock = some k → w.heap.size ≤ k) (hg : w1.grownBy w2 vp.ownBlock)
    (row : Own w2 base 39 1 vp' (b.pars.length + 1) ((List.range b.pars.length).map r ++ [v'])) (hk : ∀ k, vp'.ownBlock = some k → vp.ownBlock = some k ∨ w.heap.size ≤ k) (hf : Fit { b with pars := b.pars ++ [[-1]] }) :
    ∃ S' r', BoxP (w2.setCell ⟨g, 3, none⟩ vp') S' g base { b with pars := b.pars ++ [[-1]] } vp' vd r' ∧ Wid w S S' ∧ Fr w (w2.setCell ⟨g, 3, none⟩ vp') S := by
  have hs := h.par.more (q := [-1]) hb1 own hn hg row
  have hF1 : Fr w w1 (fun _ => False) := Fr.of_below hb1 _
  have hF2 : Fr w1 w2 (fun k => vp.ownBlock = some k) := Fr.of_grown hg
  have hF3 : Fr w2 (w2.setCell ⟨g, 3, none⟩ vp') (fun k => k = g) := Fr.setCell w2 g 3 _ _ rfl
  have hs2 : (w2.setCell ⟨g, 3, none⟩ vp').heap.size = w2.heap.size := by simp [World.setCell]
  have bx : Blk w2 g 42 (parC b vp vd) := (h.box.fr hF1 (fun h => h)).fr hF2 h.no_row
  have base_ : base ≤ w.heap.size := Nat.le_trans (h.lo _ h.sg) (Nat.le_of_lt (h.hi _ h.sg))
  have hs12 : w.heap.size ≤ w2.heap.size := Nat.le_trans hb1.size hg.size
  have hW : Wid w S (fun k => S k ∨ v'.ownBlock = some k ∨ vp'.ownBlock = some k) := fun k hk' => by
    rcases hk' with h1 | h1 | h1
    · exact .inl h1
    · exact .inr (hn k h1)
    · rcases hk k h1 with h2 | h2
      · exact .inl (h.par.sv k h2)
      · exact .inr h2
  refine ⟨_, _, h.re (bx.set 3 vp') (fun k hk' => ?_) (hs.fr' hF3 (fun k hk' e => row.no_cells bx (by decide) (by rw [hk', e])) fun k x hk' hx e => ?_) (fun _ h => .inl h) hW base_ (fun k hk' => ?_) rfl hf, hW, ?_⟩
  · have hlt := (h.dat.lt k hk').2
    exact (hF3.block k (Nat.lt_of_lt_of_le hlt hs12) (fun e => h.no_dat (by rw [hk', e]))).trans ((hF2.block k (Nat.lt_of_lt_of_le hlt hb1.size) (fun e => h.par.row.ne h.dat (by decide) k e hk')).trans (hb1.block k hlt))
  · exact (hs.one k _ (List.getElem?_eq_getElem hk')).no_cells bx (by decide) (by rw [hx, e])
  · rw [hs2]
    rcases hk' with h1 | h1 | h1
    · exact Nat.lt_of_lt_of_le (h.hi k h1) hs12
    · exact Nat.lt_of_lt_of_le (own.lt k h1).2 hg.size
    · exact (row.lt k h1).2
  · exact ((hF1.mono (S' := S) fun _ h => h.elim).trans (hF2.mono (S' := S) fun k hk' => h.par.sv k hk') (fun _ h => .inl h)).trans (hF3.mono (S' := S) fun k hk' => by rw [hk']; exact h.sg) (fun _ h => .inl h)
end
end Go.Proofs.YtdpdgdidfikphaaDoor
