/-
  A row of the call's own, said cell by cell, whatever of its block may be frozen behind its room: made, made of a string, appended to from any source (nil and empty ones too, and strings), stored into.
-/
import Derived.Test.YtkkjahhilcjpgaaDoorG01
import Derived.Laws.IdiomStrings
import Derived.Lib.AppendStr
import Derived.ArgAppend
namespace Go.Proofs.YtkkjahhilcjpgaaDoor
open Go.RowKit
section
def Own (w : World) (base : Nat) (e : TypeId) (sz : Nat) (v : Value) (n : Nat) (xs : List Value) : Prop :=
 xs.length = n * sz ∧ ((v = .slice none 0 0 ∧ n = 0) ∨ ∃ g cap, v = .slice (some ⟨g, 0, none⟩) n cap ∧ base ≤ g ∧ (∃ cur fz, w.heap[g]? = some (.cells cur e fz)) ∧ n ≤ cap ∧ cap ≤ maxLen ∧
  (∀ j u, xs[j]? = some u → w.cell? ⟨g, j, none⟩ = some u) ∧ (∀ j, j < cap * sz → (w.cell? ⟨g, j, none⟩).isSome = true ∧ w.frozen? ⟨g, j, none⟩ = false))
section
variable {w w' : World} {base : Nat} {e : TypeId} {sz : Nat} {v : Value} {n : Nat} {xs : List Value}
theorem addr_add (g j : Nat) : (⟨g, 0, none⟩ : Addr).add j = ⟨g, j, none⟩ := by unfold Addr.add; split <;> simp_all
theorem addr_add_at (g o j : Nat) : (⟨g, o, none⟩ : Addr).add j = ⟨g, o + j, none⟩ := by unfold Addr.add; split <;> simp_all
theorem Own.nil_ (w : World) (base : Nat) (e : TypeId) (sz : Nat) : Own w base e sz (.slice none 0 0) 0 [] := ⟨by simp, .inl ⟨rfl, rfl⟩⟩
theorem Own.of (h : w.ownsRow base e sz v n xs) : Own w base e sz v n xs := by
 refine ⟨h.1, ?_⟩
 rcases h.2 with hn | ⟨g, cap, cur, rfl, hb, hh, hnc, hcm, hcs, ht⟩
 ·exact .inl hn
 ·refine .inr ⟨g, cap, rfl, hb, ⟨cur, _, hh⟩, hnc, hcm, fun j u hu => ?_, fun j hj => ?_⟩
  ·have := h.cells (g := g) rfl j u hu
   rwa [addr_add] at this
  ·rw [cell_of_row w g j cur e (0, 0) hh]
   exact ⟨by simp; omega, frozen_of_row w g j cur e hh⟩
theorem Own.lt (h : Own w base e sz v n xs) : ∀ k, v.ownBlock = some k → base ≤ k ∧ k < w.heap.size := by
 intro k hk
 rcases h.2 with ⟨rfl, _⟩ | ⟨g, cap, rfl, hb, ⟨cur, fz, hh⟩, _⟩
 ·simp [Value.ownBlock] at hk
 ·simp [Value.ownBlock] at hk
  subst hk
  exact ⟨hb, (Array.getElem?_eq_some_iff.1 hh).1⟩
theorem Own.keep (h : Own w base e sz v n xs) (hk : ∀ k, v.ownBlock = some k → w'.heap[k]? = w.heap[k]?) : Own w' base e sz v n xs := by
 refine ⟨h.1, ?_⟩
 rcases h.2 with hn | ⟨g, cap, rfl, hb, ⟨cur, fz, hh⟩, hnc, hcm, hx, hc⟩
 ·exact .inl hn
 ·have hg : w'.heap[g]? = w.heap[g]? := hk g rfl
  refine .inr ⟨g, cap, rfl, hb, ⟨cur, fz, hg.trans hh⟩, hnc, hcm, fun j u hu => ?_, fun j hj => ?_⟩
  ·exact (World.cell?_of_block (w := w) (a := ⟨g, j, none⟩) hg).trans (hx j u hu)
  ·rw [World.cell?_of_block (w := w) (a := ⟨g, j, none⟩) hg, World.frozen?_of_block (w := w) (a := ⟨g, j, none⟩) hg]
   exact hc j hj
theorem Own.kept {row : Option Nat} (h : Own w base e sz v n xs) (hg : w.grownBy w' row) (hne : v.ownBlock = none ∨ v.ownBlock ≠ row) : Own w' base e sz v n xs :=
 h.keep fun k hk => hg.block k (h.lt k hk).2 (by
  rcases hne with hn | hn
  ·rw [hk] at hn; cases hn
  ·rwa [hk] at hn)
theorem Own.below {B : Nat} (h : Own w base e sz v n xs) (hb : Below B w w') (hB : ∀ k, v.ownBlock = some k → k < B) : Own w' base e sz v n xs := h.keep fun k hk => hb.block k (hB k hk)
theorem Own.behind (h : Own w base e sz v n xs) (hb : Below w.heap.size w w') : Own w' base e sz v n xs := h.below hb fun k hk => (h.lt k hk).2
theorem Own.alloc (h : Own w base e sz v n xs) (o : Obj) : Own (w.alloc o) base e sz v n xs := h.keep fun k hk => Below.heap_alloc w o k (h.lt k hk).2
theorem Own.drew (h : Own w base e sz v n xs) : Own w.drew base e sz v n xs := h
theorem Own.drewN (h : Own w base e sz v n xs) (m : Nat) : Own (w.drewN m) base e sz v n xs := h
theorem Own.mono {base' : Nat} (h : Own w base e sz v n xs) (hB : base' ≤ base) : Own w base' e sz v n xs := by
 refine ⟨h.1, ?_⟩
 rcases h.2 with hn | ⟨g, cap, rfl, hb, r⟩
 ·exact .inl hn
 ·exact .inr ⟨g, cap, rfl, by omega, r⟩
theorem Own.form (h : Own w base e sz v n xs) : ∃ A c, v = .slice A n c ∧ Rd w A xs := by
 rcases h.2 with ⟨rfl, rfl⟩ | ⟨g, cap, rfl, hb, ⟨cur, fz, hh⟩, hnc, hcm, hx, hc⟩
 ·refine ⟨none, 0, rfl, fun hp => ?_⟩
  have := h.1
  simp at this
  subst this
  simp at hp
 ·exact ⟨_, cap, rfl, fun _ => ⟨g, 0, rfl, (Array.getElem?_eq_some_iff.1 hh).1, fun k u hu => by rw [Nat.zero_add]; exact hx k u hu⟩⟩
theorem Own.rd {A : Option Addr} {c : Nat} (h : Own w base e sz (.slice A n c) n xs) : Rd w A xs := by
 obtain ⟨A', c', hv, hr⟩ := h.form
 injection hv with hA
 subst hA
 exact hr
theorem Own.some_ (h : Own w base e sz v n xs) (hn : 0 < n) : ∃ g cap, v = .slice (some ⟨g, 0, none⟩) n cap ∧ base ≤ g ∧ g < w.heap.size ∧ n ≤ cap := by
 rcases h.2 with ⟨_, h0⟩ | ⟨g, cap, rfl, hb, ⟨cur, fz, hh⟩, hnc, _⟩
 ·omega
 ·exact ⟨g, cap, rfl, hb, (Array.getElem?_eq_some_iff.1 hh).1, hnc⟩
theorem tag_setCell {g : Nat} {cur : Array Value} {fz : Nat × Nat} (h : w.heap[g]? = some (.cells cur e fz)) (j : Nat) (u : Value) : ∃ cur', (w.setCell ⟨g, j, none⟩ u).heap[g]? = some (.cells cur' e fz) := by
 rw [setCell_eq_setRow w g j cur e fz u h]
 exact ⟨_, setRow_heap w g cur _ e fz h⟩
theorem tag_setCells {g : Nat} {fz : Nat × Nat} : ∀ (vs : List Value) (o : Nat) (w : World) (cur : Array Value), w.heap[g]? = some (.cells cur e fz) → ∃ cur', (w.setCells g o vs).heap[g]? = some (.cells cur' e fz)
 | [], _, _, cur, h => ⟨cur, h⟩
 | v :: r, o, w, cur, h => by
   obtain ⟨cur', h'⟩ := tag_setCell h o v
   exact tag_setCells r (o + 1) _ cur' h'
theorem grown_setCells (g : Nat) : ∀ (vs : List Value) (o : Nat) (w : World), w.grownBy (w.setCells g o vs) (some g)
 | [], _, w => ⟨rfl, rfl, rfl, Nat.le_refl _, fun _ _ _ => rfl⟩
 | v :: r, o, w => by
   have ih := grown_setCells g r (o + 1) (w.setCell ⟨g, o, none⟩ v)
   have hs : (w.setCell ⟨g, o, none⟩ v).heap.size = w.heap.size := by simp [World.setCell]
   exact ⟨ih.os, ih.tape, ih.output, by rw [← hs]; exact ih.size, fun k hk hne => (ih.block k (by omega) hne).trans (Below.heap_setCell w ⟨g, o, none⟩ v k (fun e => hne (by rw [e])))⟩
theorem grown_setCell (g j : Nat) (u : Value) (w : World) : w.grownBy (w.setCell ⟨g, j, none⟩ u) (some g) :=
 ⟨rfl, rfl, rfl, by simp [World.setCell], fun k _ hne => Below.heap_setCell w ⟨g, j, none⟩ u k (fun e => hne (by rw [e]))⟩
theorem Own.stored {g cap : Nat} (h : Own w base e sz (.slice (some ⟨g, 0, none⟩) n cap) n xs) (j : Nat) (u : Value) : Own (w.setCell ⟨g, j, none⟩ u) base e sz (.slice (some ⟨g, 0, none⟩) n cap) n (xs.set j u) := by
 refine ⟨by simpa using h.1, ?_⟩
 rcases h.2 with ⟨h', _⟩ | ⟨g', cap', hv, hb, ⟨cur, fz, hh⟩, hnc, hcm, hx, hc⟩
 ·simp at h'
 ·simp only [Value.slice.injEq, Option.some.injEq, Addr.mk.injEq, and_true, true_and] at hv
  obtain ⟨rfl, rfl⟩ := hv
  obtain ⟨cur', hh'⟩ := tag_setCell hh j u
  refine .inr ⟨g, cap, rfl, hb, ⟨cur', fz, hh'⟩, hnc, hcm, fun i x hi => ?_, fun i hi => ?_⟩
  ·by_cases e : j = i
   ·subst e
    have hj : j < xs.length := by have := (List.getElem?_eq_some_iff.1 hi).1; simpa using this
    rw [List.getElem?_set_self hj] at hi
    injection hi with hi
    subst hi
    exact World.cell?_setCell_same _ _ _ (hx j _ (List.getElem?_eq_getElem hj))
   ·rw [List.getElem?_set_ne e] at hi
    rw [World.cell?_setCell_other _ _ _ _ (fun he => e (congrArg Addr.off he))]
    exact hx i x hi
  ·refine ⟨?_, by rw [World.frozen?_setCell]; exact (hc i hi).2⟩
   by_cases e : j = i
   ·subst e
    obtain ⟨y, hy⟩ := Option.isSome_iff_exists.1 (hc j hi).1
    rw [World.cell?_setCell_same _ _ _ hy]; rfl
   ·rw [World.cell?_setCell_other _ _ _ _ (fun he => e (congrArg Addr.off he))]
    exact (hc i hi).1
theorem Own.cellAt {g cap : Nat} (h : Own w base e sz (.slice (some ⟨g, 0, none⟩) n cap) n xs) (j : Nat) (hj : j < xs.length) : w.cell? ⟨g, j, none⟩ = some xs[j] := by
 rcases h.2 with ⟨h', _⟩ | ⟨g', cap', hv, hb, _, hnc, hcm, hx, hc⟩
 ·simp at h'
 ·simp only [Value.slice.injEq, Option.some.injEq, Addr.mk.injEq, and_true, true_and] at hv
  obtain ⟨rfl, rfl⟩ := hv
  exact hx j _ (List.getElem?_eq_getElem hj)
theorem Own.frozenAt {g cap : Nat} (h : Own w base e sz (.slice (some ⟨g, 0, none⟩) n cap) n xs) (j : Nat) (hj : j < xs.length) : w.frozen? ⟨g, j, none⟩ = false := by
 rcases h.2 with ⟨h', _⟩ | ⟨g', cap', hv, hb, _, hnc, hcm, hx, hc⟩
 ·simp at h'
 ·simp only [Value.slice.injEq, Option.some.injEq, Addr.mk.injEq, and_true, true_and] at hv
  obtain ⟨rfl, rfl⟩ := hv
  have := h.1
  have h2 : n * sz ≤ cap * sz := Nat.mul_le_mul_right _ hnc
  exact (hc j (by omega)).2
end
section
variable {P : Program} (w : World)
theorem run_app (base : Nat) (t ty e : TypeId) (i : TypeInfo) (z : Value) (sz bytes : Nat) (ht : P.underlying t = some (.slice e)) (hi : P.info? e = some i) (hz : i.zero = some z) (hsize : i.size = sz) (hby : i.bytes = bytes) (hzs : z.cells.size = sz) (hsz : 0 < sz)
 (v : Value) (n : Nat) (xs : List Value) (hown : Own w base e sz v n xs) (A : Option Addr) (m c : Nat) (news : List Value) (hl : news.length = m * sz) (hr : Rd w A news) (h1 : ∀ u ∈ news, u.oneCell' = true)
 (h63 : n + m ≤ maxLen) (hlim : (n + m) * bytes ≤ 140737488355328) (hbase : base ≤ w.heap.size) :
 ∃ v' w', (Builtin.append_ #[t, t] ty #[v, .slice A m c]).run P w = .ok v' w' ∧ Own w' base e sz v' (n + m) (xs ++ news) ∧ w.grownBy w' v.ownBlock := by
 by_cases hm : m = 0
 ·subst hm
  have hn : news = [] := List.eq_nil_of_length_eq_zero (by simpa using hl)
  subst hn
  refine ⟨v, w, ?_, by simpa using hown, ⟨rfl, rfl, rfl, Nat.le_refl _, fun _ _ _ => rfl⟩⟩
  rcases hown.2 with ⟨rfl, rfl⟩ | ⟨g, cap, rfl, _, _, hnc, _⟩
  ·rcases A with _ | a
   ·simp [Builtin.append_, run_underlying ht, sizeOf, typeInfo, hi, Builtin.lenOf, Builtin.firstCells]
   ·simp [Builtin.append_, run_underlying ht, sizeOf, typeInfo, hi, Builtin.lenOf, Builtin.firstCells, loadCells, loadCellsFrom]
  ·rcases A with _ | a
   ·simp [Builtin.append_, run_underlying ht, sizeOf, typeInfo, hi, Builtin.lenOf, Builtin.firstCells, hnc, storeCells]
   ·simp [Builtin.append_, run_underlying ht, sizeOf, typeInfo, hi, Builtin.lenOf, Builtin.firstCells, hnc, storeCells, loadCells, loadCellsFrom]
 ·have hp : 0 < news.length := by rw [hl]; exact Nat.mul_pos (by omega) hsz
  obtain ⟨b, o, rfl, hb, hc⟩ := hr hp
  have hnews : ∀ j u, news[j]? = some u → w.cell? ((⟨b, o, none⟩ : Addr).add j) = some u := fun j u hu => by rw [addr_add_at]; exact hc j u hu
  rcases hown.2 with ⟨rfl, rfl⟩ | ⟨g, cap, rfl, hbg, ⟨cur, fz, hh⟩, hnc, hcm, hx, hcl⟩
  ·obtain ⟨v', w', r1, r2, r3, _⟩ := run_append_own (P := P) w base t ty e i z sz bytes ht hi hz hsize hby hzs hsz (.slice none 0 0) 0 xs ⟨hown.1, .inl ⟨rfl, rfl⟩⟩ ⟨b, o, none⟩ m c news hl hnews h1 h63 hlim hbase
   exact ⟨v', w', r1, Own.of r2, r3⟩
  ·have hxl : xs.length = n * sz := hown.1
   have hmul : (n + m) * sz = n * sz + m * sz := Nat.add_mul n m sz
   by_cases hroom : n + m ≤ cap
   ·have hcap : (n + m) * sz ≤ cap * sz := Nat.mul_le_mul_right _ hroom
    have hrun := run_append_room_cells (P := P) w t ty e i ht hi g 0 n cap ⟨b, o, none⟩ m c news (by rw [hsize]; exact hl) hnews h1 hroom
     (fun j hj => by rw [hsize, Nat.zero_add]; exact (hcl _ (by omega)).1) (fun j hj => by rw [hsize, Nat.zero_add]; exact (hcl _ (by omega)).2)
    rw [hsize, Nat.zero_add] at hrun
    obtain ⟨cur', hh'⟩ := tag_setCells news (n * sz) w cur hh
    refine ⟨_, _, hrun, ⟨by rw [List.length_append, hxl, hl, hmul], .inr ⟨g, cap, rfl, hbg, ⟨cur', fz, hh'⟩, hroom, hcm, fun j u hu => ?_, fun j hj => ?_⟩⟩, grown_setCells g news _ w⟩
    ·by_cases hj : j < xs.length
     ·rw [List.getElem?_append_left hj] at hu
      rw [World.cell?_setCells_out g news _ w ⟨g, j, none⟩ (fun _ _ => .inl (by show j < n * sz; omega))]
      exact hx j u hu
     ·rw [List.getElem?_append_right (by omega)] at hu
      obtain ⟨hj2, hu2⟩ := List.getElem?_eq_some_iff.1 hu
      have := World.cell?_setCells_in g news (n * sz) w (fun k hk => (hcl _ (by omega)).1) (j - xs.length) hj2
      rw [show n * sz + (j - xs.length) = j by omega] at this
      rw [this, hu2]
    ·refine ⟨?_, by rw [World.frozen?_setCells]; exact (hcl j hj).2⟩
     by_cases hin : n * sz ≤ j ∧ j < n * sz + news.length
     ·have := World.cell?_setCells_in g news (n * sz) w (fun k hk => (hcl _ (by omega)).1) (j - n * sz) (by omega)
      rw [show n * sz + (j - n * sz) = j by omega] at this
      rw [this]; rfl
     ·rw [World.cell?_setCells_out g news _ w ⟨g, j, none⟩ (fun _ _ => by show j < n * sz ∨ n * sz + news.length ≤ j; omega)]
      exact (hcl j hj).1
   ·have holds : ∀ j u, xs[j]? = some u → w.cell? ((⟨g, 0, none⟩ : Addr).add j) = some u := fun j u hu => by rw [addr_add]; exact hx j u hu
    have hsmall : n + m ≤ 9223372036854775807 := by simp only [maxLen] at h63; omega
    have hrun := run_append_grow (P := P) w t ty e i z ht hi hz ⟨g, 0, none⟩ n cap xs (by rw [hsize]; exact hxl) holds ⟨b, o, none⟩ m c news (by rw [hsize]; exact hl) hnews (by omega) (by omega) (by rw [hby]; exact growslice_fits (by omega) hlim)
    have hge := grownCap_ge w (n + m) cap e
    have hcm2 : grownCap w (n + m) cap e ≤ maxLen := grownCap_le_maxLen w (n + m) cap e h63
    have hrow : (w.drew.alloc (.cells (xs.toArray ++ news.toArray ++ Builtin.zeroCells z.cells (grownCap w (n + m) cap e - (n + m))) e)).ownsRow base e sz (.slice (some ⟨w.heap.size, 0, none⟩) (n + m) (grownCap w (n + m) cap e)) (n + m) (xs ++ news) := by
     have hlen : (xs ++ news).length = (n + m) * sz := by rw [List.length_append, hxl, hl, hmul]
     refine ⟨hlen, .inr ⟨w.heap.size, _, _, rfl, hbase, heap_alloc_new w.drew _, hge, hcm2, ?_, ?_⟩⟩
     ·simp only [Array.size_append, List.size_toArray, size_zeroCells, hzs, hxl, hl]
      rw [← hmul, ← Nat.add_mul]
      congr 1
      omega
     ·simp only [Array.toList_append, List.append_assoc]
      rw [← List.append_assoc, ← hlen]
      exact List.take_left
    exact ⟨_, _, hrun, Own.of hrow, ⟨rfl, rfl, rfl, by simp, fun k hk _ => Below.heap_alloc w.drew _ k hk⟩⟩
theorem wp_app {o : Oper} {a : Act} {K : Act → World → Prop} {Q : Exit → Act → World → Prop} (s x : Operand) (t : TypeId) (ho : o.op = .call { callee := .builtin .append, args := #[s, x], argTypes := #[t, t] })
 (base : Nat) (e : TypeId) (i : TypeInfo) (z : Value) (sz bytes : Nat) (ht : P.underlying t = some (.slice e)) (hi : P.info? e = some i) (hz : i.zero = some z) (hsize : i.size = sz) (hby : i.bytes = bytes) (hzs : z.cells.size = sz) (hsz : 0 < sz)
 (v : Value) (n : Nat) (xs : List Value) (hs : a.eval s = v) (hown : Own w base e sz v n xs) (A : Option Addr) (m c : Nat) (news : List Value) (hx : a.eval x = .slice A m c) (hl : news.length = m * sz) (hr : Rd w A news) (h1 : ∀ u ∈ news, u.oneCell' = true)
 (h63 : n + m ≤ maxLen) (hlim : (n + m) * bytes ≤ 140737488355328) (hbase : base ≤ w.heap.size)
 (h : ∀ v' w', Own w' base e sz v' (n + m) (xs ++ news) → w.grownBy w' v.ownBlock → K (a.put o.dst v') w') : o.wp P a w K Q := by
 obtain ⟨v', w', hrun, h2, h3⟩ := run_app (P := P) w base t o.type e i z sz bytes ht hi hz hsize hby hzs hsz v n xs hown A m c news hl hr h1 h63 hlim hbase
 unfold Oper.wp execOp
 simp only [ho, resolve, invoke, builtin, Sem.run_bind, Sem.run_pure, Result.andThen_ok, List.map_toArray, List.map_cons, List.map_nil, hs, hx, hrun]
 exact h v' w' h2 h3
theorem list_app {ops : Array Oper} {rest : List Oper} {o : Oper} {a : Act} {Q : Exit → Act → World → Prop} (hgd : o.guard = none) (s x : Operand) (t : TypeId) (ho : o.op = .call { callee := .builtin .append, args := #[s, x], argTypes := #[t, t] })
 (base : Nat) (e : TypeId) (i : TypeInfo) (z : Value) (sz bytes : Nat) (ht : P.underlying t = some (.slice e)) (hi : P.info? e = some i) (hz : i.zero = some z) (hsize : i.size = sz) (hby : i.bytes = bytes) (hzs : z.cells.size = sz) (hsz : 0 < sz)
 (v : Value) (n : Nat) (xs : List Value) (hs : a.eval s = v) (hown : Own w base e sz v n xs) (A : Option Addr) (m c : Nat) (news : List Value) (hx : a.eval x = .slice A m c) (hl : news.length = m * sz) (hr : Rd w A news) (h1 : ∀ u ∈ news, u.oneCell' = true)
 (h63 : n + m ≤ maxLen) (hlim : (n + m) * bytes ≤ 140737488355328) (hbase : base ≤ w.heap.size)
 (h : ∀ v' w', Own w' base e sz v' (n + m) (xs ++ news) → w.grownBy w' v.ownBlock → wpList P ops Q rest (a.put o.dst v') w') : wpList P ops Q (o :: rest) a w :=
 wpList_plain hgd fun _ hK => wp_app w s x t ho base e i z sz bytes ht hi hz hsize hby hzs hsz v n xs hs hown A m c news hx hl hr h1 h63 hlim hbase fun v' w' h2 h3 => hK _ _ (h v' w' h2 h3)
theorem strCells_bs (s : ByteArray) : Lib.strCells s = bs s.data.toList := by simp [Lib.strCells, bs, B8]
theorem run_conv (base : Nat) (src dst e : TypeId) (s : ByteArray) (hs : P.underlying src = some .string) (hd : P.underlying dst = some (.slice e)) (he : P.underlying e = some (.int .u8)) (hm : s.size ≤ maxLen) (hbase : base ≤ w.heap.size) :
 ∃ v' w', (convert src dst (.string s)).run P w = .ok v' w' ∧ Own w' base e 1 v' s.size (bs s.data.toList) ∧ w.grownBy w' none := by
 have hge := grownCap_ge w s.size 0 e
 have hle := grownCap_le_maxLen w s.size 0 e hm
 have hsz : (bytesRow s (grownCap w s.size 0 e)).size = grownCap w s.size 0 e := by
  simp only [bytesRow, Array.size_append, Array.size_map, Array.size_replicate]
  show s.size + _ = _
  omega
 refine ⟨_, _, run_bytes_of_string w src dst e s hs hd he, ⟨?_, .inr ⟨w.heap.size, grownCap w s.size 0 e, rfl, hbase, ⟨_, _, heap_alloc_new w.drew _⟩, hge, hle, fun j u hu => ?_, fun j hj => ?_⟩⟩, ⟨rfl, rfl, rfl, by simp, fun k hk _ => Below.heap_alloc w.drew _ k hk⟩⟩
 ·rw [bs_length, Array.length_toList]; exact (Nat.mul_one _).symm
 ·obtain ⟨hj, hu2⟩ := List.getElem?_eq_some_iff.1 hu
  have hj2 : j < s.data.size := by rw [bs_length, Array.length_toList] at hj; exact hj
  have hc := World.cell?_alloc_mark w.drew (bytesRow s (grownCap w s.size 0 e)) e ((bytesRow s (grownCap w s.size 0 e)).size, (bytesRow s (grownCap w s.size 0 e)).size + 1) j
  refine hc.trans ?_
  rw [bytesRow_at s _ j hj2, ← hu2]
  simp [bs, B8]
 ·have hc := World.cell?_alloc_mark w.drew (bytesRow s (grownCap w s.size 0 e)) e ((bytesRow s (grownCap w s.size 0 e)).size, (bytesRow s (grownCap w s.size 0 e)).size + 1) j
  have hf := World.frozen?_alloc_mark w.drew (bytesRow s (grownCap w s.size 0 e)) e (bytesRow s (grownCap w s.size 0 e)).size ((bytesRow s (grownCap w s.size 0 e)).size + 1) j
  refine ⟨?_, ?_⟩
  ·have h2 : ((bytesRow s (grownCap w s.size 0 e))[j]?).isSome = true := by simp; omega
   rw [← hc] at h2
   exact h2
  ·refine hf.trans ?_
   rw [Bool.and_eq_false_iff]
   left
   rw [decide_eq_false_iff_not]
   omega
theorem list_conv {ops : Array Oper} {rest : List Oper} {o : Oper} {a : Act} {Q : Exit → Act → World → Prop} (hgd : o.guard = none) (x : Operand) (src dst : TypeId) (ho : o.op = .convert src dst x)
 (base : Nat) (e : TypeId) (s : ByteArray) (hx : a.eval x = .string s) (hs : P.underlying src = some .string) (hd : P.underlying dst = some (.slice e)) (he : P.underlying e = some (.int .u8)) (hm : s.size ≤ maxLen) (hbase : base ≤ w.heap.size)
 (h : ∀ v' w', Own w' base e 1 v' s.size (bs s.data.toList) → w.grownBy w' none → wpList P ops Q rest (a.put o.dst v') w') : wpList P ops Q (o :: rest) a w := by
 refine wpList_plain hgd fun K hK => ?_
 obtain ⟨v', w', hrun, h2, h3⟩ := run_conv (P := P) w base src dst e s hs hd he hm hbase
 unfold Oper.wp execOp
 simp only [ho, hx, Sem.run_bind, hrun, Result.andThen_ok, Sem.run_pure]
 exact hK _ _ (h v' w' h2 h3)
theorem run_app_str (base : Nat) (t u ty e : TypeId) (i : TypeInfo) (ht : P.underlying t = some (.slice e)) (hu : P.underlying u = some .string) (hi : P.info? e = some i) (hz : i.zero = some (.int .u8 0)) (hsize : i.size = 1) (hby : i.bytes = 1)
 (v : Value) (n : Nat) (xs : List Value) (hown : Own w base e 1 v n xs) (s : ByteArray) (h63 : n + s.size ≤ maxLen) (hlim : n + s.size ≤ 140737488355328) (hbase : base ≤ w.heap.size) :
 ∃ v' w', (Builtin.append_ #[t, u] ty #[v, .string s]).run P w = .ok v' w' ∧ Own w' base e 1 v' (n + s.size) (xs ++ bs s.data.toList) ∧ w.grownBy w' v.ownBlock := by
 rcases hown.2 with ⟨rfl, rfl⟩ | ⟨g, cap, rfl, hbg, ⟨cur, fz, hh⟩, hnc, hcm, hx, hcl⟩
 ·obtain ⟨v', w', r1, r2, r3, _⟩ := Lib.run_append_own_string (P := P) w base t u ty e i ht hu hi hz hsize hby (.slice none 0 0) 0 xs ⟨hown.1, .inl ⟨rfl, rfl⟩⟩ s h63 hlim hbase
  rw [strCells_bs] at r2
  exact ⟨v', w', r1, Own.of r2, r3⟩
 ·have hxl : xs.length = n := by simpa using hown.1
  have hnl : (bs s.data.toList).length = s.size := by rw [bs_length, Array.length_toList]; rfl
  by_cases hroom : n + s.size ≤ cap
  ·have hf := Lib.run_firstCells_string (P := P) w 1 s
   have hst := run_storeCells_cells (P := P) g n (bs s.data.toList) 0 w (fun j hj => (hcl _ (by omega)).1) (fun j hj => (hcl _ (by omega)).2) (bs_one _)
   rw [strCells_bs] at hf
   simp only [Nat.add_zero] at hst
   have hrun : (Builtin.append_ #[t, u] ty #[.slice (some ⟨g, 0, none⟩) n cap, .string s]).run P w = .ok (.slice (some ⟨g, 0, none⟩) (n + s.size) cap) (w.setCells g n (bs s.data.toList)) := by
    simp [Builtin.append_, run_underlying ht, run_underlying hu, sizeOf, typeInfo, hi, hsize, Builtin.lenOf, hroom, hf, Addr.add_lit, hst]
   obtain ⟨cur', hh'⟩ := tag_setCells (bs s.data.toList) n w cur hh
   refine ⟨_, _, hrun, ⟨by rw [List.length_append, hxl, hnl]; exact (Nat.mul_one _).symm, .inr ⟨g, cap, rfl, hbg, ⟨cur', fz, hh'⟩, hroom, hcm, fun j x hj => ?_, fun j hj => ?_⟩⟩, grown_setCells g _ _ w⟩
   ·by_cases hjn : j < n
    ·rw [List.getElem?_append_left (by omega)] at hj
     rw [World.cell?_setCells_out g _ _ w ⟨g, j, none⟩ (fun _ _ => .inl hjn)]
     exact hx j x hj
    ·rw [List.getElem?_append_right (by omega)] at hj
     obtain ⟨hj2, hu2⟩ := List.getElem?_eq_some_iff.1 hj
     have := World.cell?_setCells_in g (bs s.data.toList) n w (fun k hk => (hcl _ (by omega)).1) (j - xs.length) hj2
     rw [show n + (j - xs.length) = j by omega] at this
     rw [this, hu2]
   ·refine ⟨?_, by rw [World.frozen?_setCells]; exact (hcl j hj).2⟩
    by_cases hin : n ≤ j ∧ j < n + (bs s.data.toList).length
    ·have := World.cell?_setCells_in g (bs s.data.toList) n w (fun k hk => (hcl _ (by omega)).1) (j - n) (by omega)
     rw [show n + (j - n) = j by omega] at this
     rw [this]; rfl
    ·rw [World.cell?_setCells_out g _ _ w ⟨g, j, none⟩ (fun _ _ => by show j < n ∨ n + (bs s.data.toList).length ≤ j; omega)]
     exact (hcl j hj).1
  ·have holds : ∀ j u, xs[j]? = some u → w.cell? ((⟨g, 0, none⟩ : Addr).add j) = some u := fun j u hu => by rw [addr_add]; exact hx j u hu
   have hsmall : n + s.size ≤ 9223372036854775807 := by simp only [maxLen] at h63; omega
   have hr := Lib.run_append_grow_string (P := P) w t u ty e i (.int .u8 0) ht hu hi hz ⟨g, 0, none⟩ n cap xs (by rw [hsize]; simpa using hxl) holds s (by omega) (by omega) (by rw [hby]; exact growslice_fits (by omega) (by omega))
   have hge := grownCap_ge w (n + s.size) cap e
   have hcm2 : grownCap w (n + s.size) cap e ≤ maxLen := grownCap_le_maxLen w (n + s.size) cap e h63
   rw [strCells_bs] at hr
   have hrow : (w.drew.alloc (.cells (xs.toArray ++ (bs s.data.toList).toArray ++ Builtin.zeroCells (Value.int .u8 0).cells (grownCap w (n + s.size) cap e - (n + s.size))) e)).ownsRow base e 1 (.slice (some ⟨w.heap.size, 0, none⟩) (n + s.size) (grownCap w (n + s.size) cap e)) (n + s.size) (xs ++ bs s.data.toList) := by
    have hlen : (xs ++ bs s.data.toList).length = (n + s.size) * 1 := by rw [List.length_append, hxl, hnl, Nat.mul_one]
    refine ⟨hlen, .inr ⟨w.heap.size, _, _, rfl, hbase, heap_alloc_new w.drew _, hge, hcm2, ?_, ?_⟩⟩
    ·have hz1 : (Value.int IntKind.u8 0).cells.size = 1 := rfl
     simp only [Array.size_append, List.size_toArray, size_zeroCells, hz1, hxl, hnl]
     omega
    ·simp only [Array.toList_append, List.append_assoc]
     rw [← List.append_assoc, ← hlen]
     exact List.take_left
   exact ⟨_, _, hr, Own.of hrow, ⟨rfl, rfl, rfl, by simp, fun k hk _ => Below.heap_alloc w.drew _ k hk⟩⟩
theorem wp_app_str {o : Oper} {a : Act} {K : Act → World → Prop} {Q : Exit → Act → World → Prop} (s x : Operand) (t u : TypeId) (ho : o.op = .call { callee := .builtin .append, args := #[s, x], argTypes := #[t, u] })
 (base : Nat) (e : TypeId) (i : TypeInfo) (ht : P.underlying t = some (.slice e)) (hu : P.underlying u = some .string) (hi : P.info? e = some i) (hz : i.zero = some (.int .u8 0)) (hsize : i.size = 1) (hby : i.bytes = 1)
 (v : Value) (n : Nat) (xs : List Value) (hs : a.eval s = v) (hown : Own w base e 1 v n xs) (b : ByteArray) (hx : a.eval x = .string b) (h63 : n + b.size ≤ maxLen) (hlim : n + b.size ≤ 140737488355328) (hbase : base ≤ w.heap.size)
 (h : ∀ v' w', Own w' base e 1 v' (n + b.size) (xs ++ bs b.data.toList) → w.grownBy w' v.ownBlock → K (a.put o.dst v') w') : o.wp P a w K Q := by
 obtain ⟨v', w', hrun, h2, h3⟩ := run_app_str (P := P) w base t u o.type e i ht hu hi hz hsize hby v n xs hown b h63 hlim hbase
 unfold Oper.wp execOp
 simp only [ho, resolve, invoke, builtin, Sem.run_bind, Sem.run_pure, Result.andThen_ok, List.map_toArray, List.map_cons, List.map_nil, hs, hx, hrun]
 exact h v' w' h2 h3
theorem list_app_str {ops : Array Oper} {rest : List Oper} {o : Oper} {a : Act} {Q : Exit → Act → World → Prop} (hgd : o.guard = none) (s x : Operand) (t u : TypeId) (ho : o.op = .call { callee := .builtin .append, args := #[s, x], argTypes := #[t, u] })
 (base : Nat) (e : TypeId) (i : TypeInfo) (ht : P.underlying t = some (.slice e)) (hu : P.underlying u = some .string) (hi : P.info? e = some i) (hz : i.zero = some (.int .u8 0)) (hsize : i.size = 1) (hby : i.bytes = 1)
 (v : Value) (n : Nat) (xs : List Value) (hs : a.eval s = v) (hown : Own w base e 1 v n xs) (b : ByteArray) (hx : a.eval x = .string b) (h63 : n + b.size ≤ maxLen) (hlim : n + b.size ≤ 140737488355328) (hbase : base ≤ w.heap.size)
 (h : ∀ v' w', Own w' base e 1 v' (n + b.size) (xs ++ bs b.data.toList) → w.grownBy w' v.ownBlock → wpList P ops Q rest (a.put o.dst v') w') : wpList P ops Q (o :: rest) a w :=
 wpList_plain hgd fun _ hK => wp_app_str w s x t u ho base e i ht hu hi hz hsize hby v n xs hs hown b hx h63 hlim hbase fun v' w' h2 h3 => hK _ _ (h v' w' h2 h3)
end
end
end Go.Proofs.YtkkjahhilcjpgaaDoor
