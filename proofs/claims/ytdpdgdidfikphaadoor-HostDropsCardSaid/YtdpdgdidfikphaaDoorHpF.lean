/-
  Layer 5: the landed parser's parameters in memory: a part written, a part more, a parameter more.
-/
import Derived.Test.YtdpdgdidfikphaaDoorHpL
namespace Go.Proofs.YtdpdgdidfikphaaDoor
open Go.RowKit

theorem range_set {n k : Nat} (r : Nat → Value) (v : Value) (hk : k < n) : ((List.range n).map r).set k v = (List.range n).map (fun i => if i = k then v else r i) := by
  apply List.ext_getElem?
  intro i
  rw [List.getElem?_set]
  simp only [List.length_map, List.length_range, List.getElem?_map]
  by_cases e : k = i
  · subst e
    rw [if_pos rfl, if_pos hk, List.getElem?_range hk]
    simp
  · rw [if_neg e]
    by_cases hi : i < n
    · rw [List.getElem?_range hi]
      simp [Ne.symm e]
    · rw [List.getElem?_eq_none (by simp; omega)]
      rfl
theorem range_more (n : Nat) (r : Nat → Value) (v : Value) : (List.range n).map r ++ [v] = (List.range (n + 1)).map (fun i => if i = n then v else r i) := by
  rw [List.range_succ, List.map_append]
  congr 1
  · apply List.map_congr_left
    intro i hi
    have := List.mem_range.1 hi
    rw [if_neg (by omega)]
  · simp
section
variable {w w' w1 w2 : World} {S S' T : Nat → Prop} {g base : Nat} {b b' : PB} {v v' vp vp' vd : Value} {ps d : List (List Int)} {q q' : List Int} {r r' : Nat → Value}
theorem get_last (d : List (List Int)) (q : List Int) : (d ++ [q])[d.length]? = some q := by simp
theorem get_init {k : Nat} {x : List Int} (d : List (List Int)) (q q' : List Int) (hx : (d ++ [q'])[k]? = some x) (hk : k ≠ d.length) : k < d.length ∧ (d ++ [q])[k]? = some x := by
  have hl := (List.getElem?_eq_some_iff.1 hx).1
  rw [List.length_append, List.length_singleton] at hl
  have h1 : k < d.length := by omega
  rw [List.getElem?_append_left h1] at hx ⊢
  exact ⟨h1, hx⟩
/-- A part written. -/
theorem ParR.store (h : ParR w S base v (d ++ [q]) r) {X c : Nat} (hr : r d.length = .slice (some ⟨X, 0, none⟩) q.length c) (j : Nat) (u : Int) : ParR (w.setCell ⟨X, j, none⟩ (.int .i64 u)) S base v (d ++ [q.set j u]) r := by
  have hF : Fr w (w.setCell ⟨X, j, none⟩ (.int .i64 u)) (fun k => k = X) := Fr.setCell w X j _ _ rfl
  have hX : (r d.length).ownBlock = some X := by rw [hr]; rfl
  have h0 := h.one _ _ (get_last d q)
  have el : (d ++ [q.set j u]).length = (d ++ [q]).length := by simp
  refine ⟨?_, fun k x hx => ?_, fun i k x hi hk => h.apart i k x hi (by rw [← el]; exact hk), h.sv, fun k x hk hx => h.so k x (by rw [← el]; exact hk) hx⟩
  · rw [el]
    exact h.row.fr hF fun k hk e => h.row.ne h0 (by decide) k hk (by rw [hX, e])
  · by_cases e : k = d.length
    · subst e
      rw [get_last] at hx
      injection hx with hx
      subst hx
      rw [hr] at h0 ⊢
      have := h0.stored j (.int .i64 u)
      rw [List.length_set]
      have e2 : is_ (q.set j u) = (is_ q).set j (.int .i64 u) := by simp [is_, List.map_set]
      rw [e2]
      exact this
    · obtain ⟨hlt, hx'⟩ := get_init d q _ hx e
      exact (h.one k x hx').fr hF fun y hy e2 => h.apart k d.length y hlt (by simp) hy (by rw [hX, e2])
/-- A part more. -/
theorem ParR.swap (h : ParR w S base v (d ++ [q]) r) {P c n : Nat} (hv : v = .slice (some ⟨P, 0, none⟩) n c) (hg : w.grownBy w1 (r d.length).ownBlock) (own : Own w1 base 3 1 v' q'.length (is_ q')) (hk : ∀ k, v'.ownBlock = some k → (r d.length).ownBlock = some k ∨ w.heap.size ≤ k) :
    ParR (w1.setCell ⟨P, d.length, none⟩ v') (fun k => S k ∨ v'.ownBlock = some k) base v (d ++ [q']) (fun i => if i = d.length then v' else r i) := by
  have h0 := h.one _ _ (get_last d q)
  have hF1 : Fr w w1 (fun k => (r d.length).ownBlock = some k) := Fr.of_grown hg
  have hF2 : Fr w1 (w1.setCell ⟨P, d.length, none⟩ v') (fun k => k = P) := Fr.setCell w1 P d.length _ _ rfl
  have hP : v.ownBlock = some P := by rw [hv]; rfl
  have row1 := h.row.fr hF1 fun k hk => h.row.ne h0 (by decide) k hk
  have hn : n = (d ++ [q]).length := by
    obtain ⟨A, c', e, _⟩ := h.row.form
    rw [hv] at e
    injection e
  have el : (d ++ [q']).length = (d ++ [q]).length := by simp
  refine ⟨?_, fun k x hx => ?_, fun i k x hi hk' hx => ?_, fun x hx => .inl (h.sv x hx), fun k x hk' hx => ?_⟩
  · rw [el]
    rw [hv, hn] at row1 ⊢
    have := row1.stored d.length v'
    rw [range_set r v' (by simp)] at this
    exact this
  · by_cases e : k = d.length
    · subst e
      rw [get_last] at hx
      injection hx with hx
      subst hx
      show Own _ base 3 1 (if d.length = d.length then v' else r d.length) _ _
      rw [if_pos rfl]
      exact own.fr hF2 fun y hy e2 => row1.ne own (by decide) y (by rw [hP, e2]) hy
    · obtain ⟨hlt, hx'⟩ := get_init d q _ hx e
      show Own _ base 3 1 (if k = d.length then v' else r k) _ _
      rw [if_neg e]
      have h1 := (h.one k x hx').fr hF1 fun y hy => h.apart k d.length y hlt (by simp) hy
      exact h1.fr hF2 fun y hy e2 => row1.ne h1 (by decide) y (by rw [hP, e2]) hy
  · rw [List.length_append, List.length_singleton] at hk'
    have e1 : i ≠ d.length := by omega
    have hx' : (r i).ownBlock = some x := by
      have : (if i = d.length then v' else r i).ownBlock = some x := hx
      rwa [if_neg e1] at this
    show ¬ (if k = d.length then v' else r k).ownBlock = some x
    by_cases e : k = d.length
    · rw [if_pos e]
      intro hv'
      rcases hk x hv' with h1 | h1
      · exact h.apart i d.length x (by omega) (by simp) hx' h1
      · have hi' : i < (d ++ [q]).length := by simp; omega
        have := ((h.one i _ (List.getElem?_eq_getElem hi')).lt x hx').2
        omega
    · rw [if_neg e]
      exact h.apart i k x hi (by simp; omega) hx'
  · have hx' : (if k = d.length then v' else r k).ownBlock = some x := hx
    by_cases e : k = d.length
    · rw [if_pos e] at hx'
      exact .inr hx'
    · rw [if_neg e] at hx'
      exact .inl (h.so k x (by rw [← el]; exact hk') hx')
/-- A parameter more. -/
theorem ParR.more (h : ParR w S base v ps r) (hb1 : Below w.heap.size w w1) (own : Own w1 base 3 1 v' q.length (is_ q)) (hn : ∀ k, v'.ownBlock = some k → w.heap.size ≤ k) (hg : w1.grownBy w2 v.ownBlock)
    (row : Own w2 base 39 1 vp (ps.length + 1) ((List.range ps.length).map r ++ [v'])) :
    ParR w2 (fun k => S k ∨ v'.ownBlock = some k ∨ vp.ownBlock = some k) base vp (ps ++ [q]) (fun i => if i = ps.length then v' else r i) := by
  have hF1 : Fr w w1 (fun _ => False) := Fr.of_below hb1 _
  have hF2 : Fr w1 w2 (fun k => v.ownBlock = some k) := Fr.of_grown hg
  have row1 : Own w1 base 39 1 v ps.length ((List.range ps.length).map r) := h.row.fr hF1 fun _ _ h => h
  have new : ∀ i y, i < ps.length → (r i).ownBlock = some y → y < w.heap.size := fun i y hi hy => ((h.one i _ (List.getElem?_eq_getElem hi)).lt y hy).2
  refine ⟨?_, fun k x hx => ?_, fun i k x hi hk' hx => ?_, fun x hx => .inr (.inr hx), fun k x hk' hx => ?_⟩
  · rw [List.length_append, List.length_singleton, ← range_more]
    exact row
  · by_cases e : k = ps.length
    · subst e
      rw [get_last] at hx
      injection hx with hx
      subst hx
      show Own _ base 3 1 (if ps.length = ps.length then v' else r ps.length) _ _
      rw [if_pos rfl]
      exact own.fr hF2 fun y hy e2 => row1.ne own (by decide) y e2 hy
    · have hl := (List.getElem?_eq_some_iff.1 hx).1
      rw [List.length_append, List.length_singleton] at hl
      rw [List.getElem?_append_left (by omega)] at hx
      show Own _ base 3 1 (if k = ps.length then v' else r k) _ _
      rw [if_neg e]
      have h1 := (h.one k x hx).fr hF1 fun _ _ h => h
      exact h1.fr hF2 fun y hy e2 => row1.ne h1 (by decide) y e2 hy
  · rw [List.length_append, List.length_singleton] at hk'
    have hx' : (r i).ownBlock = some x := by
      have : (if i = ps.length then v' else r i).ownBlock = some x := hx
      rwa [if_neg (by omega)] at this
    show ¬ (if k = ps.length then v' else r k).ownBlock = some x
    by_cases e : k = ps.length
    · rw [if_pos e]
      intro hv'
      have := hn x hv'
      have := new i x (by omega) hx'
      omega
    · rw [if_neg e]
      exact h.apart i k x hi (by omega) hx'
  · rw [List.length_append, List.length_singleton] at hk'
    have hx' : (if k = ps.length then v' else r k).ownBlock = some x := hx
    by_cases e : k = ps.length
    · rw [if_pos e] at hx'
      exact .inr (.inl hx')
    · rw [if_neg e] at hx'
      exact .inl (h.so k x (by omega) hx')
/-- The whole anew. -/
theorem BoxP.re (h : BoxP w S g base b vp vd r) (hbox : Blk w' g 42 (parC b' vp' vd)) (hdat : ∀ k, vd.ownBlock = some k → w'.heap[k]? = w.heap[k]?) (hpar : ParR w' S' base vp' b'.pars r') (hS : ∀ k, S k → S' k) (hW : Wid w S S') (hs : base ≤ w.heap.size)
    (hhi : ∀ k, S' k → k < w'.heap.size) (hd : b'.data = b.data) (hf : Fit b') : BoxP w' S' g base b' vp' vd r' :=
  ⟨hbox, hpar, by rw [hd]; exact h.dat.keep hdat, hS g h.sg, fun x hx => hS x (h.sd x hx), fun k hk => by
    rcases hW k hk with h1 | h1
    · exact h.lo k h1
    · omega, hhi, hf⟩
end
/-- append as one step of a region that draws, and which block its row lies in. -/
theorem step_appB {P : Program} (w : World) {ops : Array Oper} {o : Oper} {a : Act} {K : Act → World → Prop} {Q : Exit → Act → World → Prop} {E : Prop} (hgd : o.guard = none) (s x : Operand) (t : TypeId) (ho : o.op = .call { callee := .builtin .append, args := #[s, x], argTypes := #[t, t] })
    (base : Nat) (e : TypeId) (i : TypeInfo) (z : Value) (sz bytes : Nat) (ht : P.underlying t = some (.slice e)) (hi : P.info? e = some i) (hz : i.zero = some z) (hsize : i.size = sz) (hby : i.bytes = bytes) (hzs : z.cells.size = sz) (hsz : 0 < sz)
    (v : Value) (n : Nat) (xs : List Value) (hs : a.eval s = v) (hown : Own w base e sz v n xs) (A : Option Addr) (m c : Nat) (news : List Value) (hx : a.eval x = .slice A m c) (hl : news.length = m * sz) (hr : Rd w A news) (h1 : ∀ u ∈ news, u.oneCell' = true)
    (h63 : n + m ≤ maxLen) (hlim : (n + m) * bytes ≤ 140737488355328) (hbase : base ≤ w.heap.size)
    (h : ∀ v' w', Own w' base e sz v' (n + m) (xs ++ news) → w.grownBy w' v.ownBlock → (∀ k, v'.ownBlock = some k → v.ownBlock = some k ∨ w.heap.size ≤ k) → K (a.put o.dst v') w') :
    if Region.wanted o (yielded ops a.tmps) = true then Oper.wp P o a w K Q else E := by
  have hw : Region.wanted o (yielded ops a.tmps) = true := by simp [Region.wanted, hgd]
  rw [if_pos hw]
  exact wp_appB w s x t ho base e i z sz bytes ht hi hz hsize hby hzs hsz v n xs hs hown A m c news hx hl hr h1 h63 hlim hbase h
end Go.Proofs.YtdpdgdidfikphaaDoor
