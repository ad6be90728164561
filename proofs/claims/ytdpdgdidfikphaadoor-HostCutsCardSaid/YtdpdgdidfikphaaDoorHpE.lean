/-
  Layer 5: the landed parser's state in data.
-/
import Derived.Test.YtdpdgdidfikphaaDoorHpD
namespace Go.Proofs.YtdpdgdidfikphaaDoor
open Go.RowKit

theorem Own.ne {w : World} {base base' : Nat} {e e' : TypeId} {sz sz' : Nat} {v v' : Value} {n n' : Nat} {xs xs' : List Value} (h : Own w base e sz v n xs) (h' : Own w base' e' sz' v' n' xs') (hne : e ≠ e') : ∀ k, v.ownBlock = some k → v'.ownBlock ≠ some k := fun k hk hk' => by
  rcases h'.2 with ⟨rfl, _⟩ | ⟨g, cap, rfl, _, ⟨cur, fz, hh⟩, _⟩
  · cases hk'
  · have e : g = k := by simpa [Value.ownBlock] using hk'
    subst e
    exact h.no_cells hh hne hk
theorem byte_parts : ∃ i, Tryd.prog.info? 5 = some i ∧ i.zero = some (.int .u8 0) ∧ i.size = 1 ∧ i.bytes = 1 := ⟨_, rfl, rfl, rfl, rfl⟩
/-- Another row of data. -/
theorem BoxP.data {w w2 : World} {S : Nat → Prop} {g base : Nat} {b b' : PB} {vp vd vd2 : Value} {r : Nat → Value} (h : BoxP w S g base b vp vd r) (hg : w.grownBy w2 vd.ownBlock)
    (own : Own w2 base 5 1 vd2 b'.data.length (bs b'.data)) (hk : ∀ k, vd2.ownBlock = some k → vd.ownBlock = some k ∨ w.heap.size ≤ k) (hb' : b' = { b with data := b'.data }) (hf : Fit b') :
    ∃ S', BoxP (w2.setCell ⟨g, 7, none⟩ vd2) S' g base b' vp vd2 r ∧ Wid w S S' ∧ Fr w (w2.setCell ⟨g, 7, none⟩ vd2) S := by
  have hF1 : Fr w w2 (fun k => vd.ownBlock = some k) := Fr.of_grown hg
  have hbx : Blk w2 g 42 (parC b vp vd) := h.box.fr hF1 h.no_dat
  have hnp : ∀ k, vp.ownBlock = some k → ¬ vd.ownBlock = some k := h.par.row.ne h.dat (by decide)
  have hno : ∀ j x, j < b.pars.length → (r j).ownBlock = some x → ¬ vd.ownBlock = some x := fun j x hj => (h.par.one j _ (List.getElem?_eq_getElem hj)).ne h.dat (by decide) x
  have hpar : ParR w2 S base vp b.pars r := h.par.fr' hF1 hnp hno
  have hF2 : Fr w2 (w2.setCell ⟨g, 7, none⟩ vd2) (fun k => k = g) := Fr.setCell w2 g 7 vd2 _ rfl
  have hsz := hg.size
  have hs2 : (w2.setCell ⟨g, 7, none⟩ vd2).heap.size = w2.heap.size := by simp [World.setCell]
  have hpar2 : ParR (w2.setCell ⟨g, 7, none⟩ vd2) S base vp b.pars r := hpar.fr' hF2 (fun k hk e => h.no_row (by rw [hk, e])) fun k x hk hx e => h.no_one k hk (by rw [hx, e])
  refine ⟨fun k => S k ∨ vd2.ownBlock = some k, ⟨?_, ?_, ?_, .inl h.sg, fun k hk => .inr hk, fun k hk => ?_, fun k hk => ?_, hf⟩, fun k hk' => ?_, ?_⟩
  · have := hbx.set 7 vd2
    have e : (parC b vp vd).setIfInBounds 7 vd2 = parC b' vp vd2 := by rw [hb']; rfl
    rwa [e] at this
  · have e : b'.pars = b.pars := by rw [hb']
    rw [e]
    exact ⟨hpar2.row, hpar2.one, hpar2.apart, fun x hx => .inl (hpar2.sv x hx), fun k x hk hx => .inl (hpar2.so k x hk hx)⟩
  · exact own.fr hF2 fun k hk e => own.no_cells hbx (by decide) (by rw [hk, e])
  · rcases hk with hk | hk
    · exact h.lo k hk
    · exact (own.lt k hk).1
  · rw [hs2]
    rcases hk with hk | hk
    · exact Nat.lt_of_lt_of_le (h.hi k hk) hsz
    · exact (own.lt k hk).2
  · rcases hk' with h1 | h1
    · exact .inl h1
    · rcases hk k h1 with h2 | h2
      · exact .inl (h.sd k h2)
      · exact .inr h2
  · exact (hF1.mono (S' := S) h.sd).trans (hF2.mono (S' := S) fun k hk => by rw [hk]; exact h.sg) (fun _ h => .inl h)

set_option maxRecDepth 100000 in
set_option maxHeartbeats 8000000 in
theorem data_any {w : World} {S : Nat → Prop} {g base : Nat} {b : PB} {vp vd : Value} {r : Nat → Value} (h : BoxP w S g base b vp vd r) (c : UInt8) :
    Calls Tryd.prog 44 #[.pointer (some ⟨g, 0, none⟩), .int .u8 (c.toNat : Int)] w (MvE S g base (dataP b c).1 (.bool (dataP b c).2) w) := by
  obtain ⟨i0, hi, hz0, hz1, hz2⟩ := byte_parts
  have c0 := h.box.cell 0
  have c1 : w.cell? ⟨g, 1, none⟩ = some (.int .i64 b.kind) := h.box.cell 1
  have c7 : w.cell? ⟨g, 7, none⟩ = some vd := h.box.cell 7
  have c8 := h.box.cell 8
  have f0 := h.box.frozen 0
  have f7 := h.box.frozen 7
  have f8 := h.box.frozen 8
  have hfit := h.fit.data_ c
  obtain ⟨A, cv, hv, _⟩ := h.dat.form
  subst hv
  have hd := h.fit.nd
  have hown := h.dat
  obtain ⟨m, hm⟩ : ∃ m, b.data.length = m := ⟨_, rfl⟩
  by_cases h1 : c.toNat = 27
  · have E := Lib.hid (show dataP b c = ({ b with how := 5 }, false) from if_pos h1)
    have hP := Lib.hid (BoxP.put h 0 (fnV (fnOf 5)) (b' := { b with how := 5 }) rfl rfl rfl ⟨Nat.le_refl _, h.fit.np, h.fit.nq, h.fit.ni, h.fit.nd⟩)
    rw [h1]
    clear h1 hfit
    go_enter Tryd.func44, Tryd.ntmps44
    go_wp2_with fail
    go_ret
    rw [E.out]
    exact MvE.put hP.out (h.frS 0 _)
  have t1 : ((c.toNat : Int) == 27) = false := beq_false_of_ne (by omega)
  by_cases h2 : c.toNat = 7 ∧ b.kind = 4
  · have E := Lib.hid (show dataP b c = (b, true) by unfold dataP; rw [if_neg h1, if_pos h2])
    obtain ⟨h3, h4⟩ := h2
    rw [h4] at c1
    rw [h3]
    clear h1 hfit t1 h3 h4
    go_enter Tryd.func44, Tryd.ntmps44
    go_wp2_with fail
    go_ret
    rw [E.out]
    exact MvE.same ⟨_, _, _, h⟩
  have t2 : ((c.toNat : Int) == 7) = false ∨ ((c.toNat : Int) == 7) = true ∧ (b.kind == 4) = false := by
    by_cases h3 : c.toNat = 7
    · right
      exact ⟨by rw [h3]; rfl, beq_false_of_ne fun h4 => h2 ⟨h3, h4⟩⟩
    · left
      exact beq_false_of_ne (by omega)
  by_cases h3 : noneC c
  · have E := Lib.hid (show dataP b c = (b, false) by unfold dataP; rw [if_neg h1, if_neg h2, if_pos h3])
    have HN := Lib.hid (show decide (noneC c) = true from decide_eq_true h3)
    clear h1 h2 h3 hfit
    rcases t2 with t2 | ⟨t2, t3⟩
    all_goals
      go_enter Tryd.func44, Tryd.ntmps44
      go_wp2_with fail
      refine (nothing_any c _ true HN.out).mono ?_
      rintro e w1 ⟨rfl, rfl⟩
      go_wp2_with fail
      go_ret
      rw [E.out]
      exact MvE.same ⟨_, _, _, h⟩
  have HN := Lib.hid (show decide (noneC c) = false from decide_eq_false h3)
  have t7 : ((c.toNat : Int) == 7) = false := beq_false_of_ne (fun e => h3 (.inl (by omega)))
  clear t2
  by_cases h4 : 127 < c.toNat ∨ b.data.length = 4096
  · have E := Lib.hid (show dataP b c = ({ b with spoilt := true }, false) by unfold dataP; rw [if_neg h1, if_neg h2, if_neg h3, if_pos h4])
    have hP := Lib.hid (BoxP.put h 8 (.bool true) (b' := { b with spoilt := true }) rfl rfl rfl ⟨h.fit.how, h.fit.np, h.fit.nq, h.fit.ni, h.fit.nd⟩)
    have hF := h.frS 8 (.bool true)
    have key : decide ((127 : Int) < (c.toNat : Int)) = true ∨ decide ((127 : Int) < (c.toNat : Int)) = false ∧ ((m : Int) == 4096) = true := by
      by_cases h5 : 127 < c.toNat
      · left; simp; omega
      · right
        have := h4.resolve_left h5
        exact ⟨by simp; omega, by rw [← hm, this]; rfl⟩
    rw [hm] at c7
    clear h1 h2 h3 h4 hfit hd hown hm
    rcases key with t4 | ⟨t4, t5⟩
    all_goals
      go_enter Tryd.func44, Tryd.ntmps44
      go_wp2_with fail
      refine (nothing_any c _ false HN.out).mono ?_
      rintro e w1 ⟨rfl, rfl⟩
      go_wp2_with fail
      go_ret
      rw [E.out]
      exact MvE.put hP.out hF
  have E := Lib.hid (show dataP b c = ({ b with data := b.data ++ [c] }, false) by unfold dataP; rw [if_neg h1, if_neg h2, if_neg h3, if_neg h4])
  rw [E.out] at hfit
  have t4 : decide ((127 : Int) < (c.toNat : Int)) = false := by simp; omega
  have t5 : ((m : Int) == 4096) = false := beq_false_of_ne (by rw [← hm]; omega)
  rw [hm] at c7 hown hd
  have HM := Lib.hid hm
  have h63 : m + 1 ≤ maxLen := by simp only [maxLen]; omega
  have hlim : (m + 1) * 1 ≤ 140737488355328 := by omega
  have hbase : base ≤ w.heap.size := Nat.le_trans (h.lo _ h.sg) (Nat.le_of_lt (h.hi _ h.sg))
  have H := Lib.hid h
  have HF := Lib.hid hfit
  clear h1 h2 h3 h4 hfit hd h
  have own1 := hown.alloc (.cells (bs [c]).toArray 5 (0, 0))
  have rd1 := rd_lit w [c] (bs [c]).toArray (0, 0) rfl
  have hbase1 : base ≤ (w.alloc (.cells (bs [c]).toArray 5 (0, 0))).heap.size := by simp; omega
  clear hm hbase
  go_enter Tryd.func44, Tryd.ntmps44
  go_wp2_with fail
  refine (nothing_any c _ false HN.out).mono ?_
  rintro e w1 ⟨rfl, rfl⟩
  have hbx1 := H.out.box.alloc (.cells (bs [c]).toArray 5 (0, 0))
  have hnd := H.out.no_dat
  rw [HM.out] at hbx1 hnd
  have HND := Lib.hid hnd
  clear hnd
  go_wp2_with (at_builtin; refine list_appB _ rfl (.tmp 9) (.tmp 11) 22 rfl base 5 i0 _ 1 1 Tryd.underlying22 hi hz0 hz1 hz2 rfl Nat.one_pos (.slice A m cv) m (bs b.data) rfl own1 (some ⟨w.heap.size, 0, none⟩) 1 1 (bs [c]) rfl rfl rd1 (bs_one [c]) h63 hlim hbase1 ?_; intro v2 w2 own2 hg2 hk2; obtain ⟨A2, cc2, rfl, hf2⟩ := own2.form; clear hf2; have hbx := hbx1.grown hg2 HND.out; have e7 := hbx.cell 7; have z7 := hbx.frozen 7)
  go_ret
  rw [E.out]
  have hg : w.grownBy w2 (Value.slice A b.data.length cv).ownBlock := by
    rw [HM.out]
    exact grown_trans (grown_below _ ((Below.refl _ w).alloc (Nat.le_refl _) _)) hg2
  obtain ⟨S', hB, hW, hF⟩ := H.out.data (b' := { b with data := b.data ++ [c] }) (vd2 := .slice A2 (m + 1) cc2) hg
    (by show Own w2 base _ 1 _ (b.data ++ [c]).length (bs (b.data ++ [c])); rw [List.length_append, HM.out, bs_append]; exact own2)
    (fun k hk => by
      rw [HM.out]
      rcases hk2 k hk with h | h
      · exact .inl h
      · exact .inr (by simp at h; omega)) rfl HF.out
  exact ⟨rfl, S', ⟨_, _, _, hB⟩, hW, hF⟩
end Go.Proofs.YtdpdgdidfikphaaDoor
