/-
  Layer 5: the landed parser ends what was begun.
-/
import Derived.Test.YtdpdgdidfikphaaDoorHpI
import Derived.Test.YtdpdgdidfikphaaDoorWpM
namespace Go.Proofs.YtdpdgdidfikphaaDoor
open Go.RowKit

section
variable {w w' : World} {g : Nat} {t : TypeId} {p0 p1 p2 p3 p4 p5 : Value}
theorem Blk.set6 (h : Blk w g t #[p0, p1, p2, p3, p4, p5]) (x0 x1 x2 x3 x4 x5 : Value) : Blk ((((((w.setCell ⟨g, 0, none⟩ x0).setCell ⟨g, 1, none⟩ x1).setCell ⟨g, 2, none⟩ x2).setCell ⟨g, 3, none⟩ x3).setCell ⟨g, 4, none⟩ x4).setCell ⟨g, 5, none⟩ x5) g t #[x0, x1, x2, x3, x4, x5] := by
  have h0 : Blk (w.setCell ⟨g, 0, none⟩ x0) g t #[x0, p1, p2, p3, p4, p5] := h.set 0 x0
  have h1 : Blk _ g t #[x0, x1, p2, p3, p4, p5] := h0.set 1 x1
  have h2 : Blk _ g t #[x0, x1, x2, p3, p4, p5] := h1.set 2 x2
  have h3 : Blk _ g t #[x0, x1, x2, x3, p4, p5] := h2.set 3 x3
  have h4 : Blk _ g t #[x0, x1, x2, x3, x4, p5] := h3.set 4 x4
  exact h4.set 5 x5
theorem Fr.set6 (w : World) (g : Nat) (x0 x1 x2 x3 x4 x5 : Value) : Fr w ((((((w.setCell ⟨g, 0, none⟩ x0).setCell ⟨g, 1, none⟩ x1).setCell ⟨g, 2, none⟩ x2).setCell ⟨g, 3, none⟩ x3).setCell ⟨g, 4, none⟩ x4).setCell ⟨g, 5, none⟩ x5) (fun k => k = g) :=
  (((((Fr.setCell w g 0 x0 (fun k => k = g) rfl).trans (Fr.setCell _ g 1 x1 (fun k => k = g) rfl) (fun _ h => .inl h)).trans (Fr.setCell _ g 2 x2 (fun k => k = g) rfl) (fun _ h => .inl h)).trans (Fr.setCell _ g 3 x3 (fun k => k = g) rfl) (fun _ h => .inl h)).trans (Fr.setCell _ g 4 x4 (fun k => k = g) rfl) (fun _ h => .inl h)).trans (Fr.setCell _ g 5 x5 (fun k => k = g) rfl) (fun _ h => .inl h)
end
theorem ParR.keepS {w w' : World} {S : Nat → Prop} {base : Nat} {v : Value} {ps : List (List Int)} {r : Nat → Value} (h : ParR w S base v ps r) (hk : ∀ k, S k → (v.ownBlock = some k ∨ ∃ i, i < ps.length ∧ (r i).ownBlock = some k) → w'.heap[k]? = w.heap[k]?) : ParR w' S base v ps r :=
  ⟨h.row.keep fun k hv => hk k (h.sv k hv) (.inl hv), fun k q hq => (h.one k q hq).keep fun x hx => hk x (h.so k x (List.getElem?_eq_some_iff.1 hq).1 hx) (.inr ⟨k, (List.getElem?_eq_some_iff.1 hq).1, hx⟩), h.apart, h.sv, h.so⟩
theorem ParR.rdP {w : World} {S : Nat → Prop} {base n c : Nat} {A : Option Addr} {ps : List (List Int)} {r : Nat → Value} (h : ParR w S base (.slice A n c) ps r) : RdP w A ps := fun hp => by
  obtain ⟨P, cp, hv, _, hlt, _⟩ := h.row.some_ hp
  injection hv with hA hn hc
  subst hA
  have row := h.row
  rw [hn] at row
  refine ⟨P, 0, rfl, hlt, fun k hk => ?_⟩
  have one := h.one k _ (List.getElem?_eq_getElem hk)
  obtain ⟨A', c', hr, hrd⟩ := one.form
  refine ⟨A', c', ?_, hrd⟩
  have := row.cellAt k (by simp; exact hk)
  rw [Nat.zero_add, this]
  simp [hr]
/-- What end leaves. -/
def EndE (S : Nat → Prop) (g base : Nat) (b : PB) (w : World) (e : Ending) (w' : World) : Prop :=
  ∃ A c, e = .returned (.tuple #[sqV b.sq A c, .bool (!b.spoilt && (mayS b.sq == 0))]) ∧ BoxP w' (fun k => k = g) g base pb0 (.slice none 0 0) (.slice none 0 0) (fun _ => .slice none 0 0) ∧ Fr w w' S ∧ Held w' (fun k => ¬ (S k ∧ k ≠ g)) fun W => SqIn W b.sq A c
theorem BoxP.told {w w3 w' : World} {S : Nat → Prop} {g base : Nat} {b : PB} {vp vd : Value} {r : Nat → Value} (h : BoxP w S g base b vp vd r) {A : Option Addr} {c : Nat} (hv : vp = .slice A b.pars.length c) (hF : Fr w w3 (fun k => k = g)) (hb : Blk w3 g 42 (parC pb0 (.slice none 0 0) (.slice none 0 0))) (hF' : Fr w3 w' (fun k => k = w.heap.size)) (q : Bool) (hq : q = (!b.spoilt && (mayS b.sq == 0))) :
    EndE S g base b w (.returned (.tuple #[sqV b.sq A c, .bool q])) w' := by
  subst hq
  have hgl := h.box.lt
  have hF2 : Fr w w' (fun k => k = g) := hF.trans hF' (fun k hk => .inr (by rw [hk]; exact Nat.le_refl _))
  refine ⟨A, c, rfl, BoxP.bare (hb.fr hF' (by omega)) (h.lo g h.sg) rfl rfl fit0, hF2.mono fun k hk => by rw [hk]; exact h.sg, ?_⟩
  refine ⟨fun k => S k ∧ k ≠ g, fun k hk => ⟨Nat.lt_of_lt_of_le (h.hi k hk.1) hF2.size, fun hn => hn hk⟩, fun W _ hk => ?_⟩
  have key : ∀ k, S k → k ≠ g → W.heap[k]? = w.heap[k]? := fun k hS hg => (hk k ⟨hS, hg⟩).trans (hF2.block k (h.hi k hS) hg)
  have hp := h.par.keepS (w' := W) fun k hS ho => key k hS (fun e => by
    rcases ho with ho | ⟨i, hi, ho⟩
    · exact h.no_row (by rw [ho, e])
    · exact h.no_one i hi (by rw [ho, e]))
  rw [hv] at hp
  have hfit := h.fit
  exact ⟨hp.rdP, Nat.le_trans hfit.np (by simp [maxLen]), Nat.le_trans hfit.ni (by simp [maxLen]), Nat.le_trans hfit.nd (by simp [maxLen]), fun p hp => Nat.le_trans (hfit.nq p hp).2.1 (by simp [maxLen])⟩
/-- What May leaves, of the two boxes. -/
def MayE (w3 : World) (n0 : Nat) (x : Int) (ys zs : Array Value) (e : Ending) (w' : World) : Prop :=
  e = .returned (.int .i64 x) ∧ Fr w3 w' (fun k => k = n0) ∧ Blk w' n0 32 ys ∧ Blk w' (n0 + 1) 32 zs
set_option maxRecDepth 100000 in
set_option maxHeartbeats 8000000 in
theorem bend_any {w : World} {S : Nat → Prop} {g base : Nat} {b : PB} {vp vd : Value} {r : Nat → Value} (h : BoxP w S g base b vp vd r) :
    Calls Tryd.prog 16 #[.pointer (some ⟨g, 0, none⟩)] w (EndE S g base b w) := by
  obtain ⟨c0, c1, c2, c3, c4, c5, c6, c7, c8⟩ := Blk.cells9 h.box
  obtain ⟨A, cv, hv, rdA⟩ := h.par.row.form
  obtain ⟨D, dv, hd, rdD⟩ := h.dat.form
  obtain ⟨n, hn⟩ : ∃ n : Nat, b.pars.length = n := ⟨_, rfl⟩
  obtain ⟨m, hm⟩ : ∃ m : Nat, b.data.length = m := ⟨_, rfl⟩
  have H := Lib.hid h
  clear h rdA rdD
  have bx := H.out.box
  have CA := Blk.cells9 (show Blk ((w.alloc (.cells #[.int .i64 0, .int .u8 0, .slice none 0 0, .string ⟨#[]⟩, .int .u8 0, .string ⟨#[]⟩] 32)).drew) g 42 (parC b vp vd) from bx.alloc _)
  have CB := fun o => Blk.cells9 (show Blk (((w.alloc (.cells #[.int .i64 0, .int .u8 0, .slice none 0 0, .string ⟨#[]⟩, .int .u8 0, .string ⟨#[]⟩] 32)).alloc o).drew) g 42 (parC b vp vd) from (bx.alloc _).alloc o)
  rw [hv, hd, hn, hm] at CA
  simp only [hv, hd, hn, hm, forall_and] at CB
  obtain ⟨a0, a1, a2, a3, a4, a5, a6, a7, a8⟩ := CA
  obtain ⟨b0, b1, b2, b3, b4, b5, b6, b7, b8⟩ := CB
  have HV := Lib.hid hv
  have HD := Lib.hid hd
  clear hv hd bx c0 c1 c2 c3 c4 c5 c6 c7 c8
  go_enter Tryd.func16, Tryd.ntmps16
  go_wp2_with fail
  go_region
  obtain ⟨w1, hw1⟩ : ∃ w1, ((w.alloc (.cells #[.int .i64 0, .int .u8 0, .slice none 0 0, .string ⟨#[]⟩, .int .u8 0, .string ⟨#[]⟩] 32)).alloc (.cells #[.int .i64 b.kind, .int .u8 (b.priv.toNat : Int), .slice A n cv, .string ⟨b.inter.toArray⟩, .int .u8 (b.final.toNat : Int), .string ⟨#[]⟩] 32)).drew = w1 := ⟨_, rfl⟩
  have hb1 : Below w.heap.size w w1 := by
    rw [← hw1]
    exact (((Below.refl _ w).alloc (Nat.le_refl _) _).alloc (by simp) _).drew
  have s1 : w1.heap.size = w.heap.size + 2 := by
    rw [← hw1]
    show ((w.alloc _).alloc _).heap.size = _
    simp
  have k2 : Blk w1 w.heap.size 32 #[.int .i64 0, .int .u8 0, .slice none 0 0, .string ⟨#[]⟩, .int .u8 0, .string ⟨#[]⟩] := by
    rw [← hw1]
    exact (Blk.new w _ _).alloc _
  have k4 : Blk w1 (w.heap.size + 1) 32 #[.int .i64 b.kind, .int .u8 (b.priv.toNat : Int), .slice A n cv, .string ⟨b.inter.toArray⟩, .int .u8 (b.final.toNat : Int), .string ⟨#[]⟩] := by
    rw [← hw1]
    have := Blk.new (w.alloc (.cells #[.int .i64 0, .int .u8 0, .slice none 0 0, .string ⟨#[]⟩, .int .u8 0, .string ⟨#[]⟩] 32)) 32 #[.int .i64 b.kind, .int .u8 (b.priv.toNat : Int), .slice A n cv, .string ⟨b.inter.toArray⟩, .int .u8 (b.final.toNat : Int), .string ⟨#[]⟩]
    simp only [World.size_alloc] at this
    exact this
  have B1 := H.out.fr (T := fun _ => False) (Fr.of_below hb1 _) (fun _ _ h => h)
  have g7 : w1.cell? ⟨g, 7, none⟩ = some (.slice D m dv) := by
    have := B1.box.cell 7
    rw [← hm, ← HD.out]
    exact this
  have rdD : Rd w1 D (bs b.data) := by
    have := B1.dat
    rw [HD.out] at this
    exact this.rd
  have hcv : (convert 22 9 (.slice D m dv)).run Tryd.prog w1 = .ok (.string ⟨b.data.toArray⟩) w1 := conv_str (P := Tryd.prog) Tryd.underlying22 Tryd.underlying5 hm rdD _ Tryd.underlying9
  have f45 := k4.cell 5
  have z45 := k4.frozen 5
  rw [hw1]
  clear b0 b1 b2 b3 b4 b5 b6 b7 b8 a0 a1 a2 a3 a4 a5 a6 a7 a8
  have hgl := H.out.box.lt
  have B2 : Blk (w1.setCell ⟨w.heap.size + 1, 5, none⟩ (.string ⟨b.data.toArray⟩)) g 42 (parC b vp vd) := B1.box.far (a := ⟨w.heap.size + 1, 5, none⟩) (by show g ≠ w.heap.size + 1; omega) _
  have k42 := k4.set 5 (.string ⟨b.data.toArray⟩)
  have k22 := k2.far (a := ⟨w.heap.size + 1, 5, none⟩) (by show w.heap.size ≠ w.heap.size + 1; omega) (.string ⟨b.data.toArray⟩)
  have hf12 : Fr w1 (w1.setCell ⟨w.heap.size + 1, 5, none⟩ (.string ⟨b.data.toArray⟩)) (fun k => k = w.heap.size + 1) := Fr.setCell _ _ _ _ _ rfl
  go_wp2_with fail
  refine (drop_any _ g _ B2 rfl).mono ?_
  rintro e w3 ⟨rfl, hb3, hg3⟩
  have k43 : Blk w3 (w.heap.size + 1) 32 #[.int .i64 b.kind, .int .u8 (b.priv.toNat : Int), .slice A n cv, .string ⟨b.inter.toArray⟩, .int .u8 (b.final.toNat : Int), .string ⟨b.data.toArray⟩] := k42.grown hg3 (fun e => by injection e with e; omega)
  have k23 : Blk w3 w.heap.size 32 #[.int .i64 0, .int .u8 0, .slice none 0 0, .string ⟨#[]⟩, .int .u8 0, .string ⟨#[]⟩] := k22.grown hg3 (fun e => by injection e with e; omega)
  clear k2 k4 k42 k22 B2 f45 z45 hcv g7 rdD
  obtain ⟨d0, d1, d2, d3, d4, d5⟩ := Blk.cells6 k43
  obtain ⟨y0, y1, y2, y3, y4, y5⟩ := Blk.cells6 k23
  have z0 := k23.frozen 0
  have z1 := k23.frozen 1
  have z2 := k23.frozen 2
  have z3 := k23.frozen 3
  have z4 := k23.frozen 4
  have z5 := k23.frozen 5
  have F13 : Fr w w3 (fun k => k = g) := ((Fr.of_below hb1 (fun k => k = g)).trans hf12 (fun k hk => .inr (by rw [hk]; omega))).trans ((Fr.of_grown hg3).mono (S' := fun k => k = g) fun k hk => by injection hk with hk; exact hk.symm) (fun _ h => .inl h)
  obtain ⟨x, hx⟩ : ∃ x, mayS b.sq = x := ⟨_, rfl⟩
  have HM : ∀ (W : World) (ys : Array Value), Fr w3 W (fun k => k = w.heap.size) → Blk W w.heap.size 32 ys → Blk W (w.heap.size + 1) 32 #[.int .i64 b.kind, .int .u8 (b.priv.toNat : Int), .slice A n cv, .string ⟨b.inter.toArray⟩, .int .u8 (b.final.toNat : Int), .string ⟨b.data.toArray⟩] →
      Calls Tryd.prog 21 #[.agg #[.int .i64 b.kind, .int .u8 (b.priv.toNat : Int), .slice A n cv, .string ⟨b.inter.toArray⟩, .int .u8 (b.final.toNat : Int), .string ⟨b.data.toArray⟩]] W (MayE w3 w.heap.size x ys #[.int .i64 b.kind, .int .u8 (b.priv.toNat : Int), .slice A n cv, .string ⟨b.inter.toArray⟩, .int .u8 (b.final.toNat : Int), .string ⟨b.data.toArray⟩]) := by
    intro W ys hF hY hZ
    have hr : RdP W A b.sq.params := by
      have hW : Fr w W (fun k => k = g) := F13.trans hF (fun k hk => .inr (by rw [hk]; exact Nat.le_refl _))
      have hp := H.out.par.fr' hW (fun k hk e => H.out.no_row (by rw [hk, e])) fun k y hk hy e => H.out.no_one k hk (by rw [hy, e])
      rw [HV.out] at hp
      exact hp.rdP
    have := pmay_any b.sq A cv x W hx (Nat.le_trans H.out.fit.np (by omega)) (fun p hp => Nat.le_trans (H.out.fit.nq p hp).2.1 (by omega)) (Nat.le_trans H.out.fit.ni (by omega)) hr
    unfold sqV PB.sq at this
    dsimp only at this
    rw [hn] at this
    refine this.mono ?_
    rintro e w' ⟨rfl, hb⟩
    exact ⟨rfl, hF.trans (Fr.of_below hb (fun _ => False)) (fun _ h => h.elim), hY.below hb hY.lt, hZ.below hb hZ.lt⟩
  have k23d : Blk w3.drew w.heap.size 32 _ := k23
  have k43d : Blk w3.drew (w.heap.size + 1) 32 _ := k43
  have F3d : Fr w3 w3.drew (fun k => k = w.heap.size) := Fr.drewN w3 1 _
  have k26 := (show Blk w3 w.heap.size 32 _ from k23).set6 (.int .i64 b.kind) (.int .u8 (b.priv.toNat : Int)) (.slice A n cv) (.string ⟨b.inter.toArray⟩) (.int .u8 (b.final.toNat : Int)) (.string ⟨b.data.toArray⟩)
  have F36 := Fr.set6 w3 w.heap.size (.int .i64 b.kind) (.int .u8 (b.priv.toNat : Int)) (.slice A n cv) (.string ⟨b.inter.toArray⟩) (.int .u8 (b.final.toNat : Int)) (.string ⟨b.data.toArray⟩)
  have k46 := k43.fr F36 (by omega)
  have hs5 : ∀ c5 : Nat, sqV b.sq A cv = .agg #[.int .i64 b.kind, .int .u8 (b.priv.toNat : Int), .slice A n cv, .string ⟨b.inter.toArray⟩, .int .u8 (b.final.toNat : Int), .string ⟨b.data.toArray⟩] := fun _ => by
    unfold sqV PB.sq
    dsimp only
    rw [hn]
  have TOLD := Lib.hid (fun w' (F : Fr w3 w' (fun k => k = w.heap.size)) q hq => H.out.told HV.out F13 hb3 F q hq)
  rw [hs5 0] at TOLD
  have HX := Lib.hid hx
  cases hs : b.spoilt with
  | true =>
    have HS := Lib.hid hs
    go_upto_region 4 with (fail)
    go_region
    go_wp2_with fail
    obtain ⟨r0, r1, r2, r3, r4, r5⟩ := Blk.cells6 k26
    refine bodyPost_ret (v := .tuple #[.agg #[.int .i64 b.kind, .int .u8 (b.priv.toNat : Int), .slice A n cv, .string ⟨b.inter.toArray⟩, .int .u8 (b.final.toNat : Int), .string ⟨b.data.toArray⟩], .bool false]) (by simp [results, Tryd.results16, go_sem, r0, r1, r2, r3, r4, r5]) rfl ?_
    exact TOLD.out _ (F36.trans (Fr.drewN _ 1 (fun _ => False)) (fun _ h => h.elim)) false (by rw [HS.out]; rfl)
  | false =>
    have HS := Lib.hid hs
    go_upto_region 4 with (fail)
    go_region_with (go_at_call 21; (first | refine (HM _ _ F3d k23d k43d).mono ?_ | refine (HM _ _ F36 k26 k46).mono ?_); rintro e w5 ⟨rfl, F5, y5, z5⟩; obtain ⟨u0, u1, u2, u3, u4, u5⟩ := Blk.cells6 y5; obtain ⟨v0, v1, v2, v3, v4, v5⟩ := Blk.cells6 z5; have q0 := y5.frozen 0; have q1 := y5.frozen 1; have q2 := y5.frozen 2; have q3 := y5.frozen 3; have q4 := y5.frozen 4; have q5 := y5.frozen 5)
    all_goals
      go_wp2_with fail
      have k56 := y5.set6 (.int .i64 b.kind) (.int .u8 (b.priv.toNat : Int)) (.slice A n cv) (.string ⟨b.inter.toArray⟩) (.int .u8 (b.final.toNat : Int)) (.string ⟨b.data.toArray⟩)
      have F56 := Fr.set6 w5 w.heap.size (.int .i64 b.kind) (.int .u8 (b.priv.toNat : Int)) (.slice A n cv) (.string ⟨b.inter.toArray⟩) (.int .u8 (b.final.toNat : Int)) (.string ⟨b.data.toArray⟩)
      obtain ⟨r0, r1, r2, r3, r4, r5⟩ := Blk.cells6 k56
      refine bodyPost_ret (v := .tuple #[.agg #[.int .i64 b.kind, .int .u8 (b.priv.toNat : Int), .slice A n cv, .string ⟨b.inter.toArray⟩, .int .u8 (b.final.toNat : Int), .string ⟨b.data.toArray⟩], .bool (x == 0)]) (by simp [results, Tryd.results16, go_sem, r0, r1, r2, r3, r4, r5]) rfl ?_
      exact TOLD.out _ (F5.trans F56 (fun _ h => .inl h)) (x == 0) (by rw [HS.out, HX.out]; rfl)
end Go.Proofs.YtdpdgdidfikphaaDoor
