/-
  Stage 18, the landed style, walked: with, withUnder, withColour.
-/
import Derived.Test.YtfifeofmfpjgfaaDoorG12
import Derived.Test.YtfifeofmfpjgfaaDoorG13
namespace Go.Proofs.YtfifeofmfpjgfaaDoor
open Go.RowKit
def RwP (w : World) (base : Nat) (v : Value) (n : Nat) (ps : List (List Int)) : Prop := ∃ xs, Own w base 52 1 v n xs ∧ Rows w w.heap.size 3 xs ps ∧ ∀ x ∈ xs, ∃ A m c, x = .slice A m c ∧ m ≤ c
theorem RwP.nil (w : World) (base : Nat) : RwP w base (.slice none 0 0) 0 [] := ⟨[], Own.nil_ _ _ _ _, ⟨rfl, fun k hk => absurd hk (by simp)⟩, fun x hx => by cases hx⟩
theorem RwP.len {w : World} {base : Nat} {v : Value} {n : Nat} {ps : List (List Int)} (h : RwP w base v n ps) : ps.length = n := by
 obtain ⟨xs, h1, h2, _⟩ := h
 have e1 := h1.1
 have e2 := h2.1
 omega
theorem RwP.below {w w' : World} {base : Nat} {v : Value} {n : Nat} {ps : List (List Int)} (h : RwP w base v n ps) (hb : Below w.heap.size w w') : RwP w' base v n ps := by
 obtain ⟨xs, h1, h2, h3⟩ := h
 exact ⟨xs, h1.below hb (fun k hk => (h1.lt k hk).2), h2.keep hb.size fun k hk _ => hb.block k hk, h3⟩
theorem RwP.rdp {w : World} {base : Nat} {v : Value} {n : Nat} {ps : List (List Int)} (h : RwP w base v n ps) : ∃ A c, v = .slice A n c ∧ n ≤ c ∧ RdP w A ps := by
 have hl := h.len
 obtain ⟨xs, h1, h2, _⟩ := h
 obtain ⟨A, c, e, hr⟩ := h2.rdp h1
 rw [hl] at e
 subst e
 exact ⟨A, c, rfl, h1.cap.1, hr⟩
theorem rd_lit18 (w : World) (t : TypeId) (v : Value) : Rd (w.alloc (.cells #[v] t)) (some ⟨w.heap.size, 0, none⟩) [v] :=
 Rd.block (heap_alloc_new w _) (by simp)
theorem RwP.ls {w : World} {base : Nat} {v : Value} {n : Nat} {ps : List (List Int)} (h : RwP w base v n ps) (hin : ∀ p ∈ ps, ∀ m ∈ p, in18 m) : ∃ A c, v = .slice A n c ∧ n ≤ c ∧ LsIn w A ps := by
 have hl := h.len
 obtain ⟨xs, h1, h2, h3⟩ := h
 obtain ⟨A, c, rfl, hr⟩ := h1.form
 refine ⟨A, c, rfl, h1.cap.1, ⟨fun hp => ?_, hin⟩⟩
 obtain ⟨b, o, rfl, hb, hc⟩ := hr (by rw [h2.1]; exact hp)
 refine ⟨b, o, rfl, hb, fun k hk => ?_⟩
 obtain ⟨A', c', e1, e2⟩ := h2.2 k hk
 obtain ⟨A2, m2, c2, e3, e4⟩ := h3 _ (List.mem_of_getElem? e1)
 injection e3 with x1 x2 x3
 subst x2 x3
 exact ⟨A', _, e4, hc k _ e1, e2.rd⟩
def WiE (base : Nat) (v : Value) (n : Nat) (ps : List (List Int)) (w : World) (e : Ending) (w' : World) : Prop := ∃ v', e = .returned v' ∧ RwP w' base v' n ps ∧ Below base w w' ∧ w.grownBy w' v.ownBlock
theorem RwP.off_blk {w : World} {base : Nat} {v : Value} {n : Nat} {ps : List (List Int)} (h : RwP w base v n ps) {g : Nat} {cs : Array Value} {t : TypeId} (hb : Blk w g t cs) (hne : 52 ≠ t) : v.ownBlock ≠ some g := by
 obtain ⟨xs, h1, _, _⟩ := h
 exact h1.no_cells hb hne
theorem RwP.off_map {P : Program} {H : Type} {K : TypeId} {R : Value → Option (DataW H × List MemPlace)} {D : DataW H} {w : World} {base : Nat} {v : Value} {n m : Nat} {ps : List (List Int)} (h : RwP w base v n ps) {b : Nat} (hb : w.ownsMap P K R b m D) : some b ≠ v.ownBlock := by
 obtain ⟨xs, h1, _, _⟩ := h
 obtain ⟨es, clock, hh, _⟩ := hb
 rcases h1.2 with ⟨rfl, _⟩ | ⟨g, cap, rfl, _, ⟨cur, fz, hx⟩, _⟩
 ·simp [Value.ownBlock]
 ·intro e
  obtain rfl : b = g := by simpa [Value.ownBlock] using e
  rw [hh] at hx
  cases hx
set_option maxRecDepth 100000 in
set_option maxHeartbeats 8000000 in
theorem swith_any (base : Nat) (v : Value) (n : Nat) (ps : List (List Int)) (A : Option Addr) (k c : Nat) (p : List Int) (hk : p.length = k) (hkc : k ≤ c) (w : World) (hn : n ≤ 1000) (hbs : base ≤ w.heap.size) (h : RwP w base v n ps) (hp : RowI w w.heap.size 3 A p) :
 Calls Tryd.prog 69 #[v, .slice A k c] w (WiE base v (n + 1) (ps ++ [p]) w) := by
 obtain ⟨j0, hj, hy0, hy1, hy2⟩ : ∃ i, Tryd.prog.info? 52 = some i ∧ i.zero = some (.slice none 0 0) ∧ i.size = 1 ∧ i.bytes = 24 := ⟨_, rfl, rfl, rfl, rfl⟩
 obtain ⟨xs, h1, h2, h3⟩ := h
 obtain ⟨A0, c0, rfl, _⟩ := h1.form
 have h4 : ∀ x ∈ xs ++ [Value.slice A k c], ∃ A m c, x = .slice A m c ∧ m ≤ c := fun x hx => by
  rcases List.mem_append.1 hx with hx | hx
  ·exact h3 x hx
  ·rw [List.mem_singleton] at hx
   exact ⟨A, k, c, hx, hkc⟩
 have H4 := Lib.hid h4
 clear h3 h4 hkc
 have hB := (Below.refl w.heap.size w).alloc (Nat.le_refl _) (.cells #[.slice A k c] 52)
 have hown := h1.below hB (fun k hk => (h1.lt k hk).2)
 have hrows := h2.keep hB.size (fun k hk _ => hB.block k hk)
 have hrow := hp.keep hB.size (fun k hk _ => hB.block k hk)
 have hlit := rd_lit18 w 52 (.slice A k c)
 have h63 : n + 1 ≤ maxLen := by simp only [maxLen]; omega
 have hlim : (n + 1) * 24 ≤ 140737488355328 := by omega
 have hs := Nat.le_trans hbs hB.size
 have HK := Lib.hid hk
 clear h1 h2 hp hk
 go_enter Tryd.func69, Tryd.ntmps69
 go_wp2_with (at_builtin; refine list_app _ rfl (.tmp 5) (.tmp 7) 28 rfl base 52 j0 _ 1 24 Tryd.underlying28 hj hy0 hy1 hy2 rfl Nat.one_pos (.slice A0 n c0) n xs rfl hown (some ⟨w.heap.size, 0, none⟩) 1 1 [.slice A k c] rfl rfl hlit (sl_one _ _ _) h63 hlim hs ?_; intro v1 w1 ho1 hg1)
 go_ret
 have hb1 : Below base w w1 := (hB.mono hbs).grown hg1 hs (fun g hg => (hown.lt g hg).1)
 exact ⟨v1, rfl, ⟨_, ho1, ((hrows.keep hg1.size (keep_out hown (by decide) hg1)).snoc2 HK.out.symm (hrow.keep hg1.size (keep_out hown (by decide) hg1))), H4.out⟩, hb1, grown_trans (World.grownBy_alloc w _ _) hg1⟩
theorem row_lit (w : World) (p : List Int) : RowI (w.alloc (.cells (is_ p).toArray 3)) (w.alloc (.cells (is_ p).toArray 3)).heap.size 3 (some ⟨w.heap.size, 0, none⟩) p := fun _ =>
 ⟨w.heap.size, rfl, by simp, ⟨_, _, heap_alloc_new w _⟩, fun k u hu => by
   have := lit_cells w (is_ p) 3 k u hu
   rwa [addr_add_at, Nat.zero_add] at this⟩
set_option maxRecDepth 100000 in
set_option maxHeartbeats 8000000 in
theorem swithUnder_any (base : Nat) (v : Value) (n : Nat) (ps : List (List Int)) (u : Int) (u0 : 0 ≤ u) (w : World) (hn : n ≤ 1000) (hbs : base ≤ w.heap.size) (h : RwP w base v n ps) :
 Calls Tryd.prog 71 #[v, .int .i64 u] w (WiE base v (n + (underY u).length) (ps ++ underY u) w) := by
 have hv : ∃ A c, v = .slice A n c := by obtain ⟨A, c, e, _⟩ := h.rdp; exact ⟨A, c, e⟩
 obtain ⟨A0, c0, rfl⟩ := hv
 by_cases h0 : u = 0
 ·subst h0
  rw [show underY 0 = [] from rfl, List.append_nil]
  go_enter Tryd.func71, Tryd.ntmps71
  go_wp2_with fail
  go_ret
  exact ⟨_, rfl, h, Below.refl _ _, World.grownBy.refl _ _⟩
 by_cases h1 : u = 1
 ·subst h1
  rw [show underY 1 = [[4]] from rfl]
  have hB := (Below.refl w.heap.size w).alloc (Nat.le_refl _) (.cells #[.int .i64 (4)] 3)
  have hR : RowI (w.alloc (.cells #[.int .i64 (4)] 3)) (w.alloc (.cells #[.int .i64 (4)] 3)).heap.size 3 (some ⟨w.heap.size, 0, none⟩) [4] := row_lit w [4]
  have hW := h.below hB
  go_enter Tryd.func71, Tryd.ntmps71
  go_wp2_with fail
  refine (swith_any base _ n ps _ 1 _ [4] rfl (Nat.le_refl _) _ hn (Nat.le_trans hbs hB.size) hW hR).mono ?_
  rintro e w1 ⟨v1, rfl, h1, hb1, hg1⟩
  go_wp2_with fail
  go_ret
  exact ⟨v1, rfl, h1, (hB.mono hbs).trans hb1, grown_trans (World.grownBy_alloc w _ _) hg1⟩
 rw [show underY u = [[4, u]] by unfold underY; rw [if_neg h1, if_pos (by omega)]]
 have hB := (Below.refl w.heap.size w).alloc (Nat.le_refl _) (.cells #[.int .i64 (4), .int .i64 (u)] 3)
 have hR : RowI (w.alloc (.cells #[.int .i64 (4), .int .i64 (u)] 3)) (w.alloc (.cells #[.int .i64 (4), .int .i64 (u)] 3)).heap.size 3 (some ⟨w.heap.size, 0, none⟩) [4, u] := row_lit w [4, u]
 have hW := h.below hB
 go_enter Tryd.func71, Tryd.ntmps71
 go_wp2_with fail
 refine (swith_any base _ n ps _ 2 _ [4, u] rfl (Nat.le_refl _) _ hn (Nat.le_trans hbs hB.size) hW hR).mono ?_
 rintro e w1 ⟨v1, rfl, h1, hb1, hg1⟩
 go_wp2_with fail
 go_ret
 exact ⟨v1, rfl, h1, (hB.mono hbs).trans hb1, grown_trans (World.grownBy_alloc w _ _) hg1⟩
set_option maxRecDepth 100000 in
set_option maxHeartbeats 8000000 in
theorem swithColour_any (base : Nat) (v : Value) (n : Nat) (ps : List (List Int)) (far x : Int) (f0 : 0 ≤ far) (f1 : far ≤ 100) (x0 : -1 ≤ x) (x1 : x < 16777472) (w : World) (hn : n ≤ 1000) (hbs : base ≤ w.heap.size) (h : RwP w base v n ps) :
 Calls Tryd.prog 72 #[v, .int .i64 far, .int .i64 x] w (WiE base v (n + (tintY x (far + 30)).length) (ps ++ tintY x (far + 30)) w) := by
 have hv : ∃ A c, v = .slice A n c := by obtain ⟨A, c, e, _⟩ := h.rdp; exact ⟨A, c, e⟩
 obtain ⟨A0, c0, rfl⟩ := hv
 have w1 : IntKind.i64.wrap (far + 30) = far + 30 := by rw [IntKind.wrap_i64]; omega
 have w2 : IntKind.i64.wrap (far + 30 + x) = far + 30 + x := by rw [IntKind.wrap_i64]; omega
 have w3 : IntKind.i64.wrap (far + 90) = far + 90 := by rw [IntKind.wrap_i64]; omega
 have w4 : IntKind.i64.wrap (far + 90 + x) = far + 90 + x := by rw [IntKind.wrap_i64]; omega
 have w5 : IntKind.i64.wrap (far + 90 + x - 8) = far + 90 + x - 8 := by rw [IntKind.wrap_i64]; omega
 have w6 : IntKind.i64.wrap (far + 38) = far + 38 := by rw [IntKind.wrap_i64]; omega
 by_cases h0 : x = -1
 ·subst h0
  rw [show tintY (-1) (far + 30) = [] from rfl, List.append_nil]
  go_enter Tryd.func72, Tryd.ntmps72
  go_wp2_with fail
  go_ret
  exact ⟨_, rfl, h, Below.refl _ _, World.grownBy.refl _ _⟩
 by_cases h1 : x < 8
 ·rw [show tintY x (far + 30) = [[far + 30 + x]] by unfold tintY; rw [if_neg (by omega), if_pos h1]]
  have hB := (Below.refl w.heap.size w).alloc (Nat.le_refl _) (.cells #[.int .i64 (far + 30 + x)] 3)
  have hR : RowI (w.alloc (.cells #[.int .i64 (far + 30 + x)] 3)) (w.alloc (.cells #[.int .i64 (far + 30 + x)] 3)).heap.size 3 (some ⟨w.heap.size, 0, none⟩) [far + 30 + x] := row_lit w [far + 30 + x]
  have hW := h.below hB
  go_enter Tryd.func72, Tryd.ntmps72
  go_wp2_with fail
  refine (swith_any base _ n ps _ 1 _ [far + 30 + x] rfl (Nat.le_refl _) _ hn (Nat.le_trans hbs hB.size) hW hR).mono ?_
  rintro e w1 ⟨v1, rfl, h1, hb1, hg1⟩
  go_wp2_with fail
  go_ret
  exact ⟨v1, rfl, h1, (hB.mono hbs).trans hb1, grown_trans (World.grownBy_alloc w _ _) hg1⟩
 by_cases h2 : x < 16
 ·rw [show tintY x (far + 30) = [[far + 90 + x - 8]] by unfold tintY; rw [if_neg (by omega), if_neg h1, if_pos h2, show far + 30 + 52 + x = far + 90 + x - 8 by omega]]
  have hB := (Below.refl w.heap.size w).alloc (Nat.le_refl _) (.cells #[.int .i64 (far + 90 + x - 8)] 3)
  have hR : RowI (w.alloc (.cells #[.int .i64 (far + 90 + x - 8)] 3)) (w.alloc (.cells #[.int .i64 (far + 90 + x - 8)] 3)).heap.size 3 (some ⟨w.heap.size, 0, none⟩) [far + 90 + x - 8] := row_lit w [far + 90 + x - 8]
  have hW := h.below hB
  go_enter Tryd.func72, Tryd.ntmps72
  go_wp2_with fail
  refine (swith_any base _ n ps _ 1 _ [far + 90 + x - 8] rfl (Nat.le_refl _) _ hn (Nat.le_trans hbs hB.size) hW hR).mono ?_
  rintro e w1 ⟨v1, rfl, h1, hb1, hg1⟩
  go_wp2_with fail
  go_ret
  exact ⟨v1, rfl, h1, (hB.mono hbs).trans hb1, grown_trans (World.grownBy_alloc w _ _) hg1⟩
 by_cases h3 : x < 256
 ·rw [show tintY x (far + 30) = [[far + 38, 5, x]] by unfold tintY; rw [if_neg (by omega), if_neg h1, if_neg h2, if_pos h3, show far + 30 + 8 = far + 38 by omega]]
  have hB := (Below.refl w.heap.size w).alloc (Nat.le_refl _) (.cells #[.int .i64 (far + 38), .int .i64 (5), .int .i64 (x)] 3)
  have hR : RowI (w.alloc (.cells #[.int .i64 (far + 38), .int .i64 (5), .int .i64 (x)] 3)) (w.alloc (.cells #[.int .i64 (far + 38), .int .i64 (5), .int .i64 (x)] 3)).heap.size 3 (some ⟨w.heap.size, 0, none⟩) [far + 38, 5, x] := row_lit w [far + 38, 5, x]
  have hW := h.below hB
  go_enter Tryd.func72, Tryd.ntmps72
  go_wp2_with fail
  refine (swith_any base _ n ps _ 3 _ [far + 38, 5, x] rfl (Nat.le_refl _) _ hn (Nat.le_trans hbs hB.size) hW hR).mono ?_
  rintro e w1 ⟨v1, rfl, h1, hb1, hg1⟩
  go_wp2_with fail
  go_ret
  exact ⟨v1, rfl, h1, (hB.mono hbs).trans hb1, grown_trans (World.grownBy_alloc w _ _) hg1⟩
 obtain ⟨m, hm⟩ : ∃ m, x - 256 = m := ⟨_, rfl⟩
 have m0 : 0 ≤ m := by omega
 have m1 : m < 16777216 := by omega
 have w7 : IntKind.i64.wrap (x - 256) = m := by rw [IntKind.wrap_i64]; omega
 have d1 : m.tdiv 256 = m / 256 := Int.tdiv_eq_ediv_of_nonneg m0
 have d2 : (m / 256).tdiv 256 = m / 65536 := by rw [Int.tdiv_eq_ediv_of_nonneg (by omega)]; omega
 have d3 : (m / 256).tmod 256 = m / 256 % 256 := Int.tmod_eq_emod_of_nonneg (by omega)
 have d4 : m.tmod 256 = m % 256 := Int.tmod_eq_emod_of_nonneg m0
 have q1 : IntKind.i64.wrap (m / 256) = m / 256 := by rw [IntKind.wrap_i64]; omega
 have q2 : IntKind.i64.wrap (m / 65536) = m / 65536 := by rw [IntKind.wrap_i64]; omega
 have q3 : IntKind.i64.wrap (m / 256 % 256) = m / 256 % 256 := by rw [IntKind.wrap_i64]; omega
 have q4 : IntKind.i64.wrap (m % 256) = m % 256 := by rw [IntKind.wrap_i64]; omega
 rw [show tintY x (far + 30) = [[far + 38, 2, -1, m / 65536, m / 256 % 256, m % 256]] by unfold tintY; rw [if_neg (by omega), if_neg h1, if_neg h2, if_neg h3, hm, show far + 30 + 8 = far + 38 by omega]]
 clear hm
 obtain ⟨e1, he1⟩ : ∃ e, m / 65536 = e := ⟨_, rfl⟩
 obtain ⟨e2, he2⟩ : ∃ e, m / 256 = e := ⟨_, rfl⟩
 obtain ⟨e4, he4⟩ : ∃ e, m % 256 = e := ⟨_, rfl⟩
 rw [he2] at d1 d2 d3 q1 q3 ⊢
 rw [he1] at d2 q2 ⊢
 rw [he4] at d4 q4 ⊢
 obtain ⟨e3, he3⟩ : ∃ e, e2 % 256 = e := ⟨_, rfl⟩
 rw [he3] at d3 q3 ⊢
 clear he1 he2 he3 he4 m0 m1
 have hB := (Below.refl w.heap.size w).alloc (Nat.le_refl _) (.cells #[.int .i64 (far + 38), .int .i64 (2), .int .i64 (-1), .int .i64 (e1), .int .i64 (e3), .int .i64 (e4)] 3)
 have hR : RowI (w.alloc (.cells #[.int .i64 (far + 38), .int .i64 (2), .int .i64 (-1), .int .i64 (e1), .int .i64 (e3), .int .i64 (e4)] 3)) (w.alloc (.cells #[.int .i64 (far + 38), .int .i64 (2), .int .i64 (-1), .int .i64 (e1), .int .i64 (e3), .int .i64 (e4)] 3)).heap.size 3 (some ⟨w.heap.size, 0, none⟩) [far + 38, 2, -1, e1, e3, e4] := row_lit w [far + 38, 2, -1, e1, e3, e4]
 have hW := h.below hB
 go_enter Tryd.func72, Tryd.ntmps72
 go_wp2_with fail
 refine (swith_any base _ n ps _ 6 _ [far + 38, 2, -1, e1, e3, e4] rfl (Nat.le_refl _) _ hn (Nat.le_trans hbs hB.size) hW hR).mono ?_
 rintro e w1 ⟨v1, rfl, h1, hb1, hg1⟩
 go_wp2_with fail
 go_ret
 exact ⟨v1, rfl, h1, (hB.mono hbs).trans hb1, grown_trans (World.grownBy_alloc w _ _) hg1⟩
end Go.Proofs.YtfifeofmfpjgfaaDoor
