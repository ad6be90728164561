/-
  Stage 18, the document's style, walked: one, tint.
-/
import Derived.Test.YtfifeofmfpjgfaaDoorG14
import Derived.Test.YtfifeofmfpjgfaaDoorG20
namespace Go.Proofs.YtfifeofmfpjgfaaDoor
open Go.RowKit
set_option maxRecDepth 100000 in
set_option maxHeartbeats 8000000 in
theorem rone18_any (base : Nat) (v : Value) (n : Nat) (ps : List (List Int)) (b : Bool) (m : Int) (w : World) (hn : n ≤ 1000) (hbs : base ≤ w.heap.size) (h : RwP w base v n ps) : Calls Tryd.prog 73 #[v, .bool b, .int .i64 m] w fun e w' => ∃ v', e = .returned v' ∧ RwP w' base v' (n + (oneY b m).length) (ps ++ oneY b m) ∧ Below w.heap.size w w' := by
 obtain ⟨j0, hj, hy0, hy1, hy2⟩ : ∃ i, Tryd.prog.info? 52 = some i ∧ i.zero = some (.slice none 0 0) ∧ i.size = 1 ∧ i.bytes = 24 := ⟨_, rfl, rfl, rfl, rfl⟩
 cases b with
 | false =>
   rw [show oneY false m = [] from rfl, List.append_nil]
   obtain ⟨Av, cv, rfl, _⟩ := h.rdp
   go_enter Tryd.func73, Tryd.ntmps73
   go_wp2_with fail
   go_ret
   exact ⟨_, rfl, h, Below.refl _ _⟩
 | true =>
   rw [show oneY true m = [[m]] from rfl]
   have hv : ∃ A c, v = .slice A n c := by obtain ⟨A, c, e, _⟩ := h.rdp; exact ⟨A, c, e⟩
   obtain ⟨A0, c0, rfl⟩ := hv
   go_enter Tryd.func73, Tryd.ntmps73
   obtain ⟨xs, rr1, rr2, rr3⟩ := h
   have hr0 := rr1.rd
   have hx1 : ∀ u ∈ xs, u.oneCell' = true := fun u hu => by obtain ⟨_, _, _, rfl, _⟩ := rr3 u hu; rfl
   have HXL : Hid (xs.length = n) := Lib.hid (by have := rr1.1; omega)
   have hmk : Own (w.alloc (.cells #[] 52)) w.heap.size 52 1 (.slice (some ⟨w.heap.size, 0, none⟩) 0 0) 0 [] := Own.of (World.ownsRow_made w #[] 0 (Nat.le_refl _) (by decide) rfl)
   have hr1k := Rd.alloc hr0 (.cells #[] 52)
   have qk : Below w.heap.size w (w.alloc (.cells #[] 52)) := (Below.refl _ _).alloc (Nat.le_refl _) _
   have szk := qk.size
   go_wp2_with (first
    | (at_builtin; refine list_app _ rfl (.tmp 11) (.tmp 12) 28 rfl w.heap.size 52 j0 _ 1 24 Tryd.underlying28 hj hy0 hy1 hy2 rfl Nat.one_pos (.slice (some ⟨w.heap.size, 0, none⟩) 0 0) 0 [] rfl hmk A0 n c0 xs rfl (by rw [HXL.out, Nat.mul_one]) hr1k hx1 (by simp only [maxLen]; omega) (by omega) szk ?_; intro v1 w1 ho1 hg1
       have q1 := qk.grown hg1 szk (fun g hg => (hmk.lt g hg).1)
       have q1b := (q1.alloc q1.size (.cells #[.int .i64 m] 3)).alloc (q1.alloc q1.size (.cells #[.int .i64 m] 3)).size (.cells #[.slice (some ⟨w1.heap.size, 0, none⟩) 1 1] 52)
       have ho1b := (ho1.alloc (.cells #[.int .i64 m] 3)).alloc (.cells #[.slice (some ⟨w1.heap.size, 0, none⟩) 1 1] 52)
       have hlit := rd_lit18 (w1.alloc (.cells #[.int .i64 m] 3)) 52 (.slice (some ⟨w1.heap.size, 0, none⟩) 1 1)
       rw [World.size_alloc] at hlit
       have sz1 := q1b.size)
    | (at_builtin; refine list_app _ rfl (.tmp 14) (.tmp 17) 28 rfl w.heap.size 52 j0 _ 1 24 Tryd.underlying28 hj hy0 hy1 hy2 rfl Nat.one_pos v1 _ _ rfl ho1b (some ⟨w1.heap.size + 1, 0, none⟩) 1 1 [.slice (some ⟨w1.heap.size, 0, none⟩) 1 1] rfl rfl hlit (sl_one _ _ _) (by simp only [maxLen]; omega) (by omega) sz1 ?_; intro v2 w2 ho2 hg2))
   have q2 := q1b.grown hg2 sz1 (fun g hg => (ho1b.lt g hg).1)
   have H2 : RwP w2 base v2 (n + 1) (ps ++ [[m]]) := by
    have ho2' : Own w2 base 52 1 v2 (n + 1) (xs ++ [.slice (some ⟨w1.heap.size, 0, none⟩) 1 1]) := by
     have := ho2.mono hbs
     simpa using this
    refine ⟨_, ho2', ?_, fun x hx => ?_⟩
    ·have hr1 : RowI (w1.alloc (.cells #[.int .i64 m] 3)) (w1.alloc (.cells #[.int .i64 m] 3)).heap.size 3 (some ⟨w1.heap.size, 0, none⟩) [m] := row_lit w1 [m]
     have qa : Below (w1.alloc (.cells #[.int .i64 m] 3)).heap.size (w1.alloc (.cells #[.int .i64 m] 3)) ((w1.alloc (.cells #[.int .i64 m] 3)).alloc (.cells #[.slice (some ⟨w1.heap.size, 0, none⟩) 1 1] 52)) := (Below.refl _ _).alloc (Nat.le_refl _) _
     exact ((rr2.keep q1b.size (fun k hk _ => q1b.block k hk)).keep hg2.size (keep_out ho1b (by decide) hg2)).snoc2 rfl ((hr1.keep qa.size (fun k hk _ => qa.block k hk)).keep hg2.size (keep_out ho1b (by decide) hg2))
    ·rcases List.mem_append.1 hx with hx | hx
     ·exact rr3 x hx
     ·exact ⟨_, _, _, List.mem_singleton.1 hx, Nat.le_refl _⟩
   clear hmk hr1k qk szk ho1 hg1 q1 q1b ho1b hlit sz1 ho2 hg2 rr1 rr2 rr3 hr0 hx1
   go_wp2_with fail
   go_ret
   exact ⟨v2, rfl, H2, q2⟩
set_option maxRecDepth 100000 in
set_option maxHeartbeats 8000000 in
theorem rtint18_any (base : Nat) (v : Value) (n : Nat) (ps : List (List Int)) (x base0 : Int) (b0 : 0 ≤ base0) (b1 : base0 ≤ 100) (x0 : -1 ≤ x) (x1 : x < 16777472) (w : World) (hn : n ≤ 1000) (hbs : base ≤ w.heap.size) (h : RwP w base v n ps) : Calls Tryd.prog 74 #[v, .int .i64 x, .int .i64 base0] w fun e w' => ∃ v', e = .returned v' ∧ RwP w' base v' (n + (tintY x base0).length) (ps ++ tintY x base0) ∧ Below w.heap.size w w' := by
 obtain ⟨j0, hj, hy0, hy1, hy2⟩ : ∃ i, Tryd.prog.info? 52 = some i ∧ i.zero = some (.slice none 0 0) ∧ i.size = 1 ∧ i.bytes = 24 := ⟨_, rfl, rfl, rfl, rfl⟩
 have hv : ∃ A c, v = .slice A n c := by obtain ⟨A, c, e, _⟩ := h.rdp; exact ⟨A, c, e⟩
 obtain ⟨A0, c0, rfl⟩ := hv
 have w1 : IntKind.i64.wrap (base0 + x) = base0 + x := by rw [IntKind.wrap_i64]; omega
 have w2 : IntKind.i64.wrap (base0 + 52) = base0 + 52 := by rw [IntKind.wrap_i64]; omega
 have w3 : IntKind.i64.wrap (base0 + 52 + x) = base0 + 52 + x := by rw [IntKind.wrap_i64]; omega
 have w4 : IntKind.i64.wrap (base0 + 8) = base0 + 8 := by rw [IntKind.wrap_i64]; omega
 by_cases h0 : x < 0
 ·rw [show tintY x base0 = [] by unfold tintY; rw [if_pos h0]]
  simp only [List.append_nil]
  go_enter Tryd.func74, Tryd.ntmps74
  go_wp2_with fail
  go_ret
  exact ⟨_, rfl, h, Below.refl _ _⟩
 by_cases h1 : x < 8
 ·rw [show tintY x base0 = [[base0 + x]] by unfold tintY; rw [if_neg h0, if_pos h1]]
  rw [show [[base0 + x]] = oneY true (base0 + x) from rfl]
  go_enter Tryd.func74, Tryd.ntmps74
  go_wp2_with fail
  refine (rone18_any base _ n ps true (base0 + x) w hn hbs h).mono ?_
  rintro e w1 ⟨v1, rfl, h1, hb1⟩
  go_wp2_with fail
  go_ret
  exact ⟨v1, rfl, h1, hb1⟩
 by_cases h2 : x < 16
 ·rw [show tintY x base0 = [[base0 + 52 + x]] by unfold tintY; rw [if_neg h0, if_neg h1, if_pos h2]]
  rw [show [[base0 + 52 + x]] = oneY true (base0 + 52 + x) from rfl]
  go_enter Tryd.func74, Tryd.ntmps74
  go_wp2_with fail
  refine (rone18_any base _ n ps true (base0 + 52 + x) w hn hbs h).mono ?_
  rintro e w1 ⟨v1, rfl, h1, hb1⟩
  go_wp2_with fail
  go_ret
  exact ⟨v1, rfl, h1, hb1⟩
 by_cases h3 : x < 256
 ·rw [show tintY x base0 = [[base0 + 8, 5, x]] by unfold tintY; rw [if_neg h0, if_neg h1, if_neg h2, if_pos h3]]
  go_enter Tryd.func74, Tryd.ntmps74
  obtain ⟨xs, rr1, rr2, rr3⟩ := h
  have hr0 := rr1.rd
  have hx1 : ∀ u ∈ xs, u.oneCell' = true := fun u hu => by obtain ⟨_, _, _, rfl, _⟩ := rr3 u hu; rfl
  have HXL : Hid (xs.length = n) := Lib.hid (by have := rr1.1; omega)
  have hmk : Own (w.alloc (.cells #[] 52)) w.heap.size 52 1 (.slice (some ⟨w.heap.size, 0, none⟩) 0 0) 0 [] := Own.of (World.ownsRow_made w #[] 0 (Nat.le_refl _) (by decide) rfl)
  have hr1k := Rd.alloc hr0 (.cells #[] 52)
  have qk : Below w.heap.size w (w.alloc (.cells #[] 52)) := (Below.refl _ _).alloc (Nat.le_refl _) _
  have szk := qk.size
  go_wp2_with (first
   | (at_builtin; refine list_app _ rfl (.tmp 30) (.tmp 31) 28 rfl w.heap.size 52 j0 _ 1 24 Tryd.underlying28 hj hy0 hy1 hy2 rfl Nat.one_pos (.slice (some ⟨w.heap.size, 0, none⟩) 0 0) 0 [] rfl hmk A0 n c0 xs rfl (by rw [HXL.out, Nat.mul_one]) hr1k hx1 (by simp only [maxLen]; omega) (by omega) szk ?_; intro v1 w1 ho1 hg1
      have q1 := qk.grown hg1 szk (fun g hg => (hmk.lt g hg).1)
      have q1b := (q1.alloc q1.size (.cells #[.int .i64 (base0 + 8), .int .i64 5, .int .i64 x] 3)).alloc (q1.alloc q1.size (.cells #[.int .i64 (base0 + 8), .int .i64 5, .int .i64 x] 3)).size (.cells #[.slice (some ⟨w1.heap.size, 0, none⟩) 3 3] 52)
      have ho1b := (ho1.alloc (.cells #[.int .i64 (base0 + 8), .int .i64 5, .int .i64 x] 3)).alloc (.cells #[.slice (some ⟨w1.heap.size, 0, none⟩) 3 3] 52)
      have hlit := rd_lit18 (w1.alloc (.cells #[.int .i64 (base0 + 8), .int .i64 5, .int .i64 x] 3)) 52 (.slice (some ⟨w1.heap.size, 0, none⟩) 3 3)
      rw [World.size_alloc] at hlit
      have sz1 := q1b.size)
   | (at_builtin; refine list_app _ rfl (.tmp 35) (.tmp 40) 28 rfl w.heap.size 52 j0 _ 1 24 Tryd.underlying28 hj hy0 hy1 hy2 rfl Nat.one_pos v1 _ _ rfl ho1b (some ⟨w1.heap.size + 1, 0, none⟩) 1 1 [.slice (some ⟨w1.heap.size, 0, none⟩) 3 3] rfl rfl hlit (sl_one _ _ _) (by simp only [maxLen]; omega) (by omega) sz1 ?_; intro v2 w2 ho2 hg2))
  have q2 := q1b.grown hg2 sz1 (fun g hg => (ho1b.lt g hg).1)
  have H2 : RwP w2 base v2 (n + 1) (ps ++ [[base0 + 8, 5, x]]) := by
   have ho2' : Own w2 base 52 1 v2 (n + 1) (xs ++ [.slice (some ⟨w1.heap.size, 0, none⟩) 3 3]) := by
    have := ho2.mono hbs
    simpa using this
   refine ⟨_, ho2', ?_, fun x hx => ?_⟩
   ·have hr1 : RowI (w1.alloc (.cells #[.int .i64 (base0 + 8), .int .i64 5, .int .i64 x] 3)) (w1.alloc (.cells #[.int .i64 (base0 + 8), .int .i64 5, .int .i64 x] 3)).heap.size 3 (some ⟨w1.heap.size, 0, none⟩) [base0 + 8, 5, x] := row_lit w1 [base0 + 8, 5, x]
    have qa : Below (w1.alloc (.cells #[.int .i64 (base0 + 8), .int .i64 5, .int .i64 x] 3)).heap.size (w1.alloc (.cells #[.int .i64 (base0 + 8), .int .i64 5, .int .i64 x] 3)) ((w1.alloc (.cells #[.int .i64 (base0 + 8), .int .i64 5, .int .i64 x] 3)).alloc (.cells #[.slice (some ⟨w1.heap.size, 0, none⟩) 3 3] 52)) := (Below.refl _ _).alloc (Nat.le_refl _) _
    exact ((rr2.keep q1b.size (fun k hk _ => q1b.block k hk)).keep hg2.size (keep_out ho1b (by decide) hg2)).snoc2 rfl ((hr1.keep qa.size (fun k hk _ => qa.block k hk)).keep hg2.size (keep_out ho1b (by decide) hg2))
   ·rcases List.mem_append.1 hx with hx | hx
    ·exact rr3 x hx
    ·exact ⟨_, _, _, List.mem_singleton.1 hx, Nat.le_refl _⟩
  clear hmk hr1k qk szk ho1 hg1 q1 q1b ho1b hlit sz1 ho2 hg2 rr1 rr2 rr3 hr0 hx1
  go_wp2_with fail
  go_ret
  exact ⟨v2, rfl, H2, q2⟩
 obtain ⟨m, hm⟩ : ∃ m, x - 256 = m := ⟨_, rfl⟩
 have m0 : 0 ≤ m := by omega
 have m1 : m < 16777216 := by omega
 have w7 : IntKind.i64.wrap (x - 256) = m := by rw [IntKind.wrap_i64]; omega
 have d1 : m.tdiv 65536 = m / 65536 := Int.tdiv_eq_ediv_of_nonneg m0
 have d2 : m.tdiv 256 = m / 256 := Int.tdiv_eq_ediv_of_nonneg m0
 have d3 : (m / 256).tmod 256 = m / 256 % 256 := Int.tmod_eq_emod_of_nonneg (by omega)
 have d4 : m.tmod 256 = m % 256 := Int.tmod_eq_emod_of_nonneg m0
 have p1 : IntKind.i64.wrap (m / 65536) = m / 65536 := by rw [IntKind.wrap_i64]; omega
 have p2 : IntKind.i64.wrap (m / 256) = m / 256 := by rw [IntKind.wrap_i64]; omega
 have p3 : IntKind.i64.wrap (m / 256 % 256) = m / 256 % 256 := by rw [IntKind.wrap_i64]; omega
 have p4 : IntKind.i64.wrap (m % 256) = m % 256 := by rw [IntKind.wrap_i64]; omega
 rw [show tintY x base0 = [[base0 + 8, 2, -1, m / 65536, m / 256 % 256, m % 256]] by unfold tintY; rw [if_neg h0, if_neg h1, if_neg h2, if_neg h3, hm]]
 clear hm
 obtain ⟨e1, he1⟩ : ∃ e, m / 65536 = e := ⟨_, rfl⟩
 obtain ⟨e2, he2⟩ : ∃ e, m / 256 = e := ⟨_, rfl⟩
 obtain ⟨e4, he4⟩ : ∃ e, m % 256 = e := ⟨_, rfl⟩
 rw [he2] at d2 d3 p2 p3 ⊢
 rw [he1] at d1 p1 ⊢
 rw [he4] at d4 p4 ⊢
 obtain ⟨e3, he3⟩ : ∃ e, e2 % 256 = e := ⟨_, rfl⟩
 rw [he3] at d3 p3 ⊢
 clear he1 he2 he3 he4 m0 m1
 go_enter Tryd.func74, Tryd.ntmps74
 obtain ⟨xs, rr1, rr2, rr3⟩ := h
 have hr0 := rr1.rd
 have hx1 : ∀ u ∈ xs, u.oneCell' = true := fun u hu => by obtain ⟨_, _, _, rfl, _⟩ := rr3 u hu; rfl
 have HXL : Hid (xs.length = n) := Lib.hid (by have := rr1.1; omega)
 have hmk : Own (w.alloc (.cells #[] 52)) w.heap.size 52 1 (.slice (some ⟨w.heap.size, 0, none⟩) 0 0) 0 [] := Own.of (World.ownsRow_made w #[] 0 (Nat.le_refl _) (by decide) rfl)
 have hr1k := Rd.alloc hr0 (.cells #[] 52)
 have qk : Below w.heap.size w (w.alloc (.cells #[] 52)) := (Below.refl _ _).alloc (Nat.le_refl _) _
 have szk := qk.size
 go_wp2_with (first
  | (at_builtin; refine list_app _ rfl (.tmp 30) (.tmp 31) 28 rfl w.heap.size 52 j0 _ 1 24 Tryd.underlying28 hj hy0 hy1 hy2 rfl Nat.one_pos (.slice (some ⟨w.heap.size, 0, none⟩) 0 0) 0 [] rfl hmk A0 n c0 xs rfl (by rw [HXL.out, Nat.mul_one]) hr1k hx1 (by simp only [maxLen]; omega) (by omega) szk ?_; intro v1 w1 ho1 hg1
     have q1 := qk.grown hg1 szk (fun g hg => (hmk.lt g hg).1)
     have q1b := (q1.alloc q1.size (.cells #[.int .i64 (base0 + 8), .int .i64 2, .int .i64 (-1), .int .i64 e1, .int .i64 e3, .int .i64 e4] 3)).alloc (q1.alloc q1.size (.cells #[.int .i64 (base0 + 8), .int .i64 2, .int .i64 (-1), .int .i64 e1, .int .i64 e3, .int .i64 e4] 3)).size (.cells #[.slice (some ⟨w1.heap.size, 0, none⟩) 6 6] 52)
     have ho1b := (ho1.alloc (.cells #[.int .i64 (base0 + 8), .int .i64 2, .int .i64 (-1), .int .i64 e1, .int .i64 e3, .int .i64 e4] 3)).alloc (.cells #[.slice (some ⟨w1.heap.size, 0, none⟩) 6 6] 52)
     have hlit := rd_lit18 (w1.alloc (.cells #[.int .i64 (base0 + 8), .int .i64 2, .int .i64 (-1), .int .i64 e1, .int .i64 e3, .int .i64 e4] 3)) 52 (.slice (some ⟨w1.heap.size, 0, none⟩) 6 6)
     rw [World.size_alloc] at hlit
     have sz1 := q1b.size)
  | (at_builtin; refine list_app _ rfl (.tmp 44) (.tmp 55) 28 rfl w.heap.size 52 j0 _ 1 24 Tryd.underlying28 hj hy0 hy1 hy2 rfl Nat.one_pos v1 _ _ rfl ho1b (some ⟨w1.heap.size + 1, 0, none⟩) 1 1 [.slice (some ⟨w1.heap.size, 0, none⟩) 6 6] rfl rfl hlit (sl_one _ _ _) (by simp only [maxLen]; omega) (by omega) sz1 ?_; intro v2 w2 ho2 hg2))
 have q2 := q1b.grown hg2 sz1 (fun g hg => (ho1b.lt g hg).1)
 have H2 : RwP w2 base v2 (n + 1) (ps ++ [[base0 + 8, 2, -1, e1, e3, e4]]) := by
  have ho2' : Own w2 base 52 1 v2 (n + 1) (xs ++ [.slice (some ⟨w1.heap.size, 0, none⟩) 6 6]) := by
   have := ho2.mono hbs
   simpa using this
  refine ⟨_, ho2', ?_, fun x hx => ?_⟩
  ·have hr1 : RowI (w1.alloc (.cells #[.int .i64 (base0 + 8), .int .i64 2, .int .i64 (-1), .int .i64 e1, .int .i64 e3, .int .i64 e4] 3)) (w1.alloc (.cells #[.int .i64 (base0 + 8), .int .i64 2, .int .i64 (-1), .int .i64 e1, .int .i64 e3, .int .i64 e4] 3)).heap.size 3 (some ⟨w1.heap.size, 0, none⟩) [base0 + 8, 2, -1, e1, e3, e4] := row_lit w1 [base0 + 8, 2, -1, e1, e3, e4]
   have qa : Below (w1.alloc (.cells #[.int .i64 (base0 + 8), .int .i64 2, .int .i64 (-1), .int .i64 e1, .int .i64 e3, .int .i64 e4] 3)).heap.size (w1.alloc (.cells #[.int .i64 (base0 + 8), .int .i64 2, .int .i64 (-1), .int .i64 e1, .int .i64 e3, .int .i64 e4] 3)) ((w1.alloc (.cells #[.int .i64 (base0 + 8), .int .i64 2, .int .i64 (-1), .int .i64 e1, .int .i64 e3, .int .i64 e4] 3)).alloc (.cells #[.slice (some ⟨w1.heap.size, 0, none⟩) 6 6] 52)) := (Below.refl _ _).alloc (Nat.le_refl _) _
   exact ((rr2.keep q1b.size (fun k hk _ => q1b.block k hk)).keep hg2.size (keep_out ho1b (by decide) hg2)).snoc2 rfl ((hr1.keep qa.size (fun k hk _ => qa.block k hk)).keep hg2.size (keep_out ho1b (by decide) hg2))
  ·rcases List.mem_append.1 hx with hx | hx
   ·exact rr3 x hx
   ·exact ⟨_, _, _, List.mem_singleton.1 hx, Nat.le_refl _⟩
 clear hmk hr1k qk szk ho1 hg1 q1 q1b ho1b hlit sz1 ho2 hg2 rr1 rr2 rr3 hr0 hx1
 go_wp2_with fail
 go_ret
 exact ⟨v2, rfl, H2, q2⟩
end Go.Proofs.YtfifeofmfpjgfaaDoor
