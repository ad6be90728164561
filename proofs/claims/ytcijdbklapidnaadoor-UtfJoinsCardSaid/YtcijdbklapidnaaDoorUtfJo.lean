/-
  Layer 2's law of bytes one behind the other, walked.
-/
import Derived.Test.YtcijdbklapidnaaDoorUtfU
namespace Go.Proofs.YtcijdbklapidnaaDoor
open Go.RowKit

/-- append in the order of the text, where a guard lets it by. -/
theorem list_app_g {P : Program} (w : World) {ops : Array Oper} {rest : List Oper} {o : Oper} {a : Act} {Q : Exit → Act → World → Prop} (hgd : Region.wanted o (yielded ops a.tmps) = true) (s x : Operand) (t : TypeId) (ho : o.op = .call { callee := .builtin .append, args := #[s, x], argTypes := #[t, t] })
    (base : Nat) (e : TypeId) (i : TypeInfo) (z : Value) (sz bytes : Nat) (ht : P.underlying t = some (.slice e)) (hi : P.info? e = some i) (hz : i.zero = some z) (hsize : i.size = sz) (hby : i.bytes = bytes) (hzs : z.cells.size = sz) (hsz : 0 < sz)
    (v : Value) (n : Nat) (xs : List Value) (hs : a.eval s = v) (hown : Own w base e sz v n xs) (A : Option Addr) (m c : Nat) (news : List Value) (hx : a.eval x = .slice A m c) (hl : news.length = m * sz) (hr : Rd w A news) (h1 : ∀ u ∈ news, u.oneCell' = true)
    (h63 : n + m ≤ maxLen) (hlim : (n + m) * bytes ≤ 140737488355328) (hbase : base ≤ w.heap.size)
    (h : ∀ v' w', Own w' base e sz v' (n + m) (xs ++ news) → w.grownBy w' v.ownBlock → wpList P ops Q rest (a.put o.dst v') w') : wpList P ops Q (o :: rest) a w := by
  unfold wpList
  rw [if_pos hgd]
  exact .inl (wp_app w s x t ho base e i z sz bytes ht hi hz hsize hby hzs hsz v n xs hs hown A m c news hx hl hr h1 h63 hlim hbase h)

set_option maxRecDepth 100000 in
set_option maxHeartbeats 8000000 in
theorem utfJoins_walk (A : Option Addr) (a : List UInt8) (c : Nat) (hac : a.length ≤ c) (za : a.length ≤ 140737488351232) (B : Option Addr) (b : List UInt8) (d : Nat) (hbd : b.length ≤ d) (zb : b.length ≤ 140737488351232) (w : World) (hra : Rd w A (bs a)) (hrb : Rd w B (bs b)) (hs : Siz w) :
    Calls Tryd.prog 7 #[.slice A a.length c, .slice B b.length d] w fun e w' => e = .returned (.bool true) ∧ Below w.heap.size w w' := by
  obtain ⟨i0, hi, hz0, hz1, hz2⟩ := info_parts Tryd.u8info
  obtain ⟨i1, hi1, hy0, hy1, hy2⟩ := info_parts Tryd.intinfo
  by_cases hlen : 100 < a.length + b.length
  · go_enter Tryd.func7, Tryd.ntmps7
    go_wp2_with fail
    refine (awake_any _ hs).mono ?_
    rintro e w1 ⟨rfl, hb1⟩
    go_wp2_with fail
    go_ret
    exact ⟨rfl, hb1⟩
  · have hl : a.length + b.length ≤ 100 := by omega
    clear hlen za zb
    cases hA : allL a with
    | none =>
      have HA := Lib.hid hA
      clear hA
      go_enter Tryd.func7, Tryd.ntmps7
      go_wp2_with fail
      refine (awake_any _ hs).mono ?_
      rintro e w1 ⟨rfl, hb1⟩
      go_wp2_with fail
      refine (Valid_at A _ c a false _ rfl (by rw [HA.out]; rfl) (hs.below' hb1) (by omega) hac (hra.below hb1)).mono ?_
      rintro e w2 ⟨rfl, hb2⟩
      have hb2 : Below w.heap.size w w2 := hb1.trans (hb2.mono hb1.size)
      go_wp2_with fail
      go_ret
      exact ⟨rfl, hb2⟩
    | some k =>
      have hkl := all_length hA
      have HA := Lib.hid hA
      have HAB := Lib.hid (all_append hA b)
      clear hA
      have h1 : 0 + a.length ≤ maxLen := by simp only [maxLen]; omega
      have h2 : (0 + a.length) * 1 ≤ 140737488355328 := by omega
      have h3 : 0 + a.length + b.length ≤ maxLen := by simp only [maxLen]; omega
      have h4 : (0 + a.length + b.length) * 1 ≤ 140737488355328 := by omega
      have oa := bs_one a
      have ob := bs_one b
      cases hB : allL b with
      | none =>
        have HB := Lib.hid hB
        have HN := Lib.hid (show allL (a ++ b) = none by rw [HAB.out, hB]; rfl)
        clear hB
        go_enter Tryd.func7, Tryd.ntmps7
        go_wp2_with fail
        refine (awake_any _ hs).mono ?_
        rintro e w1 ⟨rfl, hb1⟩
        go_wp2_with fail
        refine (Valid_at A _ c a true _ rfl (by rw [HA.out]; rfl) (hs.below' hb1) (by omega) hac (hra.below hb1)).mono ?_
        rintro e w2 ⟨rfl, hb2⟩
        have hb2 : Below w.heap.size w w2 := hb1.trans (hb2.mono hb1.size)
        go_wp2_with fail
        refine (All_at A _ c a k k.length _ rfl HA.out rfl (hs.below' hb2) (by omega) hac (hra.below hb2)).mono ?_
        rintro e w3 ⟨A3, c3, rfl, hr3, hb3⟩
        have hb3 : Below w.heap.size w w3 := hb2.trans (hb3.mono hb2.size)
        go_wp2_with fail
        refine (All_none B _ d b _ rfl HB.out (hs.below' hb3) (by omega) hbd (hrb.below hb3)).mono ?_
        rintro e w4 ⟨rfl, hb4⟩
        have hb4 : Below w.heap.size w w4 := hb3.trans (hb4.mono hb3.size)
        have hs4 := hb4.size
        have hown4 : Own (w4.alloc (.cells #[] 5)) w.heap.size 5 1 (.slice (some ⟨w4.heap.size, 0, none⟩) 0 0) 0 [] := Own.of (World.ownsRow_made w4 #[] 0 hs4 (by decide) rfl)
        have hra4 := (hra.below hb4).alloc (.cells #[] 5)
        have hb4a : Below w.heap.size w (w4.alloc (.cells #[] 5)) := hb4.alloc hs4 _
        have hs4a := hb4a.size
        go_wp2_with (first
          | (at_builtin; refine list_app _ rfl (.tmp 36) (.tmp 37) 22 rfl w.heap.size 5 i0 _ 1 1 Tryd.underlying22 hi hz0 hz1 hz2 rfl Nat.one_pos (.slice (some ⟨w4.heap.size, 0, none⟩) 0 0) 0 [] rfl hown4 A a.length c (bs a) rfl (by simp [bs]) hra4 oa h1 h2 hs4a ?_; intro v5 w5 hown5 hg5
             have hb5 : Below w.heap.size w w5 := hb4a.grown hg5 hs4a (fun g hg => (hown4.lt g hg).1)
             have hrb5 := hrb.below hb5
             have hs5 := hb5.size)
          | (at_builtin; refine list_app _ rfl (.tmp 38) (.tmp 39) 22 rfl w.heap.size 5 i0 _ 1 1 Tryd.underlying22 hi hz0 hz1 hz2 rfl Nat.one_pos v5 _ _ rfl hown5 B b.length d (bs b) rfl (by simp [bs]) hrb5 ob h3 h4 hs5 ?_; intro v6 w6 hown6 hg6))
        have hb6 : Below w.heap.size w w6 := hb5.grown hg6 hs5 (fun g hg => (hown5.lt g hg).1)
        obtain ⟨A6, c6, rfl, hc6, hr6⟩ := hown6.cap
        have hr6 : Rd w6 A6 (bs (a ++ b)) := by rw [bs_append]; simpa using hr6
        clear hown4 hown5 hown6 hg5 hg6 hra4 hrb5 h1 h2 h3 h4
        go_wp2_with fail
        refine (All_none A6 _ c6 (a ++ b) _ (by rw [List.length_append]; omega) HN.out (hs.below' hb6) (by rw [List.length_append]; omega) (by omega) hr6).mono ?_
        rintro e w7 ⟨rfl, hb7⟩
        have hb7 : Below w.heap.size w w7 := hb6.trans (hb7.mono hb6.size)
        go_wp2_with fail
        go_ret
        exact ⟨rfl, hb7⟩
      | some k2 =>
        have hkl2 := all_length hB
        have HB := Lib.hid hB
        have HN := Lib.hid (show allL (a ++ b) = some (k ++ k2) by rw [HAB.out, hB]; rfl)
        clear hB
        go_enter Tryd.func7, Tryd.ntmps7
        go_wp2_with fail
        refine (awake_any _ hs).mono ?_
        rintro e w1 ⟨rfl, hb1⟩
        go_wp2_with fail
        refine (Valid_at A _ c a true _ rfl (by rw [HA.out]; rfl) (hs.below' hb1) (by omega) hac (hra.below hb1)).mono ?_
        rintro e w2 ⟨rfl, hb2⟩
        have hb2 : Below w.heap.size w w2 := hb1.trans (hb2.mono hb1.size)
        go_wp2_with fail
        refine (All_at A _ c a k k.length _ rfl HA.out rfl (hs.below' hb2) (by omega) hac (hra.below hb2)).mono ?_
        rintro e w3 ⟨A3, c3, rfl, hr3, hb3⟩
        have hb3 : Below w.heap.size w w3 := hb2.trans (hb3.mono hb2.size)
        go_wp2_with fail
        refine (All_at B _ d b k2 k2.length _ rfl HB.out rfl (hs.below' hb3) (by omega) hbd (hrb.below hb3)).mono ?_
        rintro e w4 ⟨A4, c4, rfl, hr4, hb4⟩
        have hr3 := hr3.below hb4
        have hb4 : Below w.heap.size w w4 := hb3.trans (hb4.mono hb3.size)
        have hs4 := hb4.size
        have hown4 : Own (w4.alloc (.cells #[] 5)) w4.heap.size 5 1 (.slice (some ⟨w4.heap.size, 0, none⟩) 0 0) 0 [] := Own.of (World.ownsRow_made w4 #[] 0 (Nat.le_refl _) (by decide) rfl)
        have hra4 := (hra.below hb4).alloc (.cells #[] 5)
        have q4 : Below w4.heap.size w4 (w4.alloc (.cells #[] 5)) := (Below.refl _ _).alloc (Nat.le_refl _) _
        have hs4a := q4.size
        go_wp2_with (first
          | (at_builtin; refine list_app _ rfl (.tmp 36) (.tmp 37) 22 rfl w4.heap.size 5 i0 _ 1 1 Tryd.underlying22 hi hz0 hz1 hz2 rfl Nat.one_pos (.slice (some ⟨w4.heap.size, 0, none⟩) 0 0) 0 [] rfl hown4 A a.length c (bs a) rfl (by simp [bs]) hra4 oa h1 h2 hs4a ?_; intro v5 w5 hown5 hg5
             have q5 : Below w4.heap.size w4 w5 := q4.grown hg5 hs4a (fun g hg => (hown4.lt g hg).1)
             have hrb5 := hrb.below (hb4.trans (q5.mono hs4))
             have hs5 := q5.size)
          | (at_builtin; refine list_app _ rfl (.tmp 38) (.tmp 39) 22 rfl w4.heap.size 5 i0 _ 1 1 Tryd.underlying22 hi hz0 hz1 hz2 rfl Nat.one_pos v5 _ _ rfl hown5 B b.length d (bs b) rfl (by simp [bs]) hrb5 ob h3 h4 hs5 ?_; intro v6 w6 hown6 hg6))
        have q6 : Below w4.heap.size w4 w6 := q5.grown hg6 hs5 (fun g hg => (hown5.lt g hg).1)
        have hb6 : Below w.heap.size w w6 := hb4.trans (q6.mono hs4)
        have hr3 := hr3.below q6
        have hr4 := hr4.below q6
        obtain ⟨A6, c6, rfl, hc6, hr6⟩ := hown6.cap
        have hr6 : Rd w6 A6 (bs (a ++ b)) := by rw [bs_append]; simpa using hr6
        clear hown4 hown5 hown6 hg5 hg6 hra4 hrb5 h1 h2 h3 h4 q4 q5 q6 hs4a hs5 hs4
        go_wp2_with fail
        refine (All_at A6 _ c6 (a ++ b) (k ++ k2) _ _ (by rw [List.length_append]; omega) HN.out rfl (hs.below' hb6) (by rw [List.length_append]; omega) (by omega) hr6).mono ?_
        rintro e w7 ⟨A7, c7, rfl, hr7, hb7⟩
        have hr3 := hr3.below hb7
        have hr4 := hr4.below hb7
        have hb7 : Below w.heap.size w w7 := hb6.trans (hb7.mono hb6.size)
        have hs7 := hb7.size
        have ok := ints_one (k := .i64) k
        have ok2 := ints_one (k := .i64) k2
        have g1 : 0 + k.length ≤ maxLen := by simp only [maxLen]; omega
        have g2 : (0 + k.length) * 8 ≤ 140737488355328 := by omega
        have g3 : 0 + k.length + k2.length ≤ maxLen := by simp only [maxLen]; omega
        have g4 : (0 + k.length + k2.length) * 8 ≤ 140737488355328 := by omega
        have hown7 : Own (w7.alloc (.cells #[] 3)) w7.heap.size 3 1 (.slice (some ⟨w7.heap.size, 0, none⟩) 0 0) 0 [] := Own.of (World.ownsRow_made w7 #[] 0 (Nat.le_refl _) (by decide) rfl)
        have hr37 := hr3.alloc (.cells #[] 3)
        have q7 : Below w7.heap.size w7 (w7.alloc (.cells #[] 3)) := (Below.refl _ _).alloc (Nat.le_refl _) _
        have hs7a := q7.size
        go_wp2_with (first
          | (at_builtin; refine list_app_g _ rfl (.tmp 55) (.tmp 56) 28 rfl w7.heap.size 3 i1 _ 1 8 Tryd.underlying28 hi1 hy0 hy1 hy2 rfl Nat.one_pos (.slice (some ⟨w7.heap.size, 0, none⟩) 0 0) 0 [] rfl hown7 A3 k.length c3 (is_ k) rfl (by simp [is_]) hr37 ok g1 g2 hs7a ?_; intro v8 w8 hown8 hg8
             have q8 : Below w7.heap.size w7 w8 := q7.grown hg8 hs7a (fun g hg => (hown7.lt g hg).1)
             have hr48 := hr4.below q8
             have hs8 := q8.size)
          | (at_builtin; refine list_app_g _ rfl (.tmp 57) (.tmp 58) 28 rfl w7.heap.size 3 i1 _ 1 8 Tryd.underlying28 hi1 hy0 hy1 hy2 rfl Nat.one_pos v8 _ _ rfl hown8 A4 k2.length c4 (is_ k2) rfl (by simp [is_]) hr48 ok2 g3 g4 hs8 ?_; intro v9 w9 hown9 hg9))
        have q9 : Below w7.heap.size w7 w9 := q8.grown hg9 hs8 (fun g hg => (hown8.lt g hg).1)
        have hr79 := hr7.below q9
        have hb9 : Below w.heap.size w w9 := hb7.trans (q9.mono hs7)
        obtain ⟨A9, c9, rfl, hr9⟩ := hown9.form
        have hr9 : Rd w9 A9 (is_ (k ++ k2)) := by
          have e : is_ (k ++ k2) = [] ++ is_ k ++ is_ k2 := by simp [is_]
          rw [e]; exact hr9
        clear hown7 hown8 hown9 hg8 hg9 hr37 hr48 q7 q8 q9
        refine (Ints_at A7 _ c7 (k ++ k2) A9 _ c9 (k ++ k2) true _ List.length_append (by rw [List.length_append]; omega) (decide_eq_true rfl) (by rw [List.length_append]; omega) (by rw [List.length_append]; omega) hr79 hr9).mono ?_
        rintro e w10 ⟨rfl, hb10⟩
        have hb10 : Below w.heap.size w w10 := hb9.trans (hb10.mono hb9.size)
        go_wp2_with fail
        go_ret
        exact ⟨rfl, hb10⟩
end Go.Proofs.YtcijdbklapidnaaDoor
