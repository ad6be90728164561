/-
  Layer 3: the walk of the law WireNums.
-/
import Derived.Test.YtmmbfidnbdckmaaDoorWpC
import Derived.Test.YtmmbfidnbdckmaaDoorWpK
import Derived.Deep.Cut
import Derived.Deep.RegionLaw
import Derived.Deep.RegionHeld
namespace Go.Proofs.YtmmbfidnbdckmaaDoor
open Go.RowKit

theorem Blk.cells2 {w : World} {g : Nat} {t : TypeId} {a b : Value} (h : Blk w g t #[a, b]) : w.cell? ⟨g, 0, none⟩ = some a ∧ w.cell? ⟨g, 1, none⟩ = some b := ⟨h.cell 0, h.cell 1⟩
/-- The boxes of the law's arguments. -/
structure Bn (w W : World) (x y : UInt8) (p q : Int) : Prop where
  b0 : Blk W w.heap.size 46 #[.int .u8 (x.toNat : Int), .int .u8 (y.toNat : Int)]
  b1 : Blk W (w.heap.size + 1) 48 #[.int .i64 p, .int .i64 q]
  be : Below w.heap.size w W
theorem Bn.next {w W W' : World} {x y : UInt8} {p q : Int} (h : Bn w W x y p q) (hb : Below W.heap.size W W') : Bn w W' x y p q :=
  ⟨h.b0.below hb h.b0.lt, h.b1.below hb h.b1.lt, h.be.trans (hb.mono h.be.size)⟩

theorem num_sq (x y : UInt8) (l : List Int) (n : Nat) (hn : l.length = n) (A : Option Addr) (c : Nat) : sqV (numS x y l) A c = .agg #[.int .i64 1, .int .u8 (x.toNat : Int), .slice A n c, .string ⟨#[]⟩, .int .u8 (y.toNat : Int), .string ⟨#[]⟩] := by
  have h : (numS x y l).params.length = n := by show (l.map fun n => [n]).length = n; rw [List.length_map]; exact hn
  unfold sqV
  rw [h]
  rfl
theorem num_rows (x y : UInt8) (l : List Int) : ∀ p ∈ (numS x y l).params, p.length ≤ 4294967296 := by
  intro p hp
  obtain ⟨n, _, rfl⟩ := List.mem_map.1 (show p ∈ l.map fun n => [n] from hp)
  simp
theorem rsame_num (x y : UInt8) (l : List Int) (n : Nat) (hn : l.length = n) (hl : n ≤ 30) (A B : Option Addr) (c d : Nat) (w : World) (ha : RdP w A (l.map fun n => [n])) (hb : RdP w B (l.map fun n => [n])) :
    Calls Tryd.prog 17 #[.agg #[.int .i64 1, .int .u8 (x.toNat : Int), .slice A n c, .string ⟨#[]⟩, .int .u8 (y.toNat : Int), .string ⟨#[]⟩], .agg #[.int .i64 1, .int .u8 (x.toNat : Int), .slice B n d, .string ⟨#[]⟩, .int .u8 (y.toNat : Int), .string ⟨#[]⟩]] w fun e w' => e = .returned (.bool true) ∧ Below w.heap.size w w' := by
  have hp : (numS x y l).params.length ≤ 4294967296 := by show (l.map fun n => [n]).length ≤ _; rw [List.length_map]; omega
  have := rsame_any (numS x y l) (numS x y l) A B c d true w ((sameB_iff _ _).2 rfl) hp hp (num_rows x y l) (num_rows x y l) ha hb
  rw [num_sq x y l n hn, num_sq x y l n hn] at this
  exact this
theorem parg_num (x y : UInt8) (l : List Int) (n : Nat) (hn : l.length = n) (hl : n ≤ 30) (A : Option Addr) (c : Nat) (i o v : Int) (w : World) (hv : argL (l.map fun n => [n]) i o = v) (hi0 : -9223372036854775808 ≤ i) (hi1 : i ≤ 9223372036854775807) (ha : RdP w A (l.map fun n => [n])) :
    Calls Tryd.prog 20 #[.agg #[.int .i64 1, .int .u8 (x.toNat : Int), .slice A n c, .string ⟨#[]⟩, .int .u8 (y.toNat : Int), .string ⟨#[]⟩], .int .i64 i, .int .i64 o] w fun e w' => e = .returned (.int .i64 v) ∧ Below w.heap.size w w' := by
  have := parg_any (numS x y l) A c i o v w hv hi0 hi1 (by show (l.map fun n => [n]).length ≤ _; rw [List.length_map]; omega) ha
  rw [num_sq x y l n hn] at this
  exact this
theorem rarg_num (x y : UInt8) (l : List Int) (n : Nat) (hn : l.length = n) (hl : n ≤ 30) (A : Option Addr) (c : Nat) (i o v : Int) (w : World) (hv : argL (l.map fun n => [n]) i o = v) (hi0 : -9223372036854775808 ≤ i) (hi1 : i ≤ 9223372036854775807) (ha : RdP w A (l.map fun n => [n])) :
    Calls Tryd.prog 21 #[.agg #[.int .i64 1, .int .u8 (x.toNat : Int), .slice A n c, .string ⟨#[]⟩, .int .u8 (y.toNat : Int), .string ⟨#[]⟩], .int .i64 i, .int .i64 o] w fun e w' => e = .returned (.int .i64 v) ∧ Below w.heap.size w w' := by
  have := rarg_any (numS x y l) A c i o v w hv hi0 hi1 (by show (l.map fun n => [n]).length ≤ _; rw [List.length_map]; omega) ha
  rw [num_sq x y l n hn] at this
  exact this

set_option maxRecDepth 100000 in
set_option maxHeartbeats 16000000 in
theorem wireNums_walk (x y : UInt8) (B : Option Addr) (l : List Int) (d : Nat) (_ : l.length ≤ d) (p q : Int) (hp : -9223372036854775808 ≤ p ∧ p ≤ 9223372036854775807) (hq : -9223372036854775808 ≤ q ∧ q ≤ 9223372036854775807) (w : World) (hr : Rd w B (is_ l)) (htab : Tab w) :
    Calls Tryd.prog 8 #[.agg #[.int .u8 (x.toNat : Int), .int .u8 (y.toNat : Int)], .slice B l.length d, .agg #[.int .i64 p, .int .i64 q]] w fun e w' => e = .returned (.bool true) ∧ Below w.heap.size w w' := by
  obtain ⟨j0, hj, hy0, hy1, hy2⟩ : ∃ i, Tryd.prog.info? 47 = some i ∧ i.zero = some (.slice none 0 0) ∧ i.size = 1 ∧ i.bytes = 24 := ⟨_, rfl, rfl, rfl, rfl⟩
  have T0 : Bn w ((w.alloc (.cells #[.int .u8 (x.toNat : Int), .int .u8 (y.toNat : Int)] 46)).alloc (.cells #[.int .i64 p, .int .i64 q] 48)) x y p q := by
    refine ⟨(Blk.new w _ _).alloc _, ?_, ((Below.refl _ w).alloc (Nat.le_refl _) _).alloc (by simp) _⟩
    have := Blk.new (w.alloc (.cells #[.int .u8 (x.toNat : Int), .int .u8 (y.toNat : Int)] 46)) 48 #[.int .i64 p, .int .i64 q]
    rwa [World.size_alloc] at this
  obtain ⟨n, hn⟩ : ∃ n, l.length = n := ⟨_, rfl⟩
  have HN := Lib.hid hn
  rw [hn]
  clear hn
  obtain ⟨p0, p1⟩ := hp
  obtain ⟨q0, q1⟩ := hq
  go_enter Tryd.func8, Tryd.ntmps8
  go_wp2_with fail
  refine (awake_any _ (htab.below T0.be)).mono ?_
  rintro e w1 ⟨rfl, hb⟩
  have T1 := T0.next hb
  clear T0 hb
  by_cases h30 : 30 < n
  · go_wp2_with fail
    go_ret
    exact ⟨rfl, T1.be⟩
  · have h30 : n ≤ 30 := by omega
    obtain ⟨a0, a1⟩ := Blk.cells2 T1.b0
    go_wp2_with fail
    refine (num_any x y B n d l _ HN.out (by omega) (hr.below T1.be)).mono ?_
    rintro e w2 ⟨⟨A1, c1, rfl, hr1⟩, hb⟩
    have HPL := Lib.hid (show (numS x y l).params.length = n by show (l.map fun n => [n]).length = n; rw [List.length_map]; exact HN.out)
    have hsq : sqV (numS x y l) A1 c1 = .agg #[.int .i64 1, .int .u8 (x.toNat : Int), .slice A1 n c1, .string ⟨#[]⟩, .int .u8 (y.toNat : Int), .string ⟨#[]⟩] := by
      unfold sqV
      rw [HPL.out]
      rfl
    rw [hsq]
    clear hsq a0 a1
    have T2 := T1.next hb
    clear T1 hb
    have T3 : Bn w (w2.alloc (.cells #[.int .i64 1, .int .u8 (x.toNat : Int), .slice A1 n c1, .string ⟨#[]⟩, .int .u8 (y.toNat : Int), .string ⟨#[]⟩] 24)) x y p q := T2.next ((Below.refl _ w2).alloc (Nat.le_refl _) _)
    have hs3 := Blk.new w2 24 #[.int .i64 1, .int .u8 (x.toNat : Int), .slice A1 n c1, .string ⟨#[]⟩, .int .u8 (y.toNat : Int), .string ⟨#[]⟩]
    have hr3 := hr1.alloc (.cells #[.int .i64 1, .int .u8 (x.toNat : Int), .slice A1 n c1, .string ⟨#[]⟩, .int .u8 (y.toNat : Int), .string ⟨#[]⟩] 24)
    clear T2 hr1
    go_upto_region 5 with (fail)
    have hs3l := hs3.lt
    generalize w2.alloc (.cells #[.int .i64 1, .int .u8 (x.toNat : Int), .slice A1 n c1, .string ⟨#[]⟩, .int .u8 (y.toNat : Int), .string ⟨#[]⟩] 24) = W3 at *
    obtain ⟨a0, a1⟩ := Blk.cells2 T3.b0
    have hw4 := Blk.new W3 24 #[.int .i64 1, .int .u8 (x.toNat : Int), .slice none 0 0, .string ⟨#[]⟩, .int .u8 (y.toNat : Int), .string ⟨#[]⟩]
    have hb4 : Below W3.heap.size W3 (W3.alloc (.cells #[.int .i64 1, .int .u8 (x.toNat : Int), .slice none 0 0, .string ⟨#[]⟩, .int .u8 (y.toNat : Int), .string ⟨#[]⟩] 24)) := (Below.refl _ W3).alloc (Nat.le_refl _) _
    have hsz4 : W3.heap.size + 1 ≤ (W3.alloc (.cells #[.int .i64 1, .int .u8 (x.toNat : Int), .slice none 0 0, .string ⟨#[]⟩, .int .u8 (y.toNat : Int), .string ⟨#[]⟩] 24)).heap.size := by simp
    go_upto_region 6 with (fail)
    generalize W3.alloc (.cells #[.int .i64 1, .int .u8 (x.toNat : Int), .slice none 0 0, .string ⟨#[]⟩, .int .u8 (y.toNat : Int), .string ⟨#[]⟩] 24) = W4 at *
    clear a0 a1
    have hlt34 : W3.heap.size < W4.heap.size := hw4.lt
    have hr3' := hr3
    go_wp2_with fail
    go_loopw [10] (fun i wr => ∃ (k : Nat) (v : Value) (xs : List Value), k ≤ n ∧ i = .int .i64 k ∧ Own wr W4.heap.size 47 1 v k xs ∧ (∃ B2, B2 ≤ wr.heap.size ∧ Rows wr B2 3 xs ((l.take k).map fun n => [n])) ∧ Blk wr W3.heap.size 24 #[.int .i64 1, .int .u8 (x.toNat : Int), v, .string ⟨#[]⟩, .int .u8 (y.toNat : Int), .string ⟨#[]⟩] ∧ Below W3.heap.size W3 wr ∧ W4.heap.size ≤ wr.heap.size) (fun i _ => n - (intOf i).toNat)
    case atStart => exact ⟨0, _, [], Nat.zero_le _, rfl, Own.nil_ _ _ _ _, ⟨0, Nat.zero_le _, by rfl, fun k hk => absurd hk (by simp)⟩, hw4, hb4, Nat.le_refl _⟩
    case round =>
      obtain ⟨k, v, xs, hk, rfl, ho, ⟨B2, hB2, hrs⟩, hs, hbw, hW⟩ := hrel
      clear hw4 hb4
      have hbo := T3.be.trans (hbw.mono T3.be.size)
      obtain ⟨d0, d1, d2, d3, d4, d5⟩ := Blk.cells6 hs
      by_cases hlt : k < n
      · have hkl : k < l.length := by rw [HN.out]; exact hlt
        obtain ⟨bb, oo, hA, hbb, hcc⟩ := (hr.below hbo).int_at (by rw [HN.out]; omega)
        cases hA
        have hck := hcc k hkl
        obtain ⟨u, hu⟩ : ∃ u, l[k]'hkl = u := ⟨_, rfl⟩
        rw [hu] at hck
        have HX := Lib.hid (show l.take (k + 1) = l.take k ++ [u] by rw [List.take_succ_eq_append_getElem hkl, hu])
        clear hu hcc
        obtain ⟨Av, cv, rfl, _⟩ := ho.form
        have hown1 := (ho.alloc (.cells #[.int .i64 u] 3)).alloc (.cells #[.slice (some ⟨wr.heap.size, 0, none⟩) 1 1] 47)
        have hrd1 : Rd ((wr.alloc (.cells #[.int .i64 u] 3)).alloc (.cells #[.slice (some ⟨wr.heap.size, 0, none⟩) 1 1] 47)) (some ⟨wr.heap.size + 1, 0, none⟩) [.slice (some ⟨wr.heap.size, 0, none⟩) 1 1] := by
          have := Rd.block (xs := [.slice (some ⟨wr.heap.size, 0, none⟩) 1 1]) (heap_alloc_new (wr.alloc (.cells #[.int .i64 u] 3)) (.cells #[.slice (some ⟨wr.heap.size, 0, none⟩) 1 1] 47)) (by simp)
          rwa [World.size_alloc] at this
        have hin : RowI (wr.alloc (.cells #[.int .i64 u] 3)) (wr.heap.size + 1) 3 (some ⟨wr.heap.size, 0, none⟩) [u] := by
          obtain ⟨_, A', c', h1, h2⟩ := own_row (p := [u]) (own_lit (wr.alloc (.cells #[.int .i64 u] 3)) 0 3 wr.heap.size (.int .i64 u) (Nat.zero_le _) (heap_alloc_new wr _))
          cases h1
          rwa [World.size_alloc] at h2
        have hrs1 := ((hrs.keep (Nat.le_refl B2) (fun q hq _ => Below.heap_alloc wr (.cells #[.int .i64 u] 3) q (by omega))).keep (B' := wr.heap.size + 1) (by omega) (fun _ _ _ => rfl)).snoc2 (n := 1) rfl (c := 1) hin
        have hrs2 := hrs1.keep (Nat.le_refl _) (fun q hq _ => Below.heap_alloc (wr.alloc (.cells #[.int .i64 u] 3)) (.cells #[.slice (some ⟨wr.heap.size, 0, none⟩) 1 1] 47) q (by simp; omega))
        have hs2 := (hs.alloc (.cells #[.int .i64 u] 3)).alloc (.cells #[.slice (some ⟨wr.heap.size, 0, none⟩) 1 1] 47)
        have hb2 : Below W3.heap.size W3 ((wr.alloc (.cells #[.int .i64 u] 3)).alloc (.cells #[.slice (some ⟨wr.heap.size, 0, none⟩) 1 1] 47)) := (hbw.alloc hbw.size _).alloc (Nat.le_trans hbw.size (by simp)) _
        have h63 : k + 1 ≤ maxLen := by simp only [maxLen]; omega
        have hlim : (k + 1) * 24 ≤ 140737488355328 := by omega
        have hbs : W4.heap.size ≤ ((wr.alloc (.cells #[.int .i64 u] 3)).alloc (.cells #[.slice (some ⟨wr.heap.size, 0, none⟩) 1 1] 47)).heap.size := by simp; omega
        have hsz2 : wr.heap.size + 1 ≤ ((wr.alloc (.cells #[.int .i64 u] 3)).alloc (.cells #[.slice (some ⟨wr.heap.size, 0, none⟩) 1 1] 47)).heap.size := by simp
        clear hrs hrs1 hin ho
        have hown1 := hown1.drew
        have i2a : (wr.alloc (.cells #[.int .i64 u] 3)).drew.cell? ⟨W3.heap.size, 2, none⟩ = some (.slice Av k cv) := (hs.alloc (.cells #[.int .i64 u] 3)).cell 2
        have i2b : ((wr.alloc (.cells #[.int .i64 u] 3)).alloc (.cells #[.slice (some ⟨wr.heap.size, 0, none⟩) 1 1] 47)).drew.cell? ⟨W3.heap.size, 2, none⟩ = some (.slice Av k cv) := hs2.cell 2
        have hrd1 : Rd ((wr.alloc (.cells #[.int .i64 u] 3)).alloc (.cells #[.slice (some ⟨wr.heap.size, 0, none⟩) 1 1] 47)).drew (some ⟨wr.heap.size + 1, 0, none⟩) [.slice (some ⟨wr.heap.size, 0, none⟩) 1 1] := hrd1
        have hs2 : Blk ((wr.alloc (.cells #[.int .i64 u] 3)).alloc (.cells #[.slice (some ⟨wr.heap.size, 0, none⟩) 1 1] 47)).drew W3.heap.size 24 #[.int .i64 1, .int .u8 (x.toNat : Int), .slice Av k cv, .string ⟨#[]⟩, .int .u8 (y.toNat : Int), .string ⟨#[]⟩] := hs2
        have hrs2 : Rows ((wr.alloc (.cells #[.int .i64 u] 3)).alloc (.cells #[.slice (some ⟨wr.heap.size, 0, none⟩) 1 1] 47)).drew (wr.heap.size + 1) 3 (xs ++ [.slice (some ⟨wr.heap.size, 0, none⟩) 1 1]) ((l.take k).map (fun n => [n]) ++ [[u]]) := hrs2
        have hb2 : Below W3.heap.size W3 ((wr.alloc (.cells #[.int .i64 u] 3)).alloc (.cells #[.slice (some ⟨wr.heap.size, 0, none⟩) 1 1] 47)).drew := hb2.drew
        have hbs : W4.heap.size ≤ ((wr.alloc (.cells #[.int .i64 u] 3)).alloc (.cells #[.slice (some ⟨wr.heap.size, 0, none⟩) 1 1] 47)).drew.heap.size := hbs
        have hsz2 : wr.heap.size + 1 ≤ ((wr.alloc (.cells #[.int .i64 u] 3)).alloc (.cells #[.slice (some ⟨wr.heap.size, 0, none⟩) 1 1] 47)).drew.heap.size := hsz2
        go_wp2_with fail
        go_region_law (refine step_app _ rfl (.tmp 34) (.tmp 40) 22 rfl W4.heap.size 47 j0 _ 1 24 Tryd.underlying22 hj hy0 hy1 hy2 rfl Nat.one_pos (.slice Av k cv) k xs (by simp [Act.eval]) hown1 (some ⟨wr.heap.size + 1, 0, none⟩) 1 1 [.slice (some ⟨wr.heap.size, 0, none⟩) 1 1] (by simp [Act.eval]) rfl hrd1 (sl_one _ _ _) h63 hlim hbs ?_; intro v5 w5 hown5 hg5; obtain ⟨A5, c5, rfl, hf5⟩ := hown5.form; clear hf5; have hs5 := hs2.grown hg5 (hown1.no_cells hs2 (by decide)); have fz5 := hs5.frozen 2; obtain ⟨e0, e1, e2, e3, e4, e5⟩ := Blk.cells6 hs5)
        all_goals
          have hrs5 := hrs2.keep (B' := wr.heap.size + 1) (Nat.le_refl _) (keep_out hown1 (by decide) hg5)
          have hb5 : Below W3.heap.size W3 w5 := hb2.grown hg5 (Nat.le_trans hbw.size (Nat.le_trans (Nat.le_succ _) hsz2)) (fun g hg => by have := (hown1.lt g hg).1; omega)
          have hsz5 : wr.heap.size + 1 ≤ w5.heap.size := Nat.le_trans hsz2 hg5.size
          have hgs := grown_setCell W3.heap.size 2 (.slice A5 (k + 1) c5) w5
          clear hg5 hown1 hrd1 hs2 hb2 h63 hlim hbs hsz2 hrs2 i2a i2b
          go_wp2_with fail
          go_roundw
          case rel =>
            refine ⟨k + 1, _, xs ++ [.slice (some ⟨wr.heap.size, 0, none⟩) 1 1], by omega, by go_num, hown5.kept hgs (.inr (hown5.no_cells hs5 (by decide))), ⟨wr.heap.size + 1, by simp; exact hsz5, ?_⟩, hs5.set 2 _, hb5.setCell (p := ⟨W3.heap.size, 2, none⟩) (Nat.le_refl _) _, Nat.le_trans hW (Nat.le_trans (Nat.le_succ _) (by simpa using hsz5))⟩
            rw [HX.out, List.map_append]
            exact hrs5.keep (Nat.le_refl _) (fun q _ ⟨cur, fz, hh⟩ => hgs.block q (Array.getElem?_eq_some_iff.1 hh).1 (fun e => tag_ne hs5 hh (by decide) (by injection e)))
          case measure => simp [intOf]; omega
      · obtain rfl : k = n := by omega
        have HT := Lib.hid (show l.take k = l from List.take_of_length_le (by rw [HN.out]; omega))
        obtain ⟨A3, c3, rfl, hrow⟩ := hrs.rdpn ho hs (by decide) (by decide)
        rw [HT.out] at hrow
        have hr5 : RdP wr A3 (l.map fun n => [n]) := hrow.rdp
        have hr4 : RdP wr A1 (l.map fun n => [n]) := (show RdP W3 A1 (l.map fun n => [n]) from hr3).below hbw
        obtain ⟨vv, hv⟩ : ∃ v, argL (l.map fun n => [n]) p q = v := ⟨_, rfl⟩
        have HV := Lib.hid hv
        have hs5 := hs3.below hbw hs3l
        have T5 : Bn w wr x y p q := T3.next hbw
        clear hv hrow ho hrs hs3 hr3 hr3' T3 hbw HT d0 d1 d2 d3 d4 d5 hW hB2
        obtain ⟨s0, s1, s2, s3, s4, s5⟩ := Blk.cells6 hs5
        obtain ⟨c0, c1', c2, c3', c4, c5⟩ := Blk.cells6 hs
        obtain ⟨t0, t1⟩ := Blk.cells2 T5.b1
        have g1 := hs5.lt
        have g2 := hs.lt
        have g3 := T5.b1.lt
        have HS : Hid (∀ W, Below wr.heap.size wr W → Below wr.heap.size wr W ∧ W.cell? ⟨w2.heap.size, 0, none⟩ = some (.int .i64 1) ∧ W.cell? ⟨w2.heap.size, 1, none⟩ = some (.int .u8 (x.toNat : Int)) ∧ W.cell? ⟨w2.heap.size, 2, none⟩ = some (.slice A1 k c1) ∧ W.cell? ⟨w2.heap.size, 3, none⟩ = some (.string ⟨#[]⟩) ∧ W.cell? ⟨w2.heap.size, 4, none⟩ = some (.int .u8 (y.toNat : Int)) ∧ W.cell? ⟨w2.heap.size, 5, none⟩ = some (.string ⟨#[]⟩) ∧ W.cell? ⟨W3.heap.size, 0, none⟩ = some (.int .i64 1) ∧ W.cell? ⟨W3.heap.size, 1, none⟩ = some (.int .u8 (x.toNat : Int)) ∧ W.cell? ⟨W3.heap.size, 2, none⟩ = some (.slice A3 k c3) ∧ W.cell? ⟨W3.heap.size, 3, none⟩ = some (.string ⟨#[]⟩) ∧ W.cell? ⟨W3.heap.size, 4, none⟩ = some (.int .u8 (y.toNat : Int)) ∧ W.cell? ⟨W3.heap.size, 5, none⟩ = some (.string ⟨#[]⟩) ∧ W.cell? ⟨w.heap.size + 1, 0, none⟩ = some (.int .i64 p) ∧ W.cell? ⟨w.heap.size + 1, 1, none⟩ = some (.int .i64 q)) := Lib.hid fun W hb => ⟨hb, (hb.cell (p := ⟨w2.heap.size, 0, none⟩) g1).trans s0, (hb.cell (p := ⟨w2.heap.size, 1, none⟩) g1).trans s1, (hb.cell (p := ⟨w2.heap.size, 2, none⟩) g1).trans s2, (hb.cell (p := ⟨w2.heap.size, 3, none⟩) g1).trans s3, (hb.cell (p := ⟨w2.heap.size, 4, none⟩) g1).trans s4, (hb.cell (p := ⟨w2.heap.size, 5, none⟩) g1).trans s5, (hb.cell (p := ⟨W3.heap.size, 0, none⟩) g2).trans c0, (hb.cell (p := ⟨W3.heap.size, 1, none⟩) g2).trans c1', (hb.cell (p := ⟨W3.heap.size, 2, none⟩) g2).trans c2, (hb.cell (p := ⟨W3.heap.size, 3, none⟩) g2).trans c3', (hb.cell (p := ⟨W3.heap.size, 4, none⟩) g2).trans c4, (hb.cell (p := ⟨W3.heap.size, 5, none⟩) g2).trans c5, (hb.cell (p := ⟨w.heap.size + 1, 0, none⟩) g3).trans t0, (hb.cell (p := ⟨w.heap.size + 1, 1, none⟩) g3).trans t1⟩
        have HR1 : Hid (∀ W, Below wr.heap.size wr W → RdP W A1 (l.map fun n => [n])) := Lib.hid fun W hb => hr4.below hb
        have HR2 : Hid (∀ W, Below wr.heap.size wr W → RdP W A3 (l.map fun n => [n])) := Lib.hid fun W hb => hr5.below hb
        have hbe := T5.be
        clear s0 s1 s2 s3 s4 s5 c0 c1' c2 c3' c4 c5 t0 t1 T5 hs5 hs hr4 hr5
        go_wp2_with fail
        go_region_held (fun w' => Below wr.heap.size wr w' ∧ w'.cell? ⟨w2.heap.size, 0, none⟩ = some (.int .i64 1) ∧ w'.cell? ⟨w2.heap.size, 1, none⟩ = some (.int .u8 (x.toNat : Int)) ∧ w'.cell? ⟨w2.heap.size, 2, none⟩ = some (.slice A1 k c1) ∧ w'.cell? ⟨w2.heap.size, 3, none⟩ = some (.string ⟨#[]⟩) ∧ w'.cell? ⟨w2.heap.size, 4, none⟩ = some (.int .u8 (y.toNat : Int)) ∧ w'.cell? ⟨w2.heap.size, 5, none⟩ = some (.string ⟨#[]⟩) ∧ w'.cell? ⟨W3.heap.size, 0, none⟩ = some (.int .i64 1) ∧ w'.cell? ⟨W3.heap.size, 1, none⟩ = some (.int .u8 (x.toNat : Int)) ∧ w'.cell? ⟨W3.heap.size, 2, none⟩ = some (.slice A3 k c3) ∧ w'.cell? ⟨W3.heap.size, 3, none⟩ = some (.string ⟨#[]⟩) ∧ w'.cell? ⟨W3.heap.size, 4, none⟩ = some (.int .u8 (y.toNat : Int)) ∧ w'.cell? ⟨W3.heap.size, 5, none⟩ = some (.string ⟨#[]⟩) ∧ w'.cell? ⟨w.heap.size + 1, 0, none⟩ = some (.int .i64 p) ∧ w'.cell? ⟨w.heap.size + 1, 1, none⟩ = some (.int .i64 q))
          (first | exact HS.out _ (Below.refl _ _).drew | assumption | exact HS.out _ (Below.trans (And.left (by assumption)) (hb6.mono (Below.size (And.left (by assumption))))))
          (first
            | (go_at_call 17; refine (rsame_num x y l k HN.out h30 A1 A3 c1 c3 _ (HR1.out _ (And.left (by assumption))) (HR2.out _ (And.left (by assumption)))).mono ?_; rintro e w6 ⟨rfl, hb6⟩)
            | (go_at_call 20; refine (parg_num x y l k HN.out h30 A1 c1 p q vv _ HV.out p0 p1 (HR1.out _ (And.left (by assumption)))).mono ?_; rintro e w6 ⟨rfl, hb6⟩)
            | (go_at_call 21; refine (rarg_num x y l k HN.out h30 A3 c3 p q vv _ HV.out p0 p1 (HR2.out _ (And.left (by assumption)))).mono ?_; rintro e w6 ⟨rfl, hb6⟩))
        all_goals
          go_wp2
          go_ret
          exact ⟨rfl, hbe.trans (Below.mono (And.left (by assumption)) hbe.size)⟩
end Go.Proofs.YtmmbfidnbdckmaaDoor
