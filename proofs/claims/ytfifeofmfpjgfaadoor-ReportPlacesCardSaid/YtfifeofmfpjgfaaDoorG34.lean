/-
  Layer 8, the landed Push, walked.
-/
import Derived.Test.YtfifeofmfpjgfaaDoorG08
import Derived.Test.YtfifeofmfpjgfaaDoorG18
import Derived.Test.YtfifeofmfpjgfaaDoorG23
namespace Go.Proofs.YtfifeofmfpjgfaaDoor
open Go.RowKit
section
section
variable {S : Nat → Prop}
theorem last8_snoc {l : List Int} {x : Int} (h : l.length ≤ 8) : last8 (l ++ [x]) = l.drop (l.length - 7) ++ [x] := by
 unfold last8
 rw [List.length_append, List.length_singleton, show l.length + 1 - 8 = l.length - 7 by omega, List.drop_append_of_le_length (by omega)]
def PshF (S : Nat → Prop) (xs : List Value) (v : Value) (W : World) : Prop := ∃ A c, v = .slice A xs.length c ∧ xs.length ≤ c ∧ RdOff W S A xs
theorem PshF.below {S : Nat → Prop} {xs : List Value} {v : Value} {w w' : World} (h : PshF S xs v w) (hb : Below w.heap.size w w') : PshF S xs v w' := by
 obtain ⟨A, c, e, hc, hr⟩ := h
 exact ⟨A, c, e, hc, hr.fr (Fr.of_below hb S) (Wid.refl _ _)⟩
set_option maxRecDepth 100000 in
set_option maxHeartbeats 16000000 in
theorem pspush_any (s : St) (A : Option Addr) (n c : Nat) (f : Int) (w : World) (hS : ∀ k, S k → k < w.heap.size) (hn : s.kept.length = n) (hn8 : n ≤ 8) (hnc : n ≤ c) (hr : Rd w A (is_ s.kept)) :
 Calls Tryd.prog 38 #[stV s.now A n c, .int .i64 f] w (StkE S (pushS s f) w) := by
 obtain ⟨now, l⟩ := s
 simp only at hn hr
 obtain ⟨i0, hi, hz0, hz1, hz2⟩ := info_parts Tryd.intinfo8
 have hso : ∀ w, (sizeOf 3).run Tryd.prog w = .ok 1 w := fun w => by simp [sizeOf, typeInfo, hi, hz1, Result.andThen]
 have HN := Lib.hid hn
 have HS := Lib.hid hS
 obtain ⟨L, hL⟩ : ∃ L : Nat, n - 7 = L := ⟨_, rfl⟩
 have hLn : L ≤ n := by omega
 have hmax : ∀ (ts : Array TypeId) (t : TypeId) (W : World), (Builtin.max_ ts t #[.int .i64 0, .int .i64 ((n : Int) - 7)]).run Tryd.prog W = .ok (.int .i64 (L : Int)) W := fun ts t W => by
  rw [run_max_int2]
  congr 2
  split <;> omega
 obtain ⟨A1, hcut, hAn, hcutr⟩ := cutf_run (P := Tryd.prog) (T := 52) rfl Tryd.underlying52 hso A n c L hLn hnc
 have HE := Lib.hid (show pushS ⟨now, l⟩ f = ⟨flg f, l.drop L ++ [now]⟩ by rw [← hL, ← hn]; exact congrArg (St.mk (flg f)) (last8_snoc (l := l) (x := now) (by rw [hn]; exact hn8)))
 have hlen : (l.drop L ++ [now]).length = n - L + 1 := by simp [hn]
 have hA0 : A = none → n = 0 := fun h => by
  rcases Nat.eq_zero_or_pos n with h0 | h0
  ·exact h0
  ·obtain ⟨b, o, e, _⟩ := hr (by rw [is_len]; omega)
   rw [h] at e
   cases e
 have k0 : Blk ((w.alloc (.cells #[.int .i64 now, .slice A n c] 64)).alloc (.cells #[.int .i64 0, .slice none 0 0] 64)) w.heap.size 64 #[.int .i64 now, .slice A n c] := (Blk.new w _ _).alloc _
 have y0 : Blk ((w.alloc (.cells #[.int .i64 now, .slice A n c] 64)).alloc (.cells #[.int .i64 0, .slice none 0 0] 64)) (w.heap.size + 1) 64 #[.int .i64 0, .slice none 0 0] := by
  have := Blk.new (w.alloc (.cells #[.int .i64 now, .slice A n c] 64)) 64 #[.int .i64 0, .slice none 0 0]
  rwa [World.size_alloc] at this
 have hB0 : Below w.heap.size w ((w.alloc (.cells #[.int .i64 now, .slice A n c] 64)).alloc (.cells #[.int .i64 0, .slice none 0 0] 64)) := ((Below.refl _ w).alloc (Nat.le_refl _) _).alloc (by simp) _
 rw [stV]
 clear hn hS
 go_enter Tryd.func38, Tryd.ntmps38
 have a0 := k0.cell 0
 have a1 := k0.cell 1
 go_wp2_with fail
 clear hmax a0 a1
 obtain ⟨w2, hw2⟩ : ∃ w2, (w.alloc (.cells #[.int .i64 now, .slice A n c] 64)).alloc (.cells #[.int .i64 0, .slice none 0 0] 64) = w2 := ⟨_, rfl⟩
 rw [hw2] at k0 y0 hB0 ⊢
 clear hw2
 have l0 : ∀ W, Below w2.heap.size w2 W → W.cell? ⟨w.heap.size, 0, none⟩ = some (.int .i64 now) := fun W hW => (k0.below hW k0.lt).cell 0
 have l1 : ∀ W, Below w2.heap.size w2 W → W.cell? ⟨w.heap.size, 1, none⟩ = some (.slice A n c) := fun W hW => (k0.below hW k0.lt).cell 1
 obtain ⟨FR, hFR⟩ : ∃ F : Value → World → Prop, F = PshF (fun k => S k ∨ k < w2.heap.size) (is_ (l.drop L ++ [now])) := ⟨_, rfl⟩
 have hFR := Lib.hid hFR
 have hst : ∀ f ∈ ([⟨8, 22, fun v W => ∃ b, v = .slice (some ⟨b, 0, none⟩) 1 1 ∧ Rd W (some ⟨b, 0, none⟩) (is_ [now])⟩, ⟨9, 23, FR⟩, ⟨10, 7, FR⟩] : List Fact), f.ok := by
  have h2 : ∀ v w w', FR v w → Below w.heap.size w w' → FR v w' := fun v w w' h hb => by rw [hFR.out] at h ⊢; exact h.below hb
  exact all_cons (fun v w w' ⟨b, e, h⟩ hb => ⟨b, e, h.below hb⟩) (all_cons h2 (all_cons h2 all_nil))
 have hlr : (is_ (l.drop L ++ [now])).length = n - L + 1 := by rw [is_len]; exact hlen
 have happ : is_ (l.drop L) ++ is_ [now] = is_ (l.drop L ++ [now]) := by simp [is_]
 have hdl : (is_ (l.drop L)).length = n - L := by rw [is_len, List.length_drop, HN.out]
 have hA1 : A1 = none → n - L = 0 := fun h => by have := hA0 (hAn h); omega
 have g1 : n - L + 1 ≤ maxLen := by simp only [maxLen]; omega
 have g2 : (n - L + 1) * 8 ≤ 140737488355328 := by omega
 have lr : ∀ W, Below w2.heap.size w2 W → Rd W A1 (is_ (l.drop L)) := fun W hW => by
  have h1 : Rd W A (is_ l) := (hr.below hB0).below hW
  have h2 := hcutr (fun _ => False) W (is_ l) (by rw [is_len, HN.out]) (RdOff.of_rdIn (RdIn.of h1) (Nat.le_refl _) (fun _ h => h.elim))
  rw [show is_ (l.drop L) = (is_ l).drop L by simp [is_]]
  exact h2.rd
 have hFO : ∀ v (W W' : World), Below w2.heap.size w2 W → Own W' W.heap.size 3 1 v (n - L + 1) (is_ (l.drop L) ++ is_ [now]) → FR v W' := fun v W W' hW ho => by
  rw [happ] at ho
  rw [hFR.out]
  obtain ⟨B, d, rfl, _⟩ := ho.form
  refine ⟨B, d, by rw [hlr], by rw [hlr]; exact ho.cap.1, RdOff.of_own ho (fun k hk hs => ?_)⟩
  have h1 := (ho.lt k hk).1
  have h2 := HS.out k
  have h3 := hB0.size
  have h4 := hW.size
  rcases hs with hs | hs
  ·have := h2 hs
   omega
  ·omega
 clear hr hdl happ
 have hdl : (is_ (l.drop L)).length = n - L := by rw [is_len, List.length_drop, HN.out]
 refine wp_region_told (w1 := w2) (K := [⟨8, 22, fun v W => ∃ b, v = .slice (some ⟨b, 0, none⟩) 1 1 ∧ Rd W (some ⟨b, 0, none⟩) (is_ [now])⟩, ⟨9, 23, FR⟩, ⟨10, 7, FR⟩]) (ix := 1000) (R0 := fun _ _ _ => True) (R1 := fun _ _ _ => True) [22, 23, 7] (⟨#[.agg #[.int .i64 now, .slice A n c], .int .i64 f, .pointer (some ⟨w.heap.size, 0, none⟩), undef, .pointer (some ⟨w.heap.size + 1, 0, none⟩), .int .i64 (n : Int), .int .i64 (L : Int), undef, .pointer (some ⟨w.heap.size, 1, none⟩), .slice A n c, .int .i64 (n : Int), .int .i64 (n : Int), .int .i64 ((n : Int) - 7), .int .i64 (L : Int), .pointer (some ⟨w.heap.size, 1, none⟩), .slice A n c, .int .i64 (L : Int), .int .i64 (n : Int), .int .i64 (n : Int), .slice A1 (n - L) (n - L), .pointer (some ⟨w.heap.size, 0, none⟩), .int .i64 now, undef, undef, undef, undef, undef, undef], []⟩) (fun g => ⟨#[.agg #[.int .i64 now, .slice A n c], .int .i64 f, .pointer (some ⟨w.heap.size, 0, none⟩), undef, .pointer (some ⟨w.heap.size + 1, 0, none⟩), .int .i64 (n : Int), .int .i64 (L : Int), (g 7), .pointer (some ⟨w.heap.size, 1, none⟩), .slice A n c, .int .i64 (n : Int), .int .i64 (n : Int), .int .i64 ((n : Int) - 7), .int .i64 (L : Int), .pointer (some ⟨w.heap.size, 1, none⟩), .slice A n c, .int .i64 (L : Int), .int .i64 (n : Int), .int .i64 (n : Int), .slice A1 (n - L) (n - L), .pointer (some ⟨w.heap.size, 0, none⟩), .int .i64 now, (g 22), (g 23), undef, undef, undef, undef], []⟩) [.pointer (some ⟨w.heap.size, 1, none⟩), .slice A n c, .int .i64 (L : Int), .int .i64 (n : Int), .int .i64 (n : Int), .slice A1 (n - L) (n - L), .pointer (some ⟨w.heap.size, 0, none⟩), .int .i64 now, undef, undef, undef] (by kernel_rfl) (by kernel_rfl) (by kernel_rfl) (fun g => by kernel_rfl) (by kernel_rfl) (Below.refl _ _).drew (by decide) (by kernel_rfl)
  (goes_cons (gkP (fun _ => .pointer (some ⟨w.heap.size, 1, none⟩)))
  (goes_cons (gkC hst l1)
  (goes_cons (gkP (fun _ => .int .i64 (L : Int)))
  (goes_cons (gkP (fun _ => .int .i64 (n : Int)))
  (goes_cons (gkP (fun _ => .int .i64 (n : Int)))
  (goes_cons (goesK_cut rfl (by decide) (by decide) (by kernel_rfl) (fun g => by kernel_rfl) rfl (fun g => by kernel_rfl) rfl (fun g => by kernel_rfl) (fun g => by kernel_rfl) (fun g => by kernel_rfl) (fun g => by kernel_rfl) Tryd.underlying52 hcut)
  (goes_cons (gkP (fun _ => .pointer (some ⟨w.heap.size, 0, none⟩)))
  (goes_cons (gkC hst l0)
  (goes_cons (goesK_any hst (ahead_none (by decide)) rfl (by decide) (by decide) 0 rfl (by kernel_rfl) (fun g => by kernel_rfl) rfl (fun g => by kernel_rfl) (fun g W hW hin => ⟨.slice (some ⟨W.heap.size, 0, none⟩) 1 1, W.alloc (.cells #[.int .i64 now] 3), by kernel_rfl, ⟨W.heap.size, rfl, Rd.block (heap_alloc_new W (.cells #[.int .i64 now] 3)) rfl⟩, (Below.refl _ W).alloc (Nat.le_refl _) _⟩))
  (goes_cons (goesK_full hst (ahead_none (by decide)) rfl (by decide) (by decide) 1 rfl (by kernel_rfl) (fun g => by kernel_rfl) rfl (fun g => by kernel_rfl) rfl Tryd.underlying52 hi hz0 hz1 hz2 rfl (fun g => by kernel_rfl) hdl hA1 (show (is_ [now]).length = 1 from rfl) Nat.one_pos (is_one8 [now]) g1 g2 lr (fun g W _ hin => by
    obtain ⟨b, e22, hb2⟩ := hin 0 _ rfl (by kernel_rfl)
    exact ⟨⟨b, 0, none⟩, 1, Eq.trans (b := g 22) (by kernel_rfl) e22, hb2⟩) hFO)
  (goes_cons (goesK_name (p' := 1) hst (ahead_none (by decide)) rfl (by decide) (by decide) 2 rfl rfl (by kernel_rfl) (by kernel_rfl) (fun g => by kernel_rfl) rfl (fun g => by kernel_rfl) (fun g w => by kernel_rfl)) goes_nil))))))))))) ?_
 intro g W hW hK
 have hg7 : FR (g 7) W := hK 2 _ rfl
 clear hK hst l0 l1 lr hFO hcut hcutr hdl
 rw [hFR.out] at hg7
 obtain ⟨B, d, e7, hd, hrB⟩ := hg7
 rw [hlr] at e7 hd
 obtain ⟨m, hm⟩ : ∃ m, n - L + 1 = m := ⟨_, rfl⟩
 rw [hm] at e7 hd
 have y1 := y0.below hW y0.lt
 have hyl := y0.lt
 have hB1 := hB0.trans (hW.mono hB0.size)
 rw [e7]
 clear e7 y0 hW k0
 have hst := 0
 have HFR := hFR
 clear hFR
 have HM := Lib.hid hm
 have HLR := Lib.hid hlr
 clear hm hlr hlen g1 g2 hA0 hAn hA1 hst
 go_wp2_with fail
 refine (pflags_any f W).mono ?_
 rintro e w3 ⟨rfl, hb3⟩
 have hy3 := y1.below hb3 y1.lt
 have hB3 := below_step8 hB1 hb3 hB1.size
 have hr3 := hrB.fr (Fr.of_below hb3 _) (Wid.refl _ _)
 obtain ⟨q0, q1⟩ : w3.cell? ⟨w.heap.size + 1, 0, none⟩ = some (.int .i64 0) ∧ w3.cell? ⟨w.heap.size + 1, 1, none⟩ = some (.slice none 0 0) := ⟨hy3.cell 0, hy3.cell 1⟩
 have z0 := hy3.frozen 0
 have z1 := hy3.frozen 1
 have yE := (hy3.set 0 (.int .i64 (flg f))).set 1 (.slice B m d)
 have p0 : (w3.setCell ⟨w.heap.size + 1, 0, none⟩ (.int .i64 (flg f))).cell? ⟨w.heap.size + 1, 0, none⟩ = some (.int .i64 (flg f)) := (hy3.set 0 (.int .i64 (flg f))).cell 0
 have p1 : ((w3.setCell ⟨w.heap.size + 1, 0, none⟩ (.int .i64 (flg f))).setCell ⟨w.heap.size + 1, 1, none⟩ (.slice B m d)).cell? ⟨w.heap.size + 1, 1, none⟩ = some (.slice B m d) := yE.cell 1
 have hF : Fr w3 ((w3.setCell ⟨w.heap.size + 1, 0, none⟩ (.int .i64 (flg f))).setCell ⟨w.heap.size + 1, 1, none⟩ (.slice B m d)) (fun k => k = w.heap.size + 1) := (Fr.setCell w3 _ _ _ (fun k => k = w.heap.size + 1) rfl).trans (Fr.setCell _ _ _ _ (fun k => k = w.heap.size + 1) rfl) (fun k hk => .inl hk)
 have hBE := hB3.trans (hF.below (B := w.heap.size) hB3.size (fun k hk => by omega))
 have rdE := (hr3.fr (hF.mono (fun k hk => Or.inr (by omega))) (Wid.refl _ _)).mono (S' := S) (fun k hk => .inl hk)
 clear hb3 y1 hB1 hrB hF hr3
 go_wp2_with fail
 refine bodyPost_ret (v := stV (flg f) B m d) (by simp [results, Tryd.results38, go_sem, stV, p0, p1]) rfl ⟨B, m, d, by rw [HE.out], ⟨?_, hd⟩, by rw [HE.out]; exact rdE, hBE⟩
 rw [HE.out, ← HM.out, ← HLR.out, is_len]
end
end
end Go.Proofs.YtfifeofmfpjgfaaDoor
