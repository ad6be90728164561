/-
  Layer 8, the landed Pop, walked.
-/
import Derived.Test.YtocbkcofmebfmaaStkF
import Derived.Test.YtocbkcofmebfmaaRegG
namespace Go.Proofs.Ytocbkcofmebfmaa
open Go.RowKit

section
variable {S : Nat → Prop}
/-- What a clone tells; and a stack of it. -/
def PopF (S : Nat → Prop) (n : Nat) (xs : List Value) (v : Value) (W : World) : Prop := ∃ A c, v = .slice A n c ∧ n ≤ c ∧ RdOff W S A xs
def PopG (S : Nat → Prop) (z : Int) (n : Nat) (xs : List Value) (v : Value) (W : World) : Prop := ∃ A c, v = .agg #[.int .i64 z, .slice A n c] ∧ n ≤ c ∧ RdOff W S A xs
theorem PopF.below {n : Nat} {xs : List Value} {v : Value} {w w' : World} (h : PopF S n xs v w) (hb : Below w.heap.size w w') : PopF S n xs v w' := by
  obtain ⟨A, c, e, hc, hr⟩ := h
  exact ⟨A, c, e, hc, hr.fr (Fr.of_below hb S) (Wid.refl _ _)⟩
theorem PopG.below {z : Int} {n : Nat} {xs : List Value} {v : Value} {w w' : World} (h : PopG S z n xs v w) (hb : Below w.heap.size w w') : PopG S z n xs v w' := by
  obtain ⟨A, c, e, hc, hr⟩ := h
  exact ⟨A, c, e, hc, hr.fr (Fr.of_below hb S) (Wid.refl _ _)⟩
theorem wrap_id64 {x : Int} (h1 : -9223372036854775808 ≤ x) (h2 : x ≤ 9223372036854775807) : IntKind.i64.wrap x = x := by
  rw [IntWalk.i64_in _ (by omega)]
theorem RDP6 {w w2 W : World} {A A1 : Option Addr} {l : List Int} {n q : Nat} (hr : Rd w A (is_ l)) (hB : Below w.heap.size w w2) (hW : Below w2.heap.size w2 W) (hc : ∀ (S : Nat → Prop) (w : World) (l : List Value), l.length = n → RdOff w S A l → RdOff w S A1 (l.take q)) (hn : (is_ l).length = n) : Rd W A1 (is_ (l.take q)) := by
  have h2 := hc (fun _ => False) W (is_ l) hn (RdOff.of_rdIn (RdIn.of ((hr.below hB).below hW)) (Nat.le_refl _) (fun _ h => h.elim))
  rw [show is_ (l.take q) = (is_ l).take q by simp [is_]]
  exact h2.rd
set_option maxRecDepth 100000 in
set_option maxHeartbeats 16000000 in
theorem pspop_any (s : St) (A : Option Addr) (n c : Nat) (m : Int) (w : World) (hS : ∀ k, S k → k < w.heap.size) (hm : inK m) (hn : s.kept.length = n) (hn8 : n ≤ 8) (hnc : n ≤ c) (hr : Rd w A (is_ s.kept)) :
    Calls Try.prog 15 #[stV s.now A n c, .int .i64 m] w (StkE S (popS s m) w) := by
  obtain ⟨now, l⟩ := s
  simp only at hn hr
  obtain ⟨i0, hi, hz0, hz1, hz2⟩ := info_parts Try.intinfo8
  have hso : ∀ w, (sizeOf 3).run Try.prog w = .ok 1 w := fun w => by simp [sizeOf, typeInfo, hi, hz1, Result.andThen]
  have HN := Lib.hid hn
  have HS := Lib.hid hS
  have k0 : Blk ((w.alloc (.cells #[.int .i64 now, .slice A n c] 27)).alloc (.cells #[.int .i64 0, .slice none 0 0] 27)) w.heap.size 27 #[.int .i64 now, .slice A n c] := (Blk.new w _ _).alloc _
  have y0 : Blk ((w.alloc (.cells #[.int .i64 now, .slice A n c] 27)).alloc (.cells #[.int .i64 0, .slice none 0 0] 27)) (w.heap.size + 1) 27 #[.int .i64 0, .slice none 0 0] := by
    have := Blk.new (w.alloc (.cells #[.int .i64 now, .slice A n c] 27)) 27 #[.int .i64 0, .slice none 0 0]
    rwa [World.size_alloc] at this
  have hB0 : Below w.heap.size w ((w.alloc (.cells #[.int .i64 now, .slice A n c] 27)).alloc (.cells #[.int .i64 0, .slice none 0 0] 27)) := ((Below.refl _ w).alloc (Nat.le_refl _) _).alloc (by simp) _
  rw [stV]
  clear hS
  by_cases h1 : m < 1
  · have HE := Lib.hid (show popS ⟨now, l⟩ m = ⟨now, l⟩ by show popN m.toNat _ = _; rw [show m.toNat = 0 by omega]; rfl)
    have t1 : decide (m < 1) = true := decide_eq_true h1
    clear hn h1
    go_enter Try.func15, Try.ntmps15
    go_wp2_with fail
    obtain ⟨w2, hw2⟩ : ∃ w2, (w.alloc (.cells #[.int .i64 now, .slice A n c] 27)).alloc (.cells #[.int .i64 0, .slice none 0 0] 27) = w2 := ⟨_, rfl⟩
    rw [hw2] at k0 y0 hB0 ⊢
    clear hw2
    obtain ⟨S2, hS2⟩ : ∃ T : Nat → Prop, T = fun k => S k ∨ k < w2.heap.size := ⟨_, rfl⟩
    have hSlt : ∀ k, S2 k → k < w2.heap.size := fun k hk => by
      rw [hS2] at hk
      rcases hk with hk | hk
      · have := HS.out k hk; have := hB0.size; omega
      · exact hk
    have l0 : ∀ W, Below w2.heap.size w2 W → W.cell? ⟨w.heap.size, 0, none⟩ = some (.int .i64 now) := fun W hW => (k0.below hW k0.lt).cell 0
    have l1 : ∀ W, Below w2.heap.size w2 W → W.cell? ⟨w.heap.size, 1, none⟩ = some (.slice A n c) := fun W hW => (k0.below hW k0.lt).cell 1
    obtain ⟨F1, hF1⟩ : ∃ F : Value → World → Prop, F = PopF S2 n (is_ l) := ⟨_, rfl⟩
    obtain ⟨F2, hF2⟩ : ∃ F : Value → World → Prop, F = PopG S2 now n (is_ l) := ⟨_, rfl⟩
    have HBX : Hid (∀ v W, F2 v W → ∃ cs : Array Value, v = .agg cs ∧ cs.size = 2 ∧ cs.toList.all (·.oneCell') = true) := Lib.hid fun v W h => by
      rw [hF2] at h
      obtain ⟨B, d, e, _⟩ := h
      exact ⟨_, e, rfl, rfl⟩
    have HBL : Hid (∀ v W, F1 v W → (Instr.build 27 #[(0, .int .i64 now), (1, v)]).run Try.prog W = .ok (.agg #[.int .i64 now, v]) W ∧ F2 (.agg #[.int .i64 now, v]) W) := Lib.hid fun v W h => by
      rw [hF1] at h
      rw [hF2]
      obtain ⟨B, d, e, h1, h2⟩ := h
      exact ⟨by rw [e]; kernel_rfl, B, d, by rw [e], h1, h2⟩
    have hst : ∀ f ∈ ([⟨4, 12, F1⟩, ⟨5, 13, F2⟩] : List Fact), f.ok :=
      all_cons (fun v W W' h hb => by rw [hF1] at h ⊢; exact h.below hb) (all_cons (fun v W W' h hb => by rw [hF2] at h ⊢; exact h.below hb) all_nil)
    have HCL : Hid (∀ W, Below w2.heap.size w2 W → Calls Try.prog 24 #[.slice A n c] W fun e W' => ∃ v, e = .returned v ∧ F1 v W' ∧ Below W.heap.size W W') := Lib.hid fun W hW => by
      refine (clone_any S2 _ _ _ (is_ l) W (fun k hk => Nat.lt_of_lt_of_le (hSlt k hk) hW.size) (by rw [is_len]; exact HN.out) (by omega) ((hr.below hB0).below hW) (is_one _)).mono ?_
      rintro e W' ⟨B, d, rfl, hd, hrB, hb⟩
      exact ⟨_, rfl, by rw [hF1]; exact ⟨B, d, rfl, hd, hrB⟩, hb⟩
    clear hSlt hr
    have HF1 := Lib.hid hF1
    have HF2 := Lib.hid hF2
    have HS2 := Lib.hid hS2
    clear hF1 hF2 hS2
    refine wp_region_last (w1 := w2) (K := [⟨4, 12, F1⟩, ⟨5, 13, F2⟩]) (ix := 6) (iz := 6) (R0 := fun _ _ _ => True) (R1 := fun g ws wz => ∃ cs : Array Value, g 13 = .agg cs ∧ wz = ws.setCells (w.heap.size + 1) 0 cs.toList) [12, 13] (⟨#[.agg #[.int .i64 now, .slice A n c], .int .i64 m, .pointer (some ⟨w.heap.size, 0, none⟩), undef, .pointer (some ⟨w.heap.size + 1, 0, none⟩), undef, .int .i64 m, .bool true, .pointer (some ⟨w.heap.size, 0, none⟩), .int .i64 now, .pointer (some ⟨w.heap.size, 1, none⟩), .slice A n c, undef, undef, undef, undef, undef, undef, undef, undef, undef, undef, undef, undef, undef, undef, undef, undef, undef, undef, undef, undef, undef], []⟩) (fun g => ⟨#[.agg #[.int .i64 now, .slice A n c], .int .i64 m, .pointer (some ⟨w.heap.size, 0, none⟩), undef, .pointer (some ⟨w.heap.size + 1, 0, none⟩), undef, .int .i64 m, .bool true, .pointer (some ⟨w.heap.size, 0, none⟩), .int .i64 now, .pointer (some ⟨w.heap.size, 1, none⟩), .slice A n c, (g 12), (g 13), undef, undef, undef, undef, undef, undef, undef, undef, undef, undef, undef, undef, undef, undef, undef, undef, undef, undef, undef], []⟩) [.pointer (some ⟨w.heap.size, 0, none⟩), .int .i64 now, .pointer (some ⟨w.heap.size, 1, none⟩), .slice A n c, undef, undef, undef] (by kernel_rfl) (by kernel_rfl) (by kernel_rfl) (fun g => by kernel_rfl) (by kernel_rfl) (Below.refl _ _).drew (by decide)
      (goes_cons (goesK_pure (fun _ => .pointer (some ⟨w.heap.size, 0, none⟩)) rfl (by decide) (by decide) (by kernel_rfl) (fun g => by kernel_rfl) rfl (fun g => by kernel_rfl) (fun g w => by kernel_rfl)) 
      (goes_cons (goesK_cell hst (ahead_path [1] (by kernel_rfl) (by decide)) rfl (by decide) (by decide) (by kernel_rfl) (fun g => by kernel_rfl) rfl (fun g => by kernel_rfl) rfl (fun g => by kernel_rfl) l0 (fun w => by kernel_rfl)) 
      (goes_cons (goesK_pure (fun _ => .pointer (some ⟨w.heap.size, 1, none⟩)) rfl (by decide) (by decide) (by kernel_rfl) (fun g => by kernel_rfl) rfl (fun g => by kernel_rfl) (fun g w => by kernel_rfl)) 
      (goes_cons (goesK_cell hst (ahead_path [3] (by kernel_rfl) (by decide)) rfl (by decide) (by decide) (by kernel_rfl) (fun g => by kernel_rfl) rfl (fun g => by kernel_rfl) rfl (fun g => by kernel_rfl) l1 (fun w => by kernel_rfl)) 
      (goes_cons (goesK_ghost (args := fun g => #[.slice A n c]) hst (ahead_path [4] (by kernel_rfl) (by decide)) rfl (by decide) (by decide) 0 rfl (by kernel_rfl) (fun g => by kernel_rfl) rfl (fun g => by kernel_rfl) (fun g w => by kernel_rfl) (fun g W hW hin => HCL.out W hW)) 
      (goes_cons (goesK_build2 (p' := 0) hst (ahead_path [5] (by kernel_rfl) (by decide)) rfl (by decide) (by decide) 1 rfl rfl (by kernel_rfl) (by kernel_rfl) (fun g => by kernel_rfl) rfl (fun g => by kernel_rfl) rfl (fun g => by kernel_rfl) (fun g => by kernel_rfl) HBL.out) 
      (goes_cons (goesK_box rfl rfl rfl (by kernel_rfl) (fun g => by kernel_rfl) rfl rfl (fun g => by kernel_rfl) (fun g => by kernel_rfl) y0 (by kernel_rfl) (fun g W hW hK => by have h13 := hK 1 _ rfl; exact HBX.out _ W h13)) goes_nil))))))) ?_
    rintro g ws W hW hK ⟨cs, e13, rfl⟩
    have hg := hK 1 _ rfl
    clear hK hst HBX HBL HCL l0 l1
    rw [HF2.out] at hg
    obtain ⟨B, d, e14, hd, hrB⟩ := hg
    change g 13 = _ at e14
    rw [e13] at e14
    injection e14 with e14
    subst e14
    have y1 := (y0.below hW y0.lt).setAll (ds := #[.int .i64 now, .slice B n d]) rfl
    have hF := setCells_fr (w.heap.size + 1) (#[.int .i64 now, .slice B n d] : Array Value).toList ws
    have hBE := (hB0.trans (hW.mono hB0.size)).trans (hF.below (B := w.heap.size) (Nat.le_trans hB0.size hW.size) (fun k hk => by omega))
    have rdE := (hrB.fr (hF.mono (S' := S2) (fun k hk => by rw [HS2.out]; exact Or.inr (by have := y0.lt; omega))) (Wid.refl _ _)).mono (S' := S) (fun k hk => by rw [HS2.out]; exact .inl hk)
    obtain ⟨WE, hWE⟩ : ∃ WE, ws.setCells (w.heap.size + 1) 0 (#[.int .i64 now, .slice B n d] : Array Value).toList = WE := ⟨_, rfl⟩
    rw [hWE] at y1 hBE rdE ⊢
    clear hWE hF hrB e13 hW y0 k0
    have p0 := y1.cell 0
    have p1 := y1.cell 1
    go_wp2_with fail
    refine bodyPost_ret (v := stV now B n d) (by simp [results, Try.results15, go_sem, stV, p0, p1]) rfl ⟨B, n, d, by rw [HE.out], ⟨by rw [HE.out]; exact HN.out, hd⟩, by rw [HE.out]; exact rdE, hBE⟩
  · have t1 : decide (m < 1) = false := decide_eq_false h1
    obtain ⟨M, hMm⟩ : ∃ M : Nat, (M : Int) = m := ⟨m.toNat, by omega⟩
    by_cases h2 : (n : Int) < m
    · have HE := Lib.hid (show popS ⟨now, l⟩ m = ⟨0, []⟩ from popN_all _ _ (by show l.length < m.toNat; omega))
      obtain ⟨D, hD⟩ : ∃ D, (n : Int) - m = D := ⟨_, rfl⟩
      have hwr : IntKind.i64.wrap ((n : Int) - m) = D := by
        rw [hD]
        have := hm.2
        exact wrap_id64 (by omega) (by omega)
      have t2 : decide (D < 0) = true := decide_eq_true (by omega)
      have a0 := k0.cell 0
      have a1 := k0.cell 1
      have q0 := y0.cell 0
      have q1 := y0.cell 1
      have z0 := y0.frozen 0
      have z1 := y0.frozen 1
      clear hD hm h1 h2 hMm hn
      go_enter Try.func15, Try.ntmps15
      go_wp2_with fail
      refine bodyPost_ret (v := stV 0 none 0 0) (by simp [results, Try.results15, go_sem, stV]) rfl ⟨none, 0, 0, by rw [HE.out], ⟨by rw [HE.out]; rfl, Nat.le_refl _⟩, by rw [HE.out]; exact RdOff.nil _ _ _, hB0⟩
    · obtain ⟨q, hq⟩ : ∃ q : Nat, (n : Int) - m = (q : Int) := ⟨n - M, by omega⟩
      have hqn : q < n := by omega
      have hwr : IntKind.i64.wrap ((n : Int) - m) = (q : Int) := by
        rw [hq]
        exact wrap_id64 (by omega) (by omega)
      have t2 : decide ((q : Int) < 0) = false := decide_eq_false (by omega)
      obtain ⟨b, o, rfl, hbl, hcc⟩ := hr.int_at (by omega)
      have hql : q < l.length := by omega
      obtain ⟨x, hx⟩ : ∃ x, l[q]'hql = x := ⟨_, rfl⟩
      have HE := Lib.hid (show popS ⟨now, l⟩ m = ⟨x, l.take q⟩ by
        show popN m.toNat _ = _
        have h3 := popN_take (m.toNat - 1) ⟨now, l⟩ (by show m.toNat - 1 < l.length; omega)
        rw [show m.toNat - 1 + 1 = m.toNat by omega] at h3
        rw [h3]
        show St.mk (l.getD (l.length - 1 - (m.toNat - 1)) 0) (l.take (l.length - 1 - (m.toNat - 1))) = _
        rw [show l.length - 1 - (m.toNat - 1) = q by omega, ← hx, List.getD_eq_getElem?_getD, List.getElem?_eq_getElem hql]
        rfl)
      have hlx := hcc q hql
      rw [hx] at hlx
      obtain ⟨A1, hcut, hcutr⟩ := cutk_run (P := Try.prog) (T := 22) rfl Try.underlying22 hso (some ⟨b, o, none⟩) n c q (by omega) hnc
      have a0 := k0.cell 0
      have a1 := k0.cell 1
      clear hx hq hm h1 h2 hMm hn hcc
      go_enter Try.func15, Try.ntmps15
      go_wp2_with fail
      clear a0 a1
      obtain ⟨w2, hw2⟩ : ∃ w2, (w.alloc (.cells #[.int .i64 now, .slice (some ⟨b, o, none⟩) n c] 27)).alloc (.cells #[.int .i64 0, .slice none 0 0] 27) = w2 := ⟨_, rfl⟩
      rw [hw2] at k0 y0 hB0 ⊢
      clear hw2
      obtain ⟨S2, hS2⟩ : ∃ T : Nat → Prop, T = fun k => S k ∨ k < w2.heap.size := ⟨_, rfl⟩
      have hSlt : ∀ k, S2 k → k < w2.heap.size := fun k hk => by
        rw [hS2] at hk
        rcases hk with hk | hk
        · have := HS.out k hk; have := hB0.size; omega
        · exact hk
      have l0 : ∀ W, Below w2.heap.size w2 W → W.cell? ⟨w.heap.size, 0, none⟩ = some (.int .i64 now) := fun W hW => (k0.below hW k0.lt).cell 0
      have l1 : ∀ W, Below w2.heap.size w2 W → W.cell? ⟨w.heap.size, 1, none⟩ = some (.slice (some ⟨b, o, none⟩) n c) := fun W hW => (k0.below hW k0.lt).cell 1
      have lx : ∀ W, Below w2.heap.size w2 W → W.cell? ⟨b, o + q, none⟩ = some (.int .i64 x) := fun W hW => ((hB0.trans (hW.mono hB0.size)).cell (p := ⟨b, o + q, none⟩) hbl).trans hlx
      obtain ⟨F1, hF1⟩ : ∃ F : Value → World → Prop, F = PopF S2 q (is_ (l.take q)) := ⟨_, rfl⟩
      obtain ⟨F2, hF2⟩ : ∃ F : Value → World → Prop, F = PopG S2 x q (is_ (l.take q)) := ⟨_, rfl⟩
      have HBX : Hid (∀ v W, F2 v W → ∃ cs : Array Value, v = .agg cs ∧ cs.size = 2 ∧ cs.toList.all (·.oneCell') = true) := Lib.hid fun v W h => by
        rw [hF2] at h
        obtain ⟨B, d, e, _⟩ := h
        exact ⟨_, e, rfl, rfl⟩
      have HBL : Hid (∀ v W, F1 v W → (Instr.build 27 #[(0, .int .i64 x), (1, v)]).run Try.prog W = .ok (.agg #[.int .i64 x, v]) W ∧ F2 (.agg #[.int .i64 x, v]) W) := Lib.hid fun v W h => by
        rw [hF1] at h
        rw [hF2]
        obtain ⟨B, d, e, h1, h2⟩ := h
        exact ⟨by rw [e]; kernel_rfl, B, d, by rw [e], h1, h2⟩
      have hst : ∀ f ∈ ([⟨9, 31, F1⟩, ⟨10, 32, F2⟩] : List Fact), f.ok :=
        all_cons (fun v W W' h hb => by rw [hF1] at h ⊢; exact h.below hb) (all_cons (fun v W W' h hb => by rw [hF2] at h ⊢; exact h.below hb) all_nil)
      have HCL : Hid (∀ W, Below w2.heap.size w2 W → Calls Try.prog 24 #[.slice A1 q c] W fun e W' => ∃ v, e = .returned v ∧ F1 v W' ∧ Below W.heap.size W W') := Lib.hid fun W hW => by
        refine (clone_any S2 _ _ _ (is_ (l.take q)) W (fun k hk => Nat.lt_of_lt_of_le (hSlt k hk) hW.size) (by rw [is_len]; exact (by simp [HN.out]; omega)) (by omega) ((RDP6 hr hB0 hW hcutr (by rw [is_len, HN.out]))) (is_one _)).mono ?_
        rintro e W' ⟨B, d, rfl, hd, hrB, hb⟩
        exact ⟨_, rfl, by rw [hF1]; exact ⟨B, d, rfl, hd, hrB⟩, hb⟩
      clear hSlt hr
      have HF1 := Lib.hid hF1
      have HF2 := Lib.hid hF2
      have HS2 := Lib.hid hS2
      clear hF1 hF2 hS2
      refine wp_region_last (w1 := w2) (K := [⟨9, 31, F1⟩, ⟨10, 32, F2⟩]) (ix := 11) (iz := 11) (R0 := fun _ _ _ => True) (R1 := fun g ws wz => ∃ cs : Array Value, g 32 = .agg cs ∧ wz = ws.setCells (w.heap.size + 1) 0 cs.toList) [31, 32] (⟨#[.agg #[.int .i64 now, .slice (some ⟨b, o, none⟩) n c], .int .i64 m, .pointer (some ⟨w.heap.size, 0, none⟩), undef, .pointer (some ⟨w.heap.size + 1, 0, none⟩), .int .i64 (q : Int), .int .i64 m, .bool false, undef, undef, undef, undef, undef, undef, .pointer (some ⟨w.heap.size, 1, none⟩), .slice (some ⟨b, o, none⟩) n c, .int .i64 (n : Int), .int .i64 m, .int .i64 (q : Int), .int .i64 (q : Int), .bool false, undef, .pointer (some ⟨w.heap.size, 1, none⟩), .slice (some ⟨b, o, none⟩) n c, .int .i64 (q : Int), .pointer (some ⟨b, o + q, none⟩), .int .i64 x, .pointer (some ⟨w.heap.size, 1, none⟩), .slice (some ⟨b, o, none⟩) n c, .int .i64 (q : Int), .slice A1 q c, undef, undef], []⟩) (fun g => ⟨#[.agg #[.int .i64 now, .slice (some ⟨b, o, none⟩) n c], .int .i64 m, .pointer (some ⟨w.heap.size, 0, none⟩), undef, .pointer (some ⟨w.heap.size + 1, 0, none⟩), .int .i64 (q : Int), .int .i64 m, .bool false, undef, undef, undef, undef, undef, undef, .pointer (some ⟨w.heap.size, 1, none⟩), .slice (some ⟨b, o, none⟩) n c, .int .i64 (n : Int), .int .i64 m, .int .i64 (q : Int), .int .i64 (q : Int), .bool false, undef, .pointer (some ⟨w.heap.size, 1, none⟩), .slice (some ⟨b, o, none⟩) n c, .int .i64 (q : Int), .pointer (some ⟨b, o + q, none⟩), .int .i64 x, .pointer (some ⟨w.heap.size, 1, none⟩), .slice (some ⟨b, o, none⟩) n c, .int .i64 (q : Int), .slice A1 q c, (g 31), (g 32)], []⟩) [.pointer (some ⟨w.heap.size, 1, none⟩), .slice (some ⟨b, o, none⟩) n c, .int .i64 (q : Int), .pointer (some ⟨b, o + q, none⟩), .int .i64 x, .pointer (some ⟨w.heap.size, 1, none⟩), .slice (some ⟨b, o, none⟩) n c, .int .i64 (q : Int), .slice A1 q c, undef, undef, undef] (by kernel_rfl) (by kernel_rfl) (by kernel_rfl) (fun g => by kernel_rfl) (by kernel_rfl) (Below.refl _ _).drew (by decide)
        (goes_cons (goesK_pure (fun _ => .pointer (some ⟨w.heap.size, 1, none⟩)) rfl (by decide) (by decide) (by kernel_rfl) (fun g => by kernel_rfl) rfl (fun g => by kernel_rfl) (fun g w => by kernel_rfl)) 
        (goes_cons (goesK_cell hst (ahead_path [1] (by kernel_rfl) (by decide)) rfl (by decide) (by decide) (by kernel_rfl) (fun g => by kernel_rfl) rfl (fun g => by kernel_rfl) rfl (fun g => by kernel_rfl) l1 (fun w => by kernel_rfl)) 
        (goes_cons (goesK_pure (fun _ => .int .i64 (q : Int)) rfl (by decide) (by decide) (by kernel_rfl) (fun g => by kernel_rfl) rfl (fun g => by kernel_rfl) (fun g w => by kernel_rfl)) 
        (goes_cons (goesK_index (b := b) (q := o) (m := n) (c := c) (k := q) rfl (by decide) (by decide) (by kernel_rfl) (fun g => by kernel_rfl) rfl (fun g => by kernel_rfl) rfl (fun g => by kernel_rfl) (fun g => by kernel_rfl) hqn Try.underlying22 (fun w => by kernel_rfl)) 
        (goes_cons (goesK_cell hst (ahead_path [4] (by kernel_rfl) (by decide)) rfl (by decide) (by decide) (by kernel_rfl) (fun g => by kernel_rfl) rfl (fun g => by kernel_rfl) rfl (fun g => by kernel_rfl) lx (fun w => by kernel_rfl)) 
        (goes_cons (goesK_pure (fun _ => .pointer (some ⟨w.heap.size, 1, none⟩)) rfl (by decide) (by decide) (by kernel_rfl) (fun g => by kernel_rfl) rfl (fun g => by kernel_rfl) (fun g w => by kernel_rfl)) 
        (goes_cons (goesK_cell hst (ahead_path [6] (by kernel_rfl) (by decide)) rfl (by decide) (by decide) (by kernel_rfl) (fun g => by kernel_rfl) rfl (fun g => by kernel_rfl) rfl (fun g => by kernel_rfl) l1 (fun w => by kernel_rfl)) 
        (goes_cons (goesK_pure (fun _ => .int .i64 (q : Int)) rfl (by decide) (by decide) (by kernel_rfl) (fun g => by kernel_rfl) rfl (fun g => by kernel_rfl) (fun g w => by kernel_rfl)) 
        (goes_cons (goesK_cut rfl (by decide) (by decide) (by kernel_rfl) (fun g => by kernel_rfl) rfl (fun g => by kernel_rfl) rfl (fun g => by kernel_rfl) (fun g => by kernel_rfl) (fun g => by kernel_rfl) (fun g => by kernel_rfl) Try.underlying22 hcut) 
        (goes_cons (goesK_ghost (args := fun g => #[.slice A1 q c]) hst (ahead_path [9] (by kernel_rfl) (by decide)) rfl (by decide) (by decide) 0 rfl (by kernel_rfl) (fun g => by kernel_rfl) rfl (fun g => by kernel_rfl) (fun g w => by kernel_rfl) (fun g W hW hin => HCL.out W hW)) 
        (goes_cons (goesK_build2 (p' := 0) hst (ahead_path [10] (by kernel_rfl) (by decide)) rfl (by decide) (by decide) 1 rfl rfl (by kernel_rfl) (by kernel_rfl) (fun g => by kernel_rfl) rfl (fun g => by kernel_rfl) rfl (fun g => by kernel_rfl) (fun g => by kernel_rfl) HBL.out) 
        (goes_cons (goesK_box rfl rfl rfl (by kernel_rfl) (fun g => by kernel_rfl) rfl rfl (fun g => by kernel_rfl) (fun g => by kernel_rfl) y0 (by kernel_rfl) (fun g W hW hK => by have h13 := hK 1 _ rfl; exact HBX.out _ W h13)) goes_nil)))))))))))) ?_
      rintro g ws W hW hK ⟨cs, e13, rfl⟩
      have hg := hK 1 _ rfl
      clear hK hst HBX HBL HCL l1 lx hcut
      rw [HF2.out] at hg
      obtain ⟨B, d, e14, hd, hrB⟩ := hg
      change g 32 = _ at e14
      rw [e13] at e14
      injection e14 with e14
      subst e14
      have y1 := (y0.below hW y0.lt).setAll (ds := #[.int .i64 x, .slice B q d]) rfl
      have hF := setCells_fr (w.heap.size + 1) (#[.int .i64 x, .slice B q d] : Array Value).toList ws
      have hBE := (hB0.trans (hW.mono hB0.size)).trans (hF.below (B := w.heap.size) (Nat.le_trans hB0.size hW.size) (fun k hk => by omega))
      have rdE := (hrB.fr (hF.mono (S' := S2) (fun k hk => by rw [HS2.out]; exact Or.inr (by have := y0.lt; omega))) (Wid.refl _ _)).mono (S' := S) (fun k hk => by rw [HS2.out]; exact .inl hk)
      obtain ⟨WE, hWE⟩ : ∃ WE, ws.setCells (w.heap.size + 1) 0 (#[.int .i64 x, .slice B q d] : Array Value).toList = WE := ⟨_, rfl⟩
      rw [hWE] at y1 hBE rdE ⊢
      clear hWE hF hrB e13 hW y0 k0
      have p0 := y1.cell 0
      have p1 := y1.cell 1
      go_wp2_with fail
      refine bodyPost_ret (v := stV x B q d) (by simp [results, Try.results15, go_sem, stV, p0, p1]) rfl ⟨B, q, d, by rw [HE.out], ⟨by rw [HE.out]; exact (by simp [HN.out]; omega), hd⟩, by rw [HE.out]; exact rdE, hBE⟩
end
end Go.Proofs.Ytocbkcofmebfmaa
