/-
  Layer 10, the landed mods: what its functions tell, and all that the layer's laws need of the program.
-/
import Derived.Test.YtdhpbihooeckoaaDoorMdtC
import Derived.Test.YtdhpbihooeckoaaDoorMdtG
import Derived.Test.YtdhpbihooeckoaaDoorKoL
import Derived.Test.YtdhpbihooeckoaaDoorMdsC
import Derived.Laws.BitsLemmas
namespace Go.Proofs.YtdhpbihooeckoaaDoor
open Go.RowKit

theorem mask7 {x : Int} (h0 : 0 ≤ x) (h1 : x ≤ 9223372036854775807) : bits .and .i64 x 7 = x % 8 :=
  bits_mask .i64 63 (by decide) (fun n a b => by rw [IntKind.wrap_i64]; omega) 3 (by decide) x h0 (by omega)
theorem mask1 {x : Int} (h0 : 0 ≤ x) (h1 : x ≤ 9223372036854775807) : bits .and .i64 x 1 = x % 2 :=
  bits_mask .i64 63 (by decide) (fun n a b => by rw [IntKind.wrap_i64]; omega) 1 (by decide) x h0 (by omega)
set_option maxRecDepth 100000 in
theorem pold_any (n : Int) (w : World) (hn : in10 n) : Calls Tryd.prog 16 #[.int .i64 n] w fun e w' => e = .returned (.int .i64 (oldN n)) ∧ Below w.heap.size w w' := by
  obtain ⟨N, hN⟩ : ∃ N, max n 0 = N := ⟨_, rfl⟩
  have hmax := max0 n N hN (P := Tryd.prog)
  obtain ⟨F, hF⟩ : ∃ F, oldN n = F := ⟨_, rfl⟩
  have hm : bits .and .i64 N 7 = F := by
    have h2 := hn.2
    rw [mask7 (by omega) (by omega), ← hF, ← hN]
    rfl
  rw [hF]
  clear hF hN hn
  go_enter Tryd.func16, Tryd.ntmps16
  go_wp2
  go_ret
  exact ⟨rfl, by first | exact Below.refl _ _ | exact below_drewN (Below.refl _ _) _⟩
def areN (n : Int) : Bool := decide (0 ≤ n) && decide (n ≤ 255)
set_option maxRecDepth 100000 in
theorem are_any (n : Int) (w : World) : Calls Tryd.prog 23 #[.int .i64 n] w fun e w' => e = .returned (.bool (areN n)) ∧ Below w.heap.size w w' := by
  obtain ⟨R, hR⟩ : ∃ R, areN n = R := ⟨_, rfl⟩
  rw [hR]
  have HR := Lib.hid hR
  clear hR
  by_cases h0 : 0 ≤ n
  · by_cases h1 : n ≤ 255
    · have HF := Lib.hid (show true = R by rw [← HR.out]; simp [areN, h0, h1])
      go_enter Tryd.func23, Tryd.ntmps23
      go_wp2_with fail
      go_ret
      exact ⟨ret_b HF.out, Below.refl _ _⟩
    · have HF := Lib.hid (show false = R by rw [← HR.out]; simp [areN, h1])
      go_enter Tryd.func23, Tryd.ntmps23
      go_wp2_with fail
      go_ret
      exact ⟨ret_b HF.out, Below.refl _ _⟩
  · have HF := Lib.hid (show false = R by rw [← HR.out]; simp [areN, h0])
    go_enter Tryd.func23, Tryd.ntmps23
    go_wp2_with fail
    go_ret
    exact ⟨ret_b HF.out, Below.refl _ _⟩
theorem are_at {n : Int} {q : Bool} (h : areN n = q) (w : World) : Calls Tryd.prog 23 #[.int .i64 n] w fun e w' => e = .returned (.bool q) ∧ Below w.heap.size w w' := by
  rw [← h]
  exact are_any n w
set_option maxRecDepth 100000 in
theorem pparam_any (n : Int) (w : World) : Calls Tryd.prog 18 #[.int .i64 n] w fun e w' => e = .returned (.int .i64 (paramN n)) ∧ Below w.heap.size w w' := by
  cases hq : areN n with
  | true =>
    have hr : 0 ≤ n ∧ n ≤ 255 := by simpa [areN] using hq
    have hp : paramN n = n + 1 := by unfold paramN; rw [if_neg (by omega)]
    have hw : IntKind.i64.wrap (n + 1) = n + 1 := by rw [IntKind.wrap_i64]; omega
    have hcall := fun W => are_at hq W
    rw [hp]
    clear hp hr hq
    go_enter Tryd.func18, Tryd.ntmps18
    go_wp2_with fail
    refine (hcall _).mono ?_
    clear hcall
    rintro e w1 ⟨rfl, hb1⟩
    go_wp2_with fail
    go_ret
    exact ⟨rfl, hb1⟩
  | false =>
    have hr : ¬ (0 ≤ n ∧ n ≤ 255) := by simpa [areN] using hq
    have hp : paramN n = 1 := by unfold paramN; rw [if_pos (by omega)]
    have hcall := fun W => are_at hq W
    rw [hp]
    clear hp hr hq
    go_enter Tryd.func18, Tryd.ntmps18
    go_wp2_with fail
    refine (hcall _).mono ?_
    clear hcall
    rintro e w1 ⟨rfl, hb1⟩
    go_wp2_with fail
    go_ret
    exact ⟨rfl, hb1⟩
set_option maxRecDepth 100000 in
theorem pof_any (n : Int) (w : World) (hn : in10 n) : Calls Tryd.prog 14 #[.int .i64 n] w fun e w' => e = .returned (.tuple #[.int .i64 (ofN n).1, .bool (ofN n).2]) ∧ Below w.heap.size w w' := by
  obtain ⟨m, hm⟩ : ∃ m, IntKind.i64.wrap (n - 1) = m := ⟨_, rfl⟩
  have hr0 : m = n - 1 ∨ (n = -9223372036854775808 ∧ m = 9223372036854775807) := by
    rw [← hm, IntKind.wrap_i64]
    have := hn.1
    have := hn.2
    omega
  cases hq : areN m with
  | true =>
    have hr : 0 ≤ m ∧ m ≤ 255 := by simpa [areN] using hq
    have hp : ofN n = (m, true) := by unfold ofN; rw [if_neg (by omega)]; congr 1; omega
    have hcall := fun W => are_at hq W
    rw [hp]
    clear hp hr hq hn hr0
    go_enter Tryd.func14, Tryd.ntmps14
    go_wp2_with fail
    refine (hcall _).mono ?_
    clear hcall
    rintro e w1 ⟨rfl, hb1⟩
    go_wp2_with fail
    go_ret2
    exact ⟨rfl, hb1⟩
  | false =>
    have hr : ¬ (0 ≤ m ∧ m ≤ 255) := by simpa [areN] using hq
    have hp : ofN n = (0, false) := by unfold ofN; rw [if_pos (by omega)]
    have hcall := fun W => are_at hq W
    rw [hp]
    clear hp hr hq hn hr0
    go_enter Tryd.func14, Tryd.ntmps14
    go_wp2_with fail
    refine (hcall _).mono ?_
    clear hcall
    rintro e w1 ⟨rfl, hb1⟩
    go_wp2_with fail
    go_ret2
    exact ⟨rfl, hb1⟩
def typeN (n : Int) : Bool := n == 1 || n == 2 || n == 3
theorem type_eq (n : Int) : typeN n = (!(decide (n < 1) || decide (3 < n))) := by
  unfold typeN
  rw [Bool.eq_iff_iff]
  simp only [Bool.or_eq_true, beq_iff_eq, Bool.not_eq_true', Bool.or_eq_false_iff, decide_eq_false_iff_not]
  omega
theorem are_eq (n : Int) : areN n = (!(decide (n < 0) || decide (255 < n))) := by
  unfold areN
  rw [Bool.eq_iff_iff]
  simp only [Bool.and_eq_true, decide_eq_true_eq, Bool.not_eq_true', Bool.or_eq_false_iff, decide_eq_false_iff_not]
  omega
set_option maxRecDepth 100000 in
theorem type_any (n : Int) (w : World) : Calls Tryd.prog 24 #[.int .i64 n] w fun e w' => e = .returned (.bool (typeN n)) ∧ Below w.heap.size w w' := by
  unfold typeN
  obtain ⟨a, ha⟩ : ∃ a, (n == 1) = a := ⟨_, rfl⟩
  obtain ⟨b, hb⟩ : ∃ a, (n == 2) = a := ⟨_, rfl⟩
  obtain ⟨c, hc⟩ : ∃ a, (n == 3) = a := ⟨_, rfl⟩
  rw [ha, hb, hc]
  go_enter Tryd.func24, Tryd.ntmps24
  cases a <;> cases b <;> cases c <;> (go_wp2_with fail; go_ret; exact ⟨rfl, Below.refl _ _⟩)
set_option maxRecDepth 100000 in
theorem tn_any (c : Int) (w : World) (hs : Siz w) (hR : Rws w) : Calls Tryd.prog 25 #[.int .i64 c] w fun e w' => e = .returned (.bool (c == 0 || textK c)) ∧ Below w.heap.size w w' := by
  obtain ⟨a, ha⟩ : ∃ a, (c == 0) = a := ⟨_, rfl⟩
  obtain ⟨ki, hki⟩ : ∃ q, (lookE c).kind = q := ⟨_, rfl⟩
  have hf : ∀ W : World, (Instr.field 34 (enV (lookE c)) 0).run Tryd.prog W = .ok (.int .i64 ki) W := fun W => by
    rw [← hki]
    exact (by kernel_rfl : (Instr.field 34 (enV (lookE c)) 0).run Tryd.prog W = .ok (.int .i64 (lookE c).kind) W)
  have hlook := plook_any c w hs hR
  have HT := Lib.hid (show textK c = (ki == 1) by unfold textK; rw [hki])
  obtain ⟨q, hq⟩ : ∃ q, (ki == 1) = q := ⟨_, rfl⟩
  rw [HT.out, ha, hq]
  obtain ⟨E, hE⟩ : ∃ E, enV (lookE c) = E := ⟨_, rfl⟩
  rw [hE] at hf hlook
  clear hE hki HT hs hR
  go_enter Tryd.func25, Tryd.ntmps25
  cases a with
  | true =>
    go_wp2_with fail
    go_ret
    exact ⟨rfl, Below.refl _ _⟩
  | false =>
    go_wp2_with fail
    refine hlook.mono ?_
    clear hlook
    rintro e w1 ⟨rfl, hb1⟩
    go_wp2_with fail
    go_ret
    exact ⟨rfl, hb1⟩
set_option maxRecDepth 100000 in
set_option maxHeartbeats 4000000 in
theorem pshown_any (k : Ky) (hk : okK k) (w : World) : Calls Tryd.prog 12 #[kyV k] w fun e w' => e = .returned (.int .i64 (shownK k)) ∧ Below w.heap.size w w' := by
  have hB := ky_box w k
  have hold := pold_any k.mods (w.alloc (.cells (kyC k) 23)) hk.mods
  have k0 := Blk.new w 23 (kyC k)
  have hsh : shownK k = if hasN k.mods 1 = false then k.code else if k.shift ≠ 0 then k.shift else if 97 ≤ k.code ∧ k.code ≤ 122 then k.code - 32 else k.code := rfl
  obtain ⟨F, hF⟩ : ∃ F, oldN k.mods = F := ⟨_, rfl⟩
  have hr : 0 ≤ F ∧ F < 8 := by rw [← hF]; unfold oldN; omega
  obtain ⟨N, hN⟩ : ∃ N, bits .and .i64 F 1 = N := ⟨_, rfl⟩
  have hN2 : N = F % 2 := by rw [← hN]; exact mask1 hr.1 (by omega)
  obtain ⟨p, hp⟩ : ∃ p, hasN k.mods 1 = p := ⟨_, rfl⟩
  have hz : (N == 0) = !p := by
    rw [← hp]
    unfold hasN
    rw [Int.ediv_one, hN2, ← hF]
    unfold oldN
    have e : max k.mods 0 % 8 % 2 = max k.mods 0 % 2 := by omega
    rw [e]
    rcases Int.emod_two_eq (max k.mods 0) with h | h <;> rw [h] <;> rfl
  have hc := hk.code
  rw [hF] at hold
  rw [hp] at hsh
  clear hk hp hF hr hN2
  rw [kyV]
  rw [kyC] at hB hold k0
  obtain ⟨code, mods, typ, shift, base, text⟩ := k
  simp only at hB hold k0 hsh hc ⊢
  go_enter Tryd.func12, Tryd.ntmps12
  have a0 := k0.cell 0
  have a1 := k0.cell 1
  have a3 := k0.cell 3
  have HSH := Lib.hid hsh
  clear hsh
  go_wp2_with fail
  refine hold.mono ?_
  clear hold
  rintro e w1 ⟨rfl, hb1⟩
  have k1 := k0.below hb1 k0.lt
  have hB1 := hB.trans (hb1.mono hB.size)
  clear k0 hB hb1 a0 a1 a3
  have a0 := k1.cell 0
  have a3 := k1.cell 3
  cases p with
  | false =>
    have hz2 : (N == 0) = true := hz
    clear hz
    go_wp2_with fail
    go_ret
    exact ⟨ret_i (by rw [HSH.out]; rfl), hB1⟩
  | true =>
    have hz2 : (N == 0) = false := hz
    clear hz
    by_cases h3 : shift = 0
    · subst h3
      by_cases h4 : 97 ≤ code
      · by_cases h5 : code ≤ 122
        · have e1 : IntKind.i64.wrap (code - 97) = code - 97 := by rw [IntKind.wrap_i64]; omega
          have e2 : IntKind.i64.wrap (code - 97 + 65) = code - 32 := by rw [IntKind.wrap_i64]; omega
          go_wp2_with fail
          go_ret
          exact ⟨ret_i (by rw [HSH.out, if_neg (by decide), if_neg (fun h => h rfl), if_pos ⟨h4, h5⟩]), hB1⟩
        · have h6 : 122 < code := by omega
          go_wp2_with fail
          go_ret
          exact ⟨ret_i (by rw [HSH.out, if_neg (by decide), if_neg (fun h => h rfl), if_neg (by omega)]), hB1⟩
      · have h6 : code < 97 := by omega
        go_wp2_with fail
        go_ret
        exact ⟨ret_i (by rw [HSH.out, if_neg (by decide), if_neg (fun h => h rfl), if_neg (by omega)]), hB1⟩
    · have h5 : (shift == 0) = false := beq_false_of_ne h3
      have h6 : (shift != 0) = true := by simp [bne, h5]
      have H3 := Lib.hid h3
      clear h3
      go_wp2_with fail
      go_ret
      exact ⟨ret_i (by rw [HSH.out, if_neg (by decide), if_pos H3.out]), hB1⟩

set_option maxRecDepth 100000 in
set_option maxHeartbeats 8000000 in
theorem pmay_any (k : Ky) (hs : k.text.size ≤ 4294967296) (w : World) (hz : Siz w) (hR : Rws w) : Calls Tryd.prog 10 #[kyV k] w fun e w' => e = .returned (.bool (mayK k)) ∧ Below w.heap.size w w' := by
  obtain ⟨code, mods, typ, shift, base, text⟩ := k
  simp only at hs
  have HLK : Hid (∀ W, Siz W → Rws W → Calls Tryd.prog 22 #[.int .i64 code] W fun e w' => e = .returned (enV (lookE code)) ∧ Below W.heap.size W w') := Lib.hid fun W a b => plook_any code W a b
  obtain ⟨ki, hki⟩ : ∃ q, (lookE code).kind = q := ⟨_, rfl⟩
  have hf : ∀ W : World, (Instr.field 34 (enV (lookE code)) 0).run Tryd.prog W = .ok (.int .i64 ki) W := fun W => by
    rw [← hki]
    exact (by kernel_rfl : (Instr.field 34 (enV (lookE code)) 0).run Tryd.prog W = .ok (.int .i64 (lookE code).kind) W)
  obtain ⟨n0, h0⟩ : ∃ a, (ki != 0) = a := ⟨_, rfl⟩
  obtain ⟨am, h1⟩ : ∃ a, areN mods = a := ⟨_, rfl⟩
  obtain ⟨ty, h2⟩ : ∃ a, typeN typ = a := ⟨_, rfl⟩
  obtain ⟨p, hp⟩ : ∃ a, (shift == 0 || textK shift) = a := ⟨_, rfl⟩
  obtain ⟨q, hq⟩ : ∃ a, (base == 0 || textK base) = a := ⟨_, rfl⟩
  obtain ⟨r, hr⟩ : ∃ a, cleanB text = a := ⟨_, rfl⟩
  have HM := Lib.hid (show mayK ⟨code, mods, typ, shift, base, text⟩ = (n0 && (am && (ty && (p && (q && r))))) by
    rw [← h0, ← hki, ← h1, ← h2, ← hp, ← hq, ← hr, are_eq, type_eq]
    show (!((lookE code).kind == 0 || decide (mods < 0) || decide (255 < mods) || decide (typ < 1) || decide (3 < typ)) && ((shift == 0 || textK shift) && (base == 0 || textK base) && cleanB text)) = _
    show _ = ((!((lookE code).kind == 0)) && _)
    generalize ((lookE code).kind == 0) = x1
    generalize decide (mods < 0) = x2
    generalize decide (255 < mods) = x3
    generalize decide (typ < 1) = x4
    generalize decide (3 < typ) = x5
    generalize (shift == 0 || textK shift) = x6
    generalize (base == 0 || textK base) = x7
    generalize cleanB text = x8
    revert x1 x2 x3 x4 x5 x6 x7 x8
    decide)
  have HA : Hid (∀ W, Calls Tryd.prog 23 #[.int .i64 mods] W fun e w' => e = .returned (.bool am) ∧ Below W.heap.size W w') := Lib.hid fun W => are_at h1 W
  have HT : Hid (∀ W, Calls Tryd.prog 24 #[.int .i64 typ] W fun e w' => e = .returned (.bool ty) ∧ Below W.heap.size W w') := Lib.hid fun W => by
    have := type_any typ W
    rwa [h2] at this
  have HP : Hid (∀ W, Siz W → Rws W → Calls Tryd.prog 25 #[.int .i64 shift] W fun e w' => e = .returned (.bool p) ∧ Below W.heap.size W w') := Lib.hid fun W a b => by
    have := tn_any shift W a b
    rwa [hp] at this
  have HQ : Hid (∀ W, Siz W → Rws W → Calls Tryd.prog 25 #[.int .i64 base] W fun e w' => e = .returned (.bool q) ∧ Below W.heap.size W w') := Lib.hid fun W a b => by
    have := tn_any base W a b
    rwa [hq] at this
  have HC : Hid (∀ W, Siz W → Calls Tryd.prog 26 #[.string text] W fun e w' => e = .returned (.bool r) ∧ Below W.heap.size W w') := Lib.hid fun W a => by
    have := ptext_any text hs W a
    rwa [hr] at this
  obtain ⟨E, hE⟩ : ∃ E, enV (lookE code) = E := ⟨_, rfl⟩
  rw [hE] at HLK hf
  rw [HM.out]
  clear hE hki hp hq hr hs HM h1 h2
  have hB := ky_box w ⟨code, mods, typ, shift, base, text⟩
  have k0 := Blk.new w 23 (kyC ⟨code, mods, typ, shift, base, text⟩)
  rw [kyV]
  rw [kyC] at hB k0
  simp only at hB k0 ⊢
  have hz0 := hz.below' hB
  have hR0 := hR.below hB
  have c0 := k0.cell 0
  go_enter Tryd.func10, Tryd.ntmps10
  go_wp2_with fail
  refine (HLK.out _ hz0 hR0).mono ?_
  rintro e w1 ⟨rfl, hb1⟩
  have k1 := k0.below hb1 k0.lt
  have hB1 := hB.trans (hb1.mono hB.size)
  clear HLK k0 hB hb1 c0 hz0 hR0
  have c1 := k1.cell 1
  cases n0 with
  | false =>
    go_wp2_with fail
    go_ret
    exact ⟨rfl, hB1⟩
  | true =>
  go_wp2_with fail
  refine (HA.out _).mono ?_
  rintro e w2 ⟨rfl, hb2⟩
  have k2 := k1.below hb2 k1.lt
  have hB2 := hB1.trans (hb2.mono hB1.size)
  clear HA k1 hB1 hb2 c1
  have c2 := k2.cell 2
  cases am with
  | false =>
    go_wp2_with fail
    go_ret
    exact ⟨rfl, hB2⟩
  | true =>
  go_wp2_with fail
  refine (HT.out _).mono ?_
  rintro e w3 ⟨rfl, hb3⟩
  have k3 := k2.below hb3 k2.lt
  have hB3 := hB2.trans (hb3.mono hB2.size)
  clear HT k2 hB2 hb3 c2
  have c3 := k3.cell 3
  cases ty with
  | false =>
    go_wp2_with fail
    go_ret
    exact ⟨rfl, hB3⟩
  | true =>
  go_wp2_with fail
  refine (HP.out _ (hz.below' hB3) (hR.below hB3)).mono ?_
  rintro e w4 ⟨rfl, hb4⟩
  have k4 := k3.below hb4 k3.lt
  have hB4 := hB3.trans (hb4.mono hB3.size)
  clear HP k3 hB3 hb4 c3
  have c4 := k4.cell 4
  cases p with
  | false =>
    go_wp2_with fail
    go_ret
    exact ⟨rfl, hB4⟩
  | true =>
  go_wp2_with fail
  refine (HQ.out _ (hz.below' hB4) (hR.below hB4)).mono ?_
  rintro e w5 ⟨rfl, hb5⟩
  have k5 := k4.below hb5 k4.lt
  have hB5 := hB4.trans (hb5.mono hB4.size)
  clear HQ k4 hB4 hb5 c4
  have c5 := k5.cell 5
  cases q with
  | false =>
    go_wp2_with fail
    go_ret
    exact ⟨rfl, hB5⟩
  | true =>
  go_wp2_with fail
  refine (HC.out _ (hz.below' hB5)).mono ?_
  rintro e w6 ⟨rfl, hb6⟩
  have hB6 := hB5.trans (hb6.mono hB5.size)
  clear HC k5 hB5 hb6 c5
  go_wp2_with fail
  go_ret
  exact ⟨rfl, hB6⟩
/-- All that the layer's laws need of the program. -/
theorem mdsC : MdsC fun w => Siz w ∧ Rws w where
  invB h hb := ⟨h.1.below' hb, h.2.below hb⟩
  may k w h _ hs := pmay_any k hs w h.1 h.2
  old n w _ hn := pold_any n w hn
  param n w _ _ := pparam_any n w
  of n w _ hn := pof_any n w hn
  shown k w _ hk := pshown_any k hk w
  fold c w _ hc := pfold_any c w hc
end Go.Proofs.YtdhpbihooeckoaaDoor
