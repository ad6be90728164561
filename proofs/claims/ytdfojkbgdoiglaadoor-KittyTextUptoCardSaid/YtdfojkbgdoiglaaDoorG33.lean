/-
  Stage 13, the landed kitty: Key.
-/
import Derived.Test.YtdfojkbgdoiglaaDoorG27
import Derived.Test.YtdfojkbgdoiglaaDoorG29
import Derived.Test.YtdfojkbgdoiglaaDoorG32
namespace Go.Proofs.YtdfojkbgdoiglaaDoor
open Go.RowKit
theorem kip_max {ev : Operand → Value} {o : Oper} {x : Operand} {f s : Int} (h : max f 0 = s) (ho : o.op = .call { callee := .builtin .max, args := #[x, .const (.int .i64 0)], argTypes := #[3, 3] }) (hx : ev x = .int .i64 f) (hc : ev (.const (.int .i64 0)) = .int .i64 0) (w : World) : (execOp ev o).run Tryd.prog w = .ok (.value (.int .i64 s)) w := by
 have hm := max0 f s h (P := Tryd.prog) #[3, 3] o.type w
 unfold execOp
 simp only [ho]
 simp [resolve, invoke, builtin, hx, hc, hm]
def OutT (rm : Bool) (L : List UInt8) (w : World) (e : Ending) (w' : World) : Prop := ∃ A n c, e = .returned (.slice A n c) ∧ L.length = n ∧ (rm = true → n ≤ c) ∧ Rd w' A (bs L) ∧ Below w.heap.size w w'
theorem OutT.nil {rm : Bool} {L : List UInt8} (h : L = []) {w w' : World} (hb : Below w.heap.size w w') : OutT rm L w (.returned (.slice none 0 0)) w' := by
 subst h
 exact ⟨none, 0, 0, rfl, rfl, fun _ => Nat.le_refl _, Rd.nil _ _, hb⟩
theorem kip_sentB (f : Int) (k : Ky) : goesK f k = sentB (k.typ == 3) (flagK f 2) (flagK f 8) ((lookE k.code).kind != 7) (((lookE k.code).kind == 1) || keyedK k.code) := by
 unfold goesK sentB typesK
 cases h2 : flagK f 2 <;> cases h8 : flagK f 8 <;> by_cases h3 : k.typ = 3 <;> simp [h3]
theorem kip_asB (k : Ky) (m0 : 0 ≤ k.mods) (m1 : k.mods ≤ 255) : astextK k = asB ((lookE k.code).kind == 1) (bits .andNot .i64 k.mods 193 == 0) (((lookE k.code).kind == 1) || keyedK k.code) (bits .andNot .i64 k.mods 192 == 0) := by
 rw [(kip_none m0 m1).1, (kip_none m0 m1).2]
 unfold astextK asB
 by_cases h1 : (lookE k.code).kind = 1
 ·rw [if_pos h1, if_pos (by simpa using h1)]
 ·rw [if_neg h1, if_neg (by simpa using h1)]
  rw [beq_false_of_ne h1]
  rfl
set_option maxRecDepth 100000 in
set_option maxHeartbeats 8000000 in
theorem kkey_any (f : Int) (k : Ky) (hf : in10 f) (hk : okK k) (hs : k.text.size ≤ 4294967296) (w : World) (hz : Siz w) (hR : Rws w) (ht : Tab w) : Calls Tryd.prog 8 #[.int .i64 f, kyV k] w (OutT (flagK f 8) (kitL f k) w) := by
 obtain ⟨q, hq⟩ : ∃ q, mayK k = q := ⟨_, rfl⟩
 have HM : Hid (∀ W, Below w.heap.size w W → Calls Tryd.prog 16 #[kyV k] W fun e w' => e = .returned (.bool q) ∧ Below W.heap.size W w') := Lib.hid fun W hW => by rw [← hq]; exact pmods_may k hs W (hz.below' hW) (hR.below hW)
 obtain ⟨s, hS⟩ : ∃ s, max f 0 = s := ⟨_, rfl⟩
 obtain ⟨⟨K, E1, E2, E3, E4⟩, hE⟩ : ∃ E, lookE k.code = E := ⟨_, rfl⟩
 have HL : Hid (∀ W, Below w.heap.size w W → Calls Tryd.prog 11 #[.int .i64 k.code] W fun e w' => e = .returned (.agg #[.int .i64 K, .int .u8 E1, .int .i64 E2, .int .i64 E3, .bool E4]) ∧ Below W.heap.size W w') := Lib.hid fun W hW => by have := plook_any k.code W (hz.below' hW) (hR.below hW); rw [hE] at this; exact this
 have HS := Lib.hid hS
 have h2 := kip_has (d := 2) hf.2 (by omega)
 have h8 := kip_has (d := 8) hf.2 (by omega)
 rw [hS] at h2 h8
 obtain ⟨b2, hb2⟩ : ∃ x, flagK f 2 = x := ⟨_, rfl⟩
 obtain ⟨b8, hb8⟩ : ∃ x, flagK f 8 = x := ⟨_, rfl⟩
 rw [hb2] at h2
 rw [hb8] at h8
 rw [hb8]
 cases q with
 | false =>
   have hno : kitL f k = [] := by
    unfold kitL sentK
    rw [if_pos (if_pos hq)]
   have HNO := Lib.hid hno
   obtain ⟨R, hRR⟩ : ∃ R, kitL f k = R := ⟨_, rfl⟩
   rw [hRR] at HNO ⊢
   clear hno hRR hq hz hR ht hE HL HS h2 h8 hb2 hb8 hS hf hk hs
   obtain ⟨code, mods, typ, shift, base, text⟩ := k
   simp only [kyV] at HM ⊢
   have k0 := Blk.new w 23 #[.int .i64 code, .int .i64 mods, .int .i64 typ, .int .i64 shift, .int .i64 base, .string text]
   have hB0 : Below w.heap.size w (w.alloc (.cells #[.int .i64 code, .int .i64 mods, .int .i64 typ, .int .i64 shift, .int .i64 base, .string text] 23)) := (Below.refl _ _).alloc (Nat.le_refl _) _
   obtain ⟨a0, a1, a2, a3, a4, a5⟩ := Blk.cells6 k0
   go_enter Tryd.func8, Tryd.ntmps8
   go_wp2_with fail
   refine (HM.out _ hB0).mono ?_
   rintro e w1 ⟨rfl, hb1⟩
   have hB1 := hB0.trans (hb1.mono hB0.size)
   go_wp2_with fail
   go_ret
   exact OutT.nil HNO.out hB1
 | true =>
   obtain ⟨⟨hkd, m0, m1, y0, y1⟩, hsh, hba, hcl⟩ := (may_parts k).1 hq
   obtain ⟨se, hse⟩ : ∃ x, goesK f k = x := ⟨_, rfl⟩
   obtain ⟨ta, has⟩ : ∃ x, astextK k = x := ⟨_, rfl⟩
   have hseq := kip_sentB f k
   have hasq := kip_asB k m0 m1
   rw [hE, hse, hb2, hb8] at hseq
   rw [hE, has] at hasq
   have hsent := kip_sent f hq
   rw [hse] at hsent
   have HSE : Hid (∀ W, Calls Tryd.prog 17 #[evV13 k s K] W fun e w' => e = .returned (.bool se) ∧ Below W.heap.size W w') := Lib.hid fun W => ksent_any k s K b2 b8 se h2 h8 hseq.symm W
   have HAS : Hid (∀ W, Calls Tryd.prog 19 #[evV13 k s K] W fun e w' => e = .returned (.bool ta) ∧ Below W.heap.size W w') := Lib.hid fun W => kastext_any k s K _ _ ta rfl rfl hasq.symm W
   have H8 : Hid (∀ W, Calls Tryd.prog 18 #[.int .i64 s, .int .i64 8] W fun e w' => e = .returned (.bool b8) ∧ Below W.heap.size W w') := Lib.hid fun W => khas_any s 8 b8 h8 W
   have HQ : Hid (∀ W, Below w.heap.size w W → Calls Tryd.prog 21 #[evV13 k s K] W (OutC (putS (sqK f k)) W)) := Lib.hid fun W hW => kseq_any k s K hq hs f hf.2 hS.symm W (hz.below' hW) (hR.below hW) (ht.below hW)
   have HTX : Hid (ta = true → ∀ W, Below w.heap.size w W → Calls Tryd.prog 20 #[evV13 k s K] W (Out (plainK k) W)) := Lib.hid fun ha W hW => ktext_any k s K _ hk hs (by rw [kip_plain hq (has.trans ha), hE]) W (hz.below' hW)
   have HR0 := Lib.hid (show se = false → kitL f k = [] from fun h => by unfold kitL; rw [hsent, if_pos h])
   have HR1 := Lib.hid (show se = true → b8 = true ∨ ta = false → kitL f k = putS (sqK f k) from fun h h1 => by
    unfold kitL
    rw [hsent, if_neg (by rw [h]; decide), if_neg (fun hh => by
     rcases h1 with h1 | h1
     ·rw [hb8, h1] at hh; cases hh.1
     ·rw [has, h1] at hh; cases hh.2.2), putK_is f hq])
   have HR2 := Lib.hid (show se = true → b8 = false → ta = true → kitL f k = plainK k from fun h h1 h3 => by
    unfold kitL
    rw [hsent, if_neg (by rw [h]; decide), if_pos ((kip_text (hb8.trans h1) (hse.trans h)).2 (has.trans h3))])
   clear hsent hseq hasq hse has hkd m0 m1 y0 y1 hsh hba hcl hq hz hR ht hE h2 h8 hb2 hb8 hS hf hk hs
   obtain ⟨R, hRR⟩ : ∃ R, kitL f k = R := ⟨_, rfl⟩
   obtain ⟨S, hSS⟩ : ∃ R, putS (sqK f k) = R := ⟨_, rfl⟩
   obtain ⟨T, hTT⟩ : ∃ R, plainK k = R := ⟨_, rfl⟩
   rw [hRR] at HR0 HR1 HR2 ⊢
   rw [hSS] at HR1 HQ
   rw [hTT] at HR2 HTX
   clear hRR hSS hTT
   obtain ⟨code, mods, typ, shift, base, text⟩ := k
   simp only [kyV, evV13] at HM HL HSE HAS HQ HTX ⊢
   have k0 := Blk.new w 23 #[.int .i64 code, .int .i64 mods, .int .i64 typ, .int .i64 shift, .int .i64 base, .string text]
   have hB0 : Below w.heap.size w (w.alloc (.cells #[.int .i64 code, .int .i64 mods, .int .i64 typ, .int .i64 shift, .int .i64 base, .string text] 23)) := (Below.refl _ _).alloc (Nat.le_refl _) _
   obtain ⟨a0, a1, a2, a3, a4, a5⟩ := Blk.cells6 k0
   go_enter Tryd.func8, Tryd.ntmps8
   go_wp2_with fail
   refine (HM.out _ hB0).mono ?_
   rintro e w1 ⟨rfl, hb1⟩
   have hB1 := hB0.trans (hb1.mono hB0.size)
   have k1 := k0.below hb1 k0.lt
   clear k0 hB0 hb1 a0 a1 a2 a3 a4 a5 HM
   have hst : ∀ f ∈ [(⟨8, 5, FNew w1 47 #[.int .i64 0, .int .i64 0, .int .i64 0, .int .i64 0, .int .i64 0, .string ⟨#[]⟩, .int .i64 0, .int .i64 0]⟩ : Fact)], f.ok := fun f hf => by rw [List.mem_singleton] at hf; subst hf; exact fnew_ok _ _ _ _ _
   go_upto_region 3 with (fail)
   refine wp_region_last (w1 := w1) (K := [⟨8, 5, FNew w1 47 #[.int .i64 0, .int .i64 0, .int .i64 0, .int .i64 0, .int .i64 0, .string ⟨#[]⟩, .int .i64 0, .int .i64 0]⟩]) (ix := 9) (iz := 9) (R0 := fun _ _ _ => True) (R1 := fun g _ w => Below w1.heap.size w1 w ∧ FNew w1 47 #[.int .i64 code, .int .i64 mods, .int .i64 typ, .int .i64 shift, .int .i64 base, .string text, .int .i64 s, .int .i64 K] (g 5) w) [5] (⟨#[.int .i64 f, .agg #[.int .i64 code, .int .i64 mods, .int .i64 typ, .int .i64 shift, .int .i64 base, .string text], undef, .pointer (some ⟨w.heap.size, 0, none⟩), .slice none 0 0, undef, .agg #[.int .i64 code, .int .i64 mods, .int .i64 typ, .int .i64 shift, .int .i64 base, .string text], .bool true, .bool false, .agg #[.int .i64 code, .int .i64 mods, .int .i64 typ, .int .i64 shift, .int .i64 base, .string text], .int .i64 f, .int .i64 s, .pointer (some ⟨w.heap.size, 0, none⟩), .int .i64 code, .agg #[.int .i64 K, .int .u8 E1, .int .i64 E2, .int .i64 E3, .bool E4], .int .i64 K, .agg #[.int .i64 code, .int .i64 mods, .int .i64 typ, .int .i64 shift, .int .i64 base, .string text, .int .i64 s, .int .i64 K], undef, undef, undef, undef, undef, undef, undef, undef, undef, undef, undef, undef, undef, undef, undef, undef, undef], []⟩) (fun g => ⟨#[.int .i64 f, .agg #[.int .i64 code, .int .i64 mods, .int .i64 typ, .int .i64 shift, .int .i64 base, .string text], undef, .pointer (some ⟨w.heap.size, 0, none⟩), .slice none 0 0, (g 5), .agg #[.int .i64 code, .int .i64 mods, .int .i64 typ, .int .i64 shift, .int .i64 base, .string text], .bool true, .bool false, .agg #[.int .i64 code, .int .i64 mods, .int .i64 typ, .int .i64 shift, .int .i64 base, .string text], .int .i64 f, .int .i64 s, .pointer (some ⟨w.heap.size, 0, none⟩), .int .i64 code, .agg #[.int .i64 K, .int .u8 E1, .int .i64 E2, .int .i64 E3, .bool E4], .int .i64 K, .agg #[.int .i64 code, .int .i64 mods, .int .i64 typ, .int .i64 shift, .int .i64 base, .string text, .int .i64 s, .int .i64 K], undef, undef, undef, undef, undef, undef, undef, undef, undef, undef, undef, undef, undef, undef, undef, undef, undef], []⟩) [.agg #[.int .i64 code, .int .i64 mods, .int .i64 typ, .int .i64 shift, .int .i64 base, .string text], .int .i64 f, .int .i64 s, .pointer (some ⟨w.heap.size, 0, none⟩), .int .i64 code, .agg #[.int .i64 K, .int .u8 E1, .int .i64 E2, .int .i64 E3, .bool E4], .int .i64 K, .agg #[.int .i64 code, .int .i64 mods, .int .i64 typ, .int .i64 shift, .int .i64 base, .string text, .int .i64 s, .int .i64 K], undef, undef] (by kernel_rfl) (by kernel_rfl) (by kernel_rfl) (fun g => by kernel_rfl) (by kernel_rfl) (Below.refl _ _).drew (by decide)
    (goes_cons (goesK_load hst (ahead_path [7, 0] (by kernel_rfl) (by decide)) rfl (by decide) (by decide) (by kernel_rfl) (fun g => by kernel_rfl) rfl (fun g => by kernel_rfl) rfl (fun g => by kernel_rfl) (fun W hW => k1.below hW k1.lt) Tryd.underlying23 rfl (by kernel_rfl))
    (goes_cons (goesK_pure (fun g => .int .i64 f) rfl (by decide) (by decide) (by kernel_rfl) (fun g => by kernel_rfl) rfl (fun g => by kernel_rfl) (fun g w => by kernel_rfl))
    (goes_cons (goesK_pure (fun g => .int .i64 s) rfl (by decide) (by decide) (by kernel_rfl) (fun g => by kernel_rfl) rfl (fun g => by kernel_rfl) (fun g w => kip_max HS.out rfl rfl rfl w))
    (goes_cons (goesK_pure (fun g => .pointer (some ⟨w.heap.size, 0, none⟩)) rfl (by decide) (by decide) (by kernel_rfl) (fun g => by kernel_rfl) rfl (fun g => by kernel_rfl) (fun g w => by kernel_rfl))
    (goes_cons (goesK_cell hst (ahead_path [7, 6, 5, 4] (by kernel_rfl) (by decide)) rfl (by decide) (by decide) (by kernel_rfl) (fun g => by kernel_rfl) rfl (fun g => by kernel_rfl) rfl (fun g => by kernel_rfl) (fun W hW => (k1.below hW k1.lt).cell 0) (fun w => by kernel_rfl))
    (goes_cons (goesK_call (args := fun g => #[.int .i64 code]) hst (ahead_path [7, 6, 5] (by kernel_rfl) (by decide)) rfl (by decide) (by decide) (by kernel_rfl) (fun g => by kernel_rfl) rfl (fun g => by kernel_rfl) (fun g w => by kernel_rfl) (fun g W hW hin => HL.out W (hB1.trans (hW.mono hB1.size))))
    (goes_cons (goesK_pure (fun g => .int .i64 K) rfl (by decide) (by decide) (by kernel_rfl) (fun g => by kernel_rfl) rfl (fun g => by kernel_rfl) (fun g w => by kernel_rfl))
    (goes_cons (goesK_pure (fun g => .agg #[.int .i64 code, .int .i64 mods, .int .i64 typ, .int .i64 shift, .int .i64 base, .string text, .int .i64 s, .int .i64 K]) rfl (by decide) (by decide) (by kernel_rfl) (fun g => by kernel_rfl) rfl (fun g => by kernel_rfl) (fun g w => by kernel_rfl))
    (goes_cons (goesK_new hst (ahead_path [8] (by kernel_rfl) (by decide)) rfl (by decide) (by decide) 0 rfl (by kernel_rfl) (fun g => by kernel_rfl) rfl (fun g => by kernel_rfl) (fun g w => by kernel_rfl))
    (goes_cons (goesP_put rfl rfl rfl (fun f hf => by rw [List.mem_singleton] at hf; subst hf; exact ⟨show (8 : Nat) ≠ 9 by decide, [8], by kernel_rfl, show (8 : Nat) ∈ [8] by decide⟩) 0 rfl (fun g => by kernel_rfl) rfl rfl (fun g => by kernel_rfl) (fun g => by kernel_rfl) rfl (by kernel_rfl) (by kernel_rfl)) goes_nil)))))))))) ?_
   rintro g _ w2 _ _ ⟨hb2, b5, g5, s5, k2⟩
   rw [g5]
   clear g5 hst
   have hB2 := hB1.trans (hb2.mono hB1.size)
   clear hB1 hb2 k1 HL HS
   obtain ⟨a0, a1, a2, a3, a4, a5, a6, a7⟩ := Blk.cells8 k2
   go_wp2_with fail
   refine (HSE.out _).mono ?_
   rintro e w3 ⟨rfl, hb3⟩
   have k3 := k2.below hb3 k2.lt
   have hB3 := hB2.trans (hb3.mono hB2.size)
   clear k2 hB2 hb3 a0 a1 a2 a3 a4 a5 a6 a7
   obtain ⟨a0, a1, a2, a3, a4, a5, a6, a7⟩ := Blk.cells8 k3
   cases se with
   | false =>
     go_wp2_with fail
     go_ret
     exact OutT.nil (HR0.out (by trivial)) hB3
   | true =>
     go_wp2_with fail
     refine (H8.out _).mono ?_
     rintro e w4 ⟨rfl, hb4⟩
     have k4 := k3.below hb4 k3.lt
     have hB4 := hB3.trans (hb4.mono hB3.size)
     clear k3 hB3 hb4 a0 a1 a2 a3 a4 a5 a6 a7
     obtain ⟨a0, a1, a2, a3, a4, a5, a6, a7⟩ := Blk.cells8 k4
     cases b8 with
     | true =>
       have HLS := Lib.hid (HR1.out (by trivial) (by simp))
       go_wp2_with fail
       refine (HQ.out _ hB4).mono ?_
       rintro e w9 ⟨A9, c9, rfl, hc9, hr9, hb9⟩
       go_wp2_with fail
       go_ret
       exact ⟨A9, _, c9, rfl, by rw [HLS.out], fun _ => hc9, by rw [HLS.out]; exact hr9, hB4.trans (hb9.mono hB4.size)⟩
     | false =>
       go_wp2_with fail
       refine (HAS.out _).mono ?_
       rintro e w5 ⟨rfl, hb5⟩
       have k5 := k4.below hb5 k4.lt
       have hB5 := hB4.trans (hb5.mono hB4.size)
       clear k4 hB4 hb5 a0 a1 a2 a3 a4 a5 a6 a7
       obtain ⟨a0, a1, a2, a3, a4, a5, a6, a7⟩ := Blk.cells8 k5
       cases ta with
       | true =>
         have HLS := Lib.hid (HR2.out (by trivial) (by trivial) (by trivial))
         go_wp2_with fail
         refine (HTX.out (by trivial) _ hB5).mono ?_
         rintro e w9 ⟨A9, c9, rfl, hr9, hb9⟩
         go_wp2_with fail
         go_ret
         exact ⟨A9, _, c9, rfl, by rw [HLS.out], (fun h => by cases h), by rw [HLS.out]; exact hr9, hB5.trans (hb9.mono hB5.size)⟩
       | false =>
         have HLS := Lib.hid (HR1.out (by trivial) (by simp))
         go_wp2_with fail
         refine (HQ.out _ hB5).mono ?_
         rintro e w9 ⟨A9, c9, rfl, hc9, hr9, hb9⟩
         go_wp2_with fail
         go_ret
         exact ⟨A9, _, c9, rfl, by rw [HLS.out], fun _ => hc9, by rw [HLS.out]; exact hr9, hB5.trans (hb9.mono hB5.size)⟩
end Go.Proofs.YtdfojkbgdoiglaaDoor
