/-
  Layer 14: what a law needs of the program; and the example that each statement asks. Stage 13, the landed kitty: Key. Stage 14, the landed board: what the laws need of it.
-/
import Derived.Test.YtceipblcdcgljaaGreatDoorG02
import Derived.Test.YtceipblcdcgljaaGreatDoorG09
import Derived.Test.YtceipblcdcgljaaGreatDoorG14
import Derived.Test.YtceipblcdcgljaaGreatDoorG15
import Derived.Test.YtceipblcdcgljaaGreatDoorG18
import Derived.Test.YtceipblcdcgljaaGreatDoorG21
import Derived.Test.YtceipblcdcgljaaGreatDoorG25
import Derived.Test.YtceipblcdcgljaaGreatDoorG27
namespace Go.Proofs.YtceipblcdcgljaaGreatDoor
open Go.RowKit
section
structure BrdC (Inv : World → Prop) : Prop where
 invB : ∀ {w w' : World}, Inv w → Below w.heap.size w w' → Inv w'
 key : ∀ (m : Mo) (f : Int) (k : Ky) (w : World), Inv w → in10 f → okK k → k.text.size ≤ 4294967296 → Calls Tryz.prog 10 #[moV m, .int .i64 f, kyV k] w (Out (brdL m f k) w)
 clears : ∀ (f : Int) (w : World), Inv w → in10 f → Calls Tryz.prog 12 #[.int .i64 f] w fun e w' => e = .returned (.bool (clearsK f)) ∧ Below w.heap.size w w'
variable {Inv : World → Prop}
theorem BrdC.key_at (H : BrdC Inv) (m : Mo) (f : Int) (k : Ky) {L : List UInt8} (hL : brdL m f k = L) {n : Nat} (hn : L.length = n) (hf : in10 f) (hk : okK k) (hs : k.text.size ≤ 4294967296) (w : World) (hi : Inv w) :
 Calls Tryz.prog 10 #[moV m, .int .i64 f, kyV k] w (OutN L n w) := by
 subst hL
 exact (H.key m f k w hi hf hk hs).mono fun e w' h => outN hn h
theorem BrdC.clears_at (H : BrdC Inv) {f : Int} {q : Bool} (h : clearsK f = q) (w : World) (hi : Inv w) (hf : in10 f) : Calls Tryz.prog 12 #[.int .i64 f] w fun e w' => e = .returned (.bool q) ∧ Below w.heap.size w w' := by
 subst h
 exact H.clears f w hi hf
theorem in_lit14 {c : Int} (h : (decide (-9223372036854775808 ≤ c) && decide (c ≤ 9223372036854775807)) = true) : in10 c := by
 simpa [in10] using h
theorem ok_lit14 {code mods typ : Int} (h1 : in10 code) (h2 : in10 mods) (h3 : in10 typ) (text : ByteArray) : okK ⟨code, mods, typ, 0, 0, text⟩ := ⟨h1, h2, h3, in_lit14 (c := 0) (by decide), in_lit14 (c := 0) (by decide)⟩
theorem ex_brd : brdL mo0 0 ⟨99, 4, 1, 0, 0, ByteArray.empty⟩ = [3] ∧ brdL { mo0 with other := 2 } 0 ⟨99, 4, 1, 0, 0, ByteArray.empty⟩ = [27, 91, 50, 55, 59, 53, 59, 57, 57, 126] ∧ brdL { mo0 with other := 2 } 1 ⟨99, 4, 1, 0, 0, ByteArray.empty⟩ = [27, 91, 57, 57, 59, 53, 117] ∧ brdL { mo0 with lock := true } 1 ⟨99, 4, 1, 0, 0, ByteArray.empty⟩ = [] ∧ clearsK 9 = true ∧ clearsK 6 = false := by decide +kernel
set_option maxRecDepth 100000 in
set_option maxHeartbeats 8000000 in
theorem brdAwake (H : BrdC Inv) (w0 : World) (hv0 : Inv w0) : Calls Tryz.prog 9 #[] w0 fun e w' => e = .returned (.bool true) ∧ Below w0.heap.size w0 w' := by
 have ok := ok_lit14 (code := 99) (mods := 4) (typ := 1) (in_lit14 (by decide)) (in_lit14 (by decide)) (in_lit14 (by decide)) ByteArray.empty
 have hB0 : Below w0.heap.size w0 (w0.alloc (.cells #[.int .i64 99, .int .i64 4, .int .i64 1, .int .i64 0, .int .i64 0, .string ⟨#[]⟩] 25)) := (Below.refl _ w0).alloc (Nat.le_refl _) _
 have k0 := Blk.new w0 25 #[.int .i64 99, .int .i64 4, .int .i64 1, .int .i64 0, .int .i64 0, .string ⟨#[]⟩]
 obtain ⟨a0, a1, a2, a3, a4, a5⟩ := Blk.cells6 k0
 have HV := Lib.hid hv0
 go_enter Tryz.func9, Tryz.ntmps9
 go_wp2_with fail
 refine (H.key_at mo0 0 ⟨99, 4, 1, 0, 0, ByteArray.empty⟩ ex_brd.1 (n := 1) rfl (in_lit14 (by decide)) ok (by decide) _ (H.invB hv0 hB0)).mono ?_
 rintro e w1 ⟨A1, c1, rfl, hr1, hb1⟩
 have s1 := str_bs13 (n := 1) (c := c1) rfl hr1
 have k1 := k0.below hb1 k0.lt
 have hB1 := hB0.trans (hb1.mono hB0.size)
 clear k0 hB0 hr1 hb1 a0 a1 a2 a3 a4 a5
 obtain ⟨a0, a1, a2, a3, a4, a5⟩ := Blk.cells6 k1
 go_wp2_with fail
 refine (H.key_at { mo0 with other := 2 } 0 ⟨99, 4, 1, 0, 0, ByteArray.empty⟩ ex_brd.2.1 (n := 10) rfl (in_lit14 (by decide)) ok (by decide) _ (H.invB hv0 hB1)).mono ?_
 rintro e w2 ⟨A2, c2, rfl, hr2, hb2⟩
 have s2 := str_bs13 (n := 10) (c := c2) rfl hr2
 have k2 := k1.below hb2 k1.lt
 have hB2 := hB1.trans (hb2.mono hB1.size)
 clear k1 hB1 hr2 hb2 a0 a1 a2 a3 a4 a5 s1
 obtain ⟨a0, a1, a2, a3, a4, a5⟩ := Blk.cells6 k2
 go_wp2_with fail
 refine (H.key_at { mo0 with other := 2 } 1 ⟨99, 4, 1, 0, 0, ByteArray.empty⟩ ex_brd.2.2.1 (n := 7) rfl (in_lit14 (by decide)) ok (by decide) _ (H.invB hv0 hB2)).mono ?_
 rintro e w3 ⟨A3, c3, rfl, hr3, hb3⟩
 have s3 := str_bs13 (n := 7) (c := c3) rfl hr3
 have k3 := k2.below hb3 k2.lt
 have hB3 := hB2.trans (hb3.mono hB2.size)
 clear k2 hB2 hr3 hb3 a0 a1 a2 a3 a4 a5 s2
 obtain ⟨a0, a1, a2, a3, a4, a5⟩ := Blk.cells6 k3
 go_wp2_with fail
 refine (H.key_at { mo0 with lock := true } 1 ⟨99, 4, 1, 0, 0, ByteArray.empty⟩ ex_brd.2.2.2.1 (n := 0) rfl (in_lit14 (by decide)) ok (by decide) _ (H.invB hv0 hB3)).mono ?_
 rintro e w4 ⟨A4, c4, rfl, hr4, hb4⟩
 have hB4 := hB3.trans (hb4.mono hB3.size)
 clear hB3 hr4 hb4 a0 a1 a2 a3 a4 a5 s3 k3
 go_wp2_with fail
 refine (H.clears_at (f := 9) ex_brd.2.2.2.2.1 _ (H.invB hv0 hB4) (in_lit14 (by decide))).mono ?_
 rintro e w5 ⟨rfl, hb5⟩
 have hB5 := hB4.trans (hb5.mono hB4.size)
 go_wp2_with fail
 refine (H.clears_at (f := 6) ex_brd.2.2.2.2.2 _ (H.invB hv0 hB5) (in_lit14 (by decide))).mono ?_
 rintro e w6 ⟨rfl, hb6⟩
 go_wp2_with fail
 go_ret
 exact ⟨rfl, hB5.trans (hb6.mono hB5.size)⟩
end
theorem kip_max {ev : Operand → Value} {o : Oper} {x : Operand} {f s : Int} (h : max f 0 = s) (ho : o.op = .call { callee := .builtin .max, args := #[x, .const (.int .i64 0)], argTypes := #[3, 3] }) (hx : ev x = .int .i64 f) (hc : ev (.const (.int .i64 0)) = .int .i64 0) (w : World) : (execOp ev o).run Tryz.prog w = .ok (.value (.int .i64 s)) w := by
 have hm := max0 f s h (P := Tryz.prog) #[3, 3] o.type w
 unfold execOp
 simp only [ho]
 simp [resolve, invoke, builtin, hx, hc, hm]
theorem kip_sentB (f : Int) (k : Ky) : goesK f k = sentB (k.typ == 3) (flagK f 2) (flagK f 8) ((lookE k.code).kind != 7) (((lookE k.code).kind == 1) || keyedK k.code) := by
 unfold goesK sentB typesK
 cases h2 : flagK f 2 <;> cases h8 : flagK f 8 <;> by_cases h3 : k.typ = 3 <;> simp [h3]
theorem kip_asB (k : Ky) (m0 : 0 ≤ k.mods) (m1 : k.mods ≤ 255) : astextK k = asB ((lookE k.code).kind == 1) (bits .andNot .i64 k.mods 193 == 0) (((lookE k.code).kind == 1) || keyedK k.code) (bits .andNot .i64 k.mods 192 == 0) := by
 rw [(kip_none m0 m1).1, (kip_none m0 m1).2]
 unfold astextK asB
 by_cases h1 : (lookE k.code).kind = 1
 ·rw [if_pos h1, if_pos (by simpa using h1)]
 ·rw [if_neg h1, if_neg (by simpa using h1)]
  rw [beq_false_of_ne h1]
  rfl
set_option maxRecDepth 100000 in
set_option maxHeartbeats 8000000 in
theorem kkey_any (f : Int) (k : Ky) (hf : in10 f) (hk : okK k) (hs : k.text.size ≤ 4294967296) (w : World) (hz : Siz w) (hR : Rws w) (ht : Tab w) : Calls Tryz.prog 32 #[.int .i64 f, kyV k] w (OutT (flagK f 8 || !astextK k) (kitL f k) w) := by
 obtain ⟨q, hq⟩ : ∃ q, mayK k = q := ⟨_, rfl⟩
 have HM : Hid (∀ W, Below w.heap.size w W → Calls Tryz.prog 66 #[kyV k] W fun e w' => e = .returned (.bool q) ∧ Below W.heap.size W w') := Lib.hid fun W hW => by rw [← hq]; exact pmods_may k hs W (hz.below' hW) (hR.below hW)
 obtain ⟨s, hS⟩ : ∃ s, max f 0 = s := ⟨_, rfl⟩
 obtain ⟨⟨K, E1, E2, E3, E4⟩, hE⟩ : ∃ E, lookE k.code = E := ⟨_, rfl⟩
 have HL : Hid (∀ W, Below w.heap.size w W → Calls Tryz.prog 15 #[.int .i64 k.code] W fun e w' => e = .returned (.agg #[.int .i64 K, .int .u8 E1, .int .i64 E2, .int .i64 E3, .bool E4]) ∧ Below W.heap.size W w') := Lib.hid fun W hW => by have := plook_any k.code W (hz.below' hW) (hR.below hW); rw [hE] at this; exact this
 have HS := Lib.hid hS
 have h2 := kip_has (d := 2) hf.2 (by omega)
 have h8 := kip_has (d := 8) hf.2 (by omega)
 rw [hS] at h2 h8
 obtain ⟨b2, hb2⟩ : ∃ x, flagK f 2 = x := ⟨_, rfl⟩
 obtain ⟨b8, hb8⟩ : ∃ x, flagK f 8 = x := ⟨_, rfl⟩
 rw [hb2] at h2
 rw [hb8] at h8
 obtain ⟨ta, has⟩ : ∃ x, astextK k = x := ⟨_, rfl⟩
 rw [hb8, has]
 cases q with
 | false =>
   have hno : kitL f k = [] := by
    unfold kitL sentK
    rw [if_pos (if_pos hq)]
   have HNO := Lib.hid hno
   obtain ⟨R, hRR⟩ : ∃ R, kitL f k = R := ⟨_, rfl⟩
   rw [hRR] at HNO ⊢
   clear hno hRR hq hz hR ht hE HL HS h2 h8 hb2 hb8 hS hf hk hs has
   obtain ⟨code, mods, typ, shift, base, text⟩ := k
   simp only [kyV] at HM ⊢
   have k0 := Blk.new w 25 #[.int .i64 code, .int .i64 mods, .int .i64 typ, .int .i64 shift, .int .i64 base, .string text]
   have hB0 : Below w.heap.size w (w.alloc (.cells #[.int .i64 code, .int .i64 mods, .int .i64 typ, .int .i64 shift, .int .i64 base, .string text] 25)) := (Below.refl _ _).alloc (Nat.le_refl _) _
   obtain ⟨a0, a1, a2, a3, a4, a5⟩ := Blk.cells6 k0
   go_enter Tryz.func32, Tryz.ntmps32
   go_wp2_with fail
   refine (HM.out _ hB0).mono ?_
   rintro e w1 ⟨rfl, hb1⟩
   have hB1 := hB0.trans (hb1.mono hB0.size)
   go_wp2_with fail
   go_ret
   exact OutT.nil HNO.out hB1
 | true =>
   obtain ⟨⟨hkd, m0, m1, y0, y1⟩, hsh, hba, hcl⟩ := (may_parts k).1 hq
   obtain ⟨se, hse⟩ : ∃ x, goesK f k = x := ⟨_, rfl⟩
   have hseq := kip_sentB f k
   have hasq := kip_asB k m0 m1
   rw [hE, hse, hb2, hb8] at hseq
   rw [hE, has] at hasq
   have hsent := kip_sent f hq
   rw [hse] at hsent
   have HSE : Hid (∀ W, Calls Tryz.prog 67 #[evV13 k s K] W fun e w' => e = .returned (.bool se) ∧ Below W.heap.size W w') := Lib.hid fun W => ksent_any k s K b2 b8 se h2 h8 hseq.symm W
   have HAS : Hid (∀ W, Calls Tryz.prog 69 #[evV13 k s K] W fun e w' => e = .returned (.bool ta) ∧ Below W.heap.size W w') := Lib.hid fun W => kastext_any k s K _ _ ta rfl rfl hasq.symm W
   have H8 : Hid (∀ W, Calls Tryz.prog 68 #[.int .i64 s, .int .i64 8] W fun e w' => e = .returned (.bool b8) ∧ Below W.heap.size W w') := Lib.hid fun W => khas_any s 8 b8 h8 W
   have HQ : Hid (∀ W, Below w.heap.size w W → Calls Tryz.prog 71 #[evV13 k s K] W (OutC (putS (sqK f k)) W)) := Lib.hid fun W hW => kseq_any k s K hq hs f hf.2 hS.symm W (hz.below' hW) (hR.below hW) (ht.below hW)
   have HTX : Hid (ta = true → ∀ W, Below w.heap.size w W → Calls Tryz.prog 70 #[evV13 k s K] W (Out (plainK k) W)) := Lib.hid fun ha W hW => ktext_any k s K _ hk hs (by rw [kip_plain hq (has.trans ha), hE]) W (hz.below' hW)
   have HR0 := Lib.hid (show se = false → kitL f k = [] from fun h => by unfold kitL; rw [hsent, if_pos h])
   have HR1 := Lib.hid (show se = true → b8 = true ∨ ta = false → kitL f k = putS (sqK f k) from fun h h1 => by
    unfold kitL
    rw [hsent, if_neg (by rw [h]; decide), if_neg (fun hh => by
     rcases h1 with h1 | h1
     ·rw [hb8, h1] at hh; cases hh.1
     ·rw [has, h1] at hh; cases hh.2.2), putK_is f hq])
   have HR2 := Lib.hid (show se = true → b8 = false → ta = true → kitL f k = plainK k from fun h h1 h3 => by
    unfold kitL
    rw [hsent, if_neg (by rw [h]; decide), if_pos ((kip_text (hb8.trans h1) (hse.trans h)).2 (has.trans h3))])
   clear hsent hseq hasq hse has hkd m0 m1 y0 y1 hsh hba hcl hq hz hR ht hE h2 h8 hb2 hb8 hS hf hk hs
   obtain ⟨R, hRR⟩ : ∃ R, kitL f k = R := ⟨_, rfl⟩
   obtain ⟨S, hSS⟩ : ∃ R, putS (sqK f k) = R := ⟨_, rfl⟩
   obtain ⟨T, hTT⟩ : ∃ R, plainK k = R := ⟨_, rfl⟩
   rw [hRR] at HR0 HR1 HR2 ⊢
   rw [hSS] at HR1 HQ
   rw [hTT] at HR2 HTX
   clear hRR hSS hTT
   obtain ⟨code, mods, typ, shift, base, text⟩ := k
   simp only [kyV, evV13] at HM HL HSE HAS HQ HTX ⊢
   have k0 := Blk.new w 25 #[.int .i64 code, .int .i64 mods, .int .i64 typ, .int .i64 shift, .int .i64 base, .string text]
   have hB0 : Below w.heap.size w (w.alloc (.cells #[.int .i64 code, .int .i64 mods, .int .i64 typ, .int .i64 shift, .int .i64 base, .string text] 25)) := (Below.refl _ _).alloc (Nat.le_refl _) _
   obtain ⟨a0, a1, a2, a3, a4, a5⟩ := Blk.cells6 k0
   go_enter Tryz.func32, Tryz.ntmps32
   go_wp2_with fail
   refine (HM.out _ hB0).mono ?_
   rintro e w1 ⟨rfl, hb1⟩
   have hB1 := hB0.trans (hb1.mono hB0.size)
   have k1 := k0.below hb1 k0.lt
   clear k0 hB0 hb1 a0 a1 a2 a3 a4 a5 HM
   have hst : ∀ f ∈ [(⟨8, 5, FNew w1 95 #[.int .i64 0, .int .i64 0, .int .i64 0, .int .i64 0, .int .i64 0, .string ⟨#[]⟩, .int .i64 0, .int .i64 0]⟩ : Fact)], f.ok := fun f hf => by rw [List.mem_singleton] at hf; subst hf; exact fnew_ok _ _ _ _ _
   go_upto_region 3 with (fail)
   refine wp_region_last (w1 := w1) (K := [⟨8, 5, FNew w1 95 #[.int .i64 0, .int .i64 0, .int .i64 0, .int .i64 0, .int .i64 0, .string ⟨#[]⟩, .int .i64 0, .int .i64 0]⟩]) (ix := 9) (iz := 9) (R0 := fun _ _ _ => True) (R1 := fun g _ w => Below w1.heap.size w1 w ∧ FNew w1 95 #[.int .i64 code, .int .i64 mods, .int .i64 typ, .int .i64 shift, .int .i64 base, .string text, .int .i64 s, .int .i64 K] (g 5) w) [5] (⟨#[.int .i64 f, .agg #[.int .i64 code, .int .i64 mods, .int .i64 typ, .int .i64 shift, .int .i64 base, .string text], undef, .pointer (some ⟨w.heap.size, 0, none⟩), .slice none 0 0, undef, .agg #[.int .i64 code, .int .i64 mods, .int .i64 typ, .int .i64 shift, .int .i64 base, .string text], .bool true, .bool false, .agg #[.int .i64 code, .int .i64 mods, .int .i64 typ, .int .i64 shift, .int .i64 base, .string text], .int .i64 f, .int .i64 s, .pointer (some ⟨w.heap.size, 0, none⟩), .int .i64 code, .agg #[.int .i64 K, .int .u8 E1, .int .i64 E2, .int .i64 E3, .bool E4], .int .i64 K, .agg #[.int .i64 code, .int .i64 mods, .int .i64 typ, .int .i64 shift, .int .i64 base, .string text, .int .i64 s, .int .i64 K], undef, undef, undef, undef, undef, undef, undef, undef, undef, undef, undef, undef, undef, undef, undef, undef, undef], []⟩) (fun g => ⟨#[.int .i64 f, .agg #[.int .i64 code, .int .i64 mods, .int .i64 typ, .int .i64 shift, .int .i64 base, .string text], undef, .pointer (some ⟨w.heap.size, 0, none⟩), .slice none 0 0, (g 5), .agg #[.int .i64 code, .int .i64 mods, .int .i64 typ, .int .i64 shift, .int .i64 base, .string text], .bool true, .bool false, .agg #[.int .i64 code, .int .i64 mods, .int .i64 typ, .int .i64 shift, .int .i64 base, .string text], .int .i64 f, .int .i64 s, .pointer (some ⟨w.heap.size, 0, none⟩), .int .i64 code, .agg #[.int .i64 K, .int .u8 E1, .int .i64 E2, .int .i64 E3, .bool E4], .int .i64 K, .agg #[.int .i64 code, .int .i64 mods, .int .i64 typ, .int .i64 shift, .int .i64 base, .string text, .int .i64 s, .int .i64 K], undef, undef, undef, undef, undef, undef, undef, undef, undef, undef, undef, undef, undef, undef, undef, undef, undef], []⟩) [.agg #[.int .i64 code, .int .i64 mods, .int .i64 typ, .int .i64 shift, .int .i64 base, .string text], .int .i64 f, .int .i64 s, .pointer (some ⟨w.heap.size, 0, none⟩), .int .i64 code, .agg #[.int .i64 K, .int .u8 E1, .int .i64 E2, .int .i64 E3, .bool E4], .int .i64 K, .agg #[.int .i64 code, .int .i64 mods, .int .i64 typ, .int .i64 shift, .int .i64 base, .string text, .int .i64 s, .int .i64 K], undef, undef] (by kernel_rfl) (by kernel_rfl) (by kernel_rfl) (fun g => by kernel_rfl) (by kernel_rfl) (Below.refl _ _).drew (by decide)
    (goes_cons (gkL hst (fun W hW => k1.below hW k1.lt) Tryz.underlying25 (hah := ahead_path [7, 0] (by kernel_rfl) (by decide)))
    (goes_cons (gkP (fun g => .int .i64 f))
    (goes_cons (gkP (fun g => .int .i64 s) (h := (fun g w => kip_max HS.out rfl rfl rfl w)))
    (goes_cons (gkP (fun g => .pointer (some ⟨w.heap.size, 0, none⟩)))
    (goes_cons (gkC hst (fun W hW => (k1.below hW k1.lt).cell 0) (hah := ahead_path [7, 6, 5, 4] (by kernel_rfl) (by decide)))
    (goes_cons (gkK (fun g => #[.int .i64 code]) hst (fun g W hW hin => HL.out W (hB1.trans (hW.mono hB1.size))) (hah := ahead_path [7, 6, 5] (by kernel_rfl) (by decide)))
    (goes_cons (gkP (fun g => .int .i64 K))
    (goes_cons (gkP (fun g => .agg #[.int .i64 code, .int .i64 mods, .int .i64 typ, .int .i64 shift, .int .i64 base, .string text, .int .i64 s, .int .i64 K]))
    (goes_cons (goesK_new hst (ahead_path [8] (by kernel_rfl) (by decide)) rfl (by decide) (by decide) 0 rfl (by kernel_rfl) (fun g => by kernel_rfl) rfl (fun g => by kernel_rfl) (fun g w => by kernel_rfl))
    (goes_cons (goesP_put rfl rfl rfl (fun f hf => by rw [List.mem_singleton] at hf; subst hf; exact ⟨show (8 : Nat) ≠ 9 by decide, [8], by kernel_rfl, show (8 : Nat) ∈ [8] by decide⟩) 0 rfl (fun g => by kernel_rfl) rfl rfl (fun g => by kernel_rfl) (fun g => by kernel_rfl) rfl (by kernel_rfl) (by kernel_rfl)) goes_nil)))))))))) ?_
   rintro g _ w2 _ _ ⟨hb2, b5, g5, s5, k2⟩
   rw [g5]
   clear g5 hst
   have hB2 := hB1.trans (hb2.mono hB1.size)
   clear hB1 hb2 k1 HL HS
   obtain ⟨a0, a1, a2, a3, a4, a5, a6, a7⟩ := Blk.cells8 k2
   go_wp2_with fail
   refine (HSE.out _).mono ?_
   rintro e w3 ⟨rfl, hb3⟩
   have k3 := k2.below hb3 k2.lt
   have hB3 := hB2.trans (hb3.mono hB2.size)
   clear k2 hB2 hb3 a0 a1 a2 a3 a4 a5 a6 a7
   obtain ⟨a0, a1, a2, a3, a4, a5, a6, a7⟩ := Blk.cells8 k3
   cases se with
   | false =>
     go_wp2_with fail
     go_ret
     exact OutT.nil (HR0.out (by trivial)) hB3
   | true =>
     go_wp2_with fail
     refine (H8.out _).mono ?_
     rintro e w4 ⟨rfl, hb4⟩
     have k4 := k3.below hb4 k3.lt
     have hB4 := hB3.trans (hb4.mono hB3.size)
     clear k3 hB3 hb4 a0 a1 a2 a3 a4 a5 a6 a7
     obtain ⟨a0, a1, a2, a3, a4, a5, a6, a7⟩ := Blk.cells8 k4
     cases b8 with
     | true =>
       have HLS := Lib.hid (HR1.out (by trivial) (by simp))
       go_wp2_with fail
       refine (HQ.out _ hB4).mono ?_
       rintro e w9 ⟨A9, c9, rfl, hc9, hr9, hb9⟩
       go_wp2_with fail
       go_ret
       exact ⟨A9, _, c9, rfl, by rw [HLS.out], fun _ => hc9, by rw [HLS.out]; exact hr9, hB4.trans (hb9.mono hB4.size)⟩
     | false =>
       go_wp2_with fail
       refine (HAS.out _).mono ?_
       rintro e w5 ⟨rfl, hb5⟩
       have k5 := k4.below hb5 k4.lt
       have hB5 := hB4.trans (hb5.mono hB4.size)
       clear k4 hB4 hb5 a0 a1 a2 a3 a4 a5 a6 a7
       obtain ⟨a0, a1, a2, a3, a4, a5, a6, a7⟩ := Blk.cells8 k5
       cases ta with
       | true =>
         have HLS := Lib.hid (HR2.out (by trivial) (by trivial) (by trivial))
         go_wp2_with fail
         refine (HTX.out (by trivial) _ hB5).mono ?_
         rintro e w9 ⟨A9, c9, rfl, hr9, hb9⟩
         go_wp2_with fail
         go_ret
         exact ⟨A9, _, c9, rfl, by rw [HLS.out], (fun h => by simp at h), by rw [HLS.out]; exact hr9, hB5.trans (hb9.mono hB5.size)⟩
       | false =>
         have HLS := Lib.hid (HR1.out (by trivial) (by simp))
         go_wp2_with fail
         refine (HQ.out _ hB5).mono ?_
         rintro e w9 ⟨A9, c9, rfl, hc9, hr9, hb9⟩
         go_wp2_with fail
         go_ret
         exact ⟨A9, _, c9, rfl, by rw [HLS.out], fun _ => hc9, by rw [HLS.out]; exact hr9, hB5.trans (hb9.mono hB5.size)⟩
def Inv14 (w : World) : Prop := Siz w ∧ Rws w ∧ Tab w
theorem Inv14.below {w w' : World} (h : Inv14 w) (hb : Below w.heap.size w w') : Inv14 w' := ⟨h.1.below' hb, h.2.1.below hb, h.2.2.below hb⟩
theorem outT_weak {rm : Bool} {L : List UInt8} {w w' : World} {e : Ending} (h : OutT rm L w e w') : OutT false L w e w' := by
 obtain ⟨A, n, c, he, hn, _, hr, hb⟩ := h
 exact ⟨A, n, c, he, hn, (fun h => by cases h), hr, hb⟩
theorem outR_T {rm : Bool} {L : List UInt8} {w w' : World} {e : Ending} (h : OutR rm L L.length w e w') : OutT rm L w e w' := by
 obtain ⟨A, c, he, hc, hr, hb⟩ := h
 exact ⟨A, L.length, c, he, rfl, hc, hr, hb⟩
theorem lkey_room (m : Mo) (k : Ky) (h1 : (lookE k.code).kind ≠ 1) (h2 : (lookE k.code).kind ≠ 2) (h5 : (lookE k.code).kind ≠ 5) (hk : okK k) (hs : k.text.size ≤ 4294967296) (w : World) (hv : Inv11 w) :
 Calls Tryz.prog 35 #[moV m, kyV k] w (OutT true (legL m k) w) := by
 by_cases hL : legL m k = []
 ·refine (lkey_any m k hk hs w hv).mono fun e w' ⟨A, c, he, _, hr, hb⟩ => ⟨A, _, c, he, rfl, fun _ => ?_, hr, hb⟩
  rw [hL]
  exact Nat.zero_le _
 ·have hm : mayK k = true := by cases h : mayK k with | true => rfl | false => exact absurd (leg_no (.inl h)) hL
  have h3 : k.typ ≠ 3 := fun h => hL (leg_no (.inr h))
  have hF : (lookE k.code).kind = 3 ∨ (lookE k.code).kind = 4 := by
   by_cases hF : (lookE k.code).kind = 3 ∨ (lookE k.code).kind = 4
   ·exact hF
   ·refine absurd ?_ hL
    rw [leg_yes hm h3]
    unfold legG
    rw [if_neg h5]
    unfold legE
    rw [if_neg h1, if_neg h2, if_neg hF]
  exact (lkey_func m k hk hs hm h3 hF w hv).mono fun e w' h => outR_T h
theorem kit_func {k : Ky} (h1 : (lookE k.code).kind ≠ 1) (h2 : (lookE k.code).kind ≠ 2) : astextK k = false := by
 have hk : keyedK k.code = false := by
  cases e : keyedK k.code with
  | false => rfl
  | true =>
    exfalso
    unfold keyedK at e
    simp only [Bool.or_eq_true, beq_iff_eq] at e
    apply h2
    rcases e with (e | e) | e <;> rw [e] <;> decide +kernel
 unfold astextK
 rw [if_neg h1, hk]
 rfl
theorem bkey_any (rm : Bool) (m : Mo) (f : Int) (k : Ky) (hrm : rm = true → (lookE k.code).kind ≠ 1 ∧ (lookE k.code).kind ≠ 2 ∧ (lookE k.code).kind ≠ 5) (w : World) (hv : Inv14 w) (hf : in10 f) (hk : okK k) (hs : k.text.size ≤ 4294967296) : Calls Tryz.prog 10 #[moV m, .int .i64 f, kyV k] w (OutT rm (brdL m f k) w) := by
 cases hl : m.lock with
 | true =>
   rw [brd_lock hl]
   refine (bkey_lock m hl f k w).mono fun e w' h => ?_
   cases rm with
   | true => exact h
   | false => exact outT_weak h
 | false =>
   refine bkey_open m hl f k hf (rm := rm) (q := isO m.other k) (Lo := othL m.other k) (Ll := legL m k) (L := kitL f k) rfl (fun h => (brd_clear hl h k).symm) (fun h hq => ?_) (fun h hq => ?_) w (fun _ W hW => ?_) (fun W hW => okey_any m k hk hs W (hv.below hW)) (fun _ _ W hW => ?_)
   ·rw [brd_modes hl h, if_pos hq]
   ·rw [brd_modes hl h, if_neg (by rw [hq]; decide)]
   ·have hw := hv.below hW
    refine (kkey_any f k hf hk hs W hw.1 hw.2.1 hw.2.2).mono fun e w' h => ?_
    cases rm with
    | true =>
      obtain ⟨h1, h2, _⟩ := hrm rfl
      rw [kit_func h1 h2, Bool.not_false, Bool.or_true] at h
      exact h
    | false => exact outT_weak h
   ·have hw := hv.below hW
    cases rm with
    | true =>
      obtain ⟨h1, h2, h5⟩ := hrm rfl
      exact lkey_room m k h1 h2 h5 hk hs W hw
    | false => exact (lkey_any m k hk hs W hw).mono fun e w' h => outR_T h
theorem brdC : BrdC Inv14 where
 invB := fun h hb => h.below hb
 key := fun m f k w hv hf hk hs => (bkey_any false m f k (fun h => by cases h) w hv hf hk hs).mono fun _ _ h => outT_out h
 clears := fun f w _ hf => bclears_any f hf w
end Go.Proofs.YtceipblcdcgljaaGreatDoor
