/-
  From layer 10's walks on: a key's event that came in. Stage 13, the landed kitty: Key. Stage 13, the landed kitty: what the laws need of it. KittyAll's walk, of the bytes that come in. Layer 13, the laws' walks over the bundle: KittyOne. Stage 13, the landed kitty: what KittyOne needs of it.
-/
import Derived.Test.YtdfojkbgdoiglaaGreatDoorG08
import Derived.Test.YtdfojkbgdoiglaaGreatDoorG09
import Derived.Test.YtdfojkbgdoiglaaGreatDoorG19
import Derived.Test.YtdfojkbgdoiglaaGreatDoorG24
import Derived.Test.YtdfojkbgdoiglaaGreatDoorG25
import Derived.Test.YtdfojkbgdoiglaaGreatDoorG30
import Derived.Test.YtdfojkbgdoiglaaGreatDoorG33
import Derived.Test.YtdfojkbgdoiglaaGreatDoorG35
import Derived.Test.YtdfojkbgdoiglaaGreatDoorG38
import Derived.Deep.Matrix
import Derived.Deep.Slices
import Derived.OpenShut
import Derived.Deep.Grids
import Derived.Deep.Cut
namespace Go.Proofs.YtdfojkbgdoiglaaGreatDoor
open Go.RowKit Go.WideShapes Go.ChangeShapes Go.ChangeAt Go.ChangeMaps Go.Deep
section
variable {H : Type} {enc : TypeId × Value → H}
theorem okWide_sk {P : Program} {t : TypeId} {fs : Array Field} {W : World} {r : Reach} {b0 : Nat} {v : Value} (ht : P.underlying t = some (.struct fs)) (h : Value.okWide P W r b0 t v) : ∃ cs, v = .agg cs ∧ cs.size = P.cellsOf t := by
 simp only [Value.okWide, ht] at h
 obtain ⟨cs, h1, h2, _⟩ := h
 exact ⟨cs, h1, h2⟩
theorem in_of_wf {z : Int} (h : (Lit.int .i64 z).wf = true) : in10 z := by
 have := bounds_i64 h
 exact ⟨this.1, this.2⟩
set_option maxRecDepth 100000 in
theorem open_ky {r : Reach} {b0 : Nat} {W : World} {v : Value} {d : DataW H} {ps : List MemPlace} (hval : Value.okWide Tryz.prog W r b0 23 v) (h : DataW.Trod enc Tryz.prog W 0 (fun _ => true) true 23 v d ps) :
 ∃ k : Ky, v = kyV k ∧ okK k ∧ k.text.size ≤ maxLen ∧ ∃ y0 y1 y2 y3 y4, d = .agg [y0, y1, y2, y3, y4, .lit (.string k.text.data.toList)] := by
 obtain ⟨cs, rfl, _⟩ := okWide_sk Tryz.underlying23 hval
 obtain ⟨fuel, hf⟩ := h
 obtain ⟨xs, n, _, hx, hlen, hxl, hf⟩ := DataW.trod_struct Tryz.underlying23 hf
 rw [show Tryz.prog.cellsOf 23 = 6 by kernel_rfl] at hlen
 obtain ⟨l⟩ := cs
 simp only [Value.cells] at hlen hf
 match l, hlen with
 | [u0, u1, u2, u3, u4, u5], _ =>
   match xs, hxl with
   | [y0, y1, y2, y3, y4, y5], _ =>
     have ci : Tryz.prog.cellsOf 3 = 1 := by kernel_rfl
     have cs : Tryz.prog.cellsOf 9 = 1 := by kernel_rfl
     have g0 : DataW.trod enc Tryz.prog W 0 (fun _ => true) true n 3 (List.take (Tryz.prog.cellsOf 3) (List.drop 0 [u0, u1, u2, u3, u4, u5])) = some y0 := hf 0 _ rfl
     have g1 : DataW.trod enc Tryz.prog W 0 (fun _ => true) true n 3 (List.take (Tryz.prog.cellsOf 3) (List.drop 1 [u0, u1, u2, u3, u4, u5])) = some y1 := hf 1 _ rfl
     have g2 : DataW.trod enc Tryz.prog W 0 (fun _ => true) true n 3 (List.take (Tryz.prog.cellsOf 3) (List.drop 2 [u0, u1, u2, u3, u4, u5])) = some y2 := hf 2 _ rfl
     have g3 : DataW.trod enc Tryz.prog W 0 (fun _ => true) true n 3 (List.take (Tryz.prog.cellsOf 3) (List.drop 3 [u0, u1, u2, u3, u4, u5])) = some y3 := hf 3 _ rfl
     have g4 : DataW.trod enc Tryz.prog W 0 (fun _ => true) true n 3 (List.take (Tryz.prog.cellsOf 3) (List.drop 4 [u0, u1, u2, u3, u4, u5])) = some y4 := hf 4 _ rfl
     have g5 : DataW.trod enc Tryz.prog W 0 (fun _ => true) true n 9 (List.take (Tryz.prog.cellsOf 9) (List.drop 5 [u0, u1, u2, u3, u4, u5])) = some y5 := hf 5 _ rfl
     rw [ci] at g0 g1 g2 g3 g4
     rw [cs] at g5
     obtain ⟨z0, k0, _, w0⟩ := DataW.trod_int Tryz.underlying3 g0
     obtain ⟨z1, k1, _, w1⟩ := DataW.trod_int Tryz.underlying3 g1
     obtain ⟨z2, k2, _, w2⟩ := DataW.trod_int Tryz.underlying3 g2
     obtain ⟨z3, k3, _, w3⟩ := DataW.trod_int Tryz.underlying3 g3
     obtain ⟨z4, k4, _, w4⟩ := DataW.trod_int Tryz.underlying3 g4
     obtain ⟨s, k5, e5, w5⟩ := DataW.trod_string Tryz.underlying9 g5
     simp at k0 k1 k2 k3 k4 k5
     subst k0 k1 k2 k3 k4 k5
     refine ⟨⟨z0, z1, z2, z3, z4, s⟩, rfl, ⟨in_of_wf w0, in_of_wf w1, in_of_wf w2, in_of_wf w3, in_of_wf w4⟩, w5, y0.1, y1.1, y2.1, y3.1, y4.1, ?_⟩
     simp only [Prod.mk.injEq] at hx
     rw [hx.1, e5]
     rfl
end
end Go.Proofs.YtdfojkbgdoiglaaGreatDoor
namespace Go.Proofs.YtdfojkbgdoiglaaGreatDoor
open Go.RowKit
theorem kip_max {ev : Operand → Value} {o : Oper} {x : Operand} {f s : Int} (h : max f 0 = s) (ho : o.op = .call { callee := .builtin .max, args := #[x, .const (.int .i64 0)], argTypes := #[3, 3] }) (hx : ev x = .int .i64 f) (hc : ev (.const (.int .i64 0)) = .int .i64 0) (w : World) : (execOp ev o).run Tryz.prog w = .ok (.value (.int .i64 s)) w := by
 have hm := max0 f s h (P := Tryz.prog) #[3, 3] o.type w
 unfold execOp
 simp only [ho]
 simp [resolve, invoke, builtin, hx, hc, hm]
def OutT (rm : Bool) (L : List UInt8) (w : World) (e : Ending) (w' : World) : Prop := ∃ A n c, e = .returned (.slice A n c) ∧ L.length = n ∧ (rm = true → n ≤ c) ∧ Rd w' A (bs L) ∧ Below w.heap.size w w'
theorem OutT.nil {rm : Bool} {L : List UInt8} (h : L = []) {w w' : World} (hb : Below w.heap.size w w') : OutT rm L w (.returned (.slice none 0 0)) w' := by
 subst h
 exact ⟨none, 0, 0, rfl, rfl, fun _ => Nat.le_refl _, Rd.nil _ _, hb⟩
theorem kip_sentB (f : Int) (k : Ky) : goesK f k = sentB (k.typ == 3) (flagK f 2) (flagK f 8) ((lookE k.code).kind != 7) (((lookE k.code).kind == 1) || keyedK k.code) := by
 unfold goesK sentB typesK
 cases h2 : flagK f 2 <;> cases h8 : flagK f 8 <;> by_cases h3 : k.typ = 3 <;> simp [h3]
theorem kip_asB (k : Ky) (m0 : 0 ≤ k.mods) (m1 : k.mods ≤ 255) : astextK k = asB ((lookE k.code).kind == 1) (bits .andNot .i64 k.mods 193 == 0) (((lookE k.code).kind == 1) || keyedK k.code) (bits .andNot .i64 k.mods 192 == 0) := by
 rw [(kip_none m0 m1).1, (kip_none m0 m1).2]
 unfold astextK asB
 by_cases h1 : (lookE k.code).kind = 1
 ·rw [if_pos h1, if_pos (by simpa using h1)]
 ·rw [if_neg h1, if_neg (by simpa using h1)]
  rw [beq_false_of_ne h1]
  rfl
set_option maxRecDepth 100000 in
set_option maxHeartbeats 8000000 in
theorem kkey_any (f : Int) (k : Ky) (hf : in10 f) (hk : okK k) (hs : k.text.size ≤ 4294967296) (w : World) (hz : Siz w) (hR : Rws w) (ht : Tab w) : Calls Tryz.prog 9 #[.int .i64 f, kyV k] w (OutT (flagK f 8) (kitL f k) w) := by
 obtain ⟨q, hq⟩ : ∃ q, mayK k = q := ⟨_, rfl⟩
 have HM : Hid (∀ W, Below w.heap.size w W → Calls Tryz.prog 15 #[kyV k] W fun e w' => e = .returned (.bool q) ∧ Below W.heap.size W w') := Lib.hid fun W hW => by rw [← hq]; exact pmods_may k hs W (hz.below' hW) (hR.below hW)
 obtain ⟨s, hS⟩ : ∃ s, max f 0 = s := ⟨_, rfl⟩
 obtain ⟨⟨K, E1, E2, E3, E4⟩, hE⟩ : ∃ E, lookE k.code = E := ⟨_, rfl⟩
 have HL : Hid (∀ W, Below w.heap.size w W → Calls Tryz.prog 13 #[.int .i64 k.code] W fun e w' => e = .returned (.agg #[.int .i64 K, .int .u8 E1, .int .i64 E2, .int .i64 E3, .bool E4]) ∧ Below W.heap.size W w') := Lib.hid fun W hW => by have := plook_any k.code W (hz.below' hW) (hR.below hW); rw [hE] at this; exact this
 have HS := Lib.hid hS
 have h2 := kip_has (d := 2) hf.2 (by omega)
 have h8 := kip_has (d := 8) hf.2 (by omega)
 rw [hS] at h2 h8
 obtain ⟨b2, hb2⟩ : ∃ x, flagK f 2 = x := ⟨_, rfl⟩
 obtain ⟨b8, hb8⟩ : ∃ x, flagK f 8 = x := ⟨_, rfl⟩
 rw [hb2] at h2
 rw [hb8] at h8
 rw [hb8]
 cases q with
 | false =>
   have hno : kitL f k = [] := by
    unfold kitL sentK
    rw [if_pos (if_pos hq)]
   have HNO := Lib.hid hno
   obtain ⟨R, hRR⟩ : ∃ R, kitL f k = R := ⟨_, rfl⟩
   rw [hRR] at HNO ⊢
   clear hno hRR hq hz hR ht hE HL HS h2 h8 hb2 hb8 hS hf hk hs
   obtain ⟨code, mods, typ, shift, base, text⟩ := k
   simp only [kyV] at HM ⊢
   have k0 := Blk.new w 23 #[.int .i64 code, .int .i64 mods, .int .i64 typ, .int .i64 shift, .int .i64 base, .string text]
   have hB0 : Below w.heap.size w (w.alloc (.cells #[.int .i64 code, .int .i64 mods, .int .i64 typ, .int .i64 shift, .int .i64 base, .string text] 23)) := (Below.refl _ _).alloc (Nat.le_refl _) _
   obtain ⟨a0, a1, a2, a3, a4, a5⟩ := Blk.cells6 k0
   go_enter Tryz.func9, Tryz.ntmps9
   go_wp2_with fail
   refine (HM.out _ hB0).mono ?_
   rintro e w1 ⟨rfl, hb1⟩
   have hB1 := hB0.trans (hb1.mono hB0.size)
   go_wp2_with fail
   go_ret
   exact OutT.nil HNO.out hB1
 | true =>
   obtain ⟨⟨hkd, m0, m1, y0, y1⟩, hsh, hba, hcl⟩ := (may_parts k).1 hq
   obtain ⟨se, hse⟩ : ∃ x, goesK f k = x := ⟨_, rfl⟩
   obtain ⟨ta, has⟩ : ∃ x, astextK k = x := ⟨_, rfl⟩
   have hseq := kip_sentB f k
   have hasq := kip_asB k m0 m1
   rw [hE, hse, hb2, hb8] at hseq
   rw [hE, has] at hasq
   have hsent := kip_sent f hq
   rw [hse] at hsent
   have HSE : Hid (∀ W, Calls Tryz.prog 16 #[evV13 k s K] W fun e w' => e = .returned (.bool se) ∧ Below W.heap.size W w') := Lib.hid fun W => ksent_any k s K b2 b8 se h2 h8 hseq.symm W
   have HAS : Hid (∀ W, Calls Tryz.prog 18 #[evV13 k s K] W fun e w' => e = .returned (.bool ta) ∧ Below W.heap.size W w') := Lib.hid fun W => kastext_any k s K _ _ ta rfl rfl hasq.symm W
   have H8 : Hid (∀ W, Calls Tryz.prog 17 #[.int .i64 s, .int .i64 8] W fun e w' => e = .returned (.bool b8) ∧ Below W.heap.size W w') := Lib.hid fun W => khas_any s 8 b8 h8 W
   have HQ : Hid (∀ W, Below w.heap.size w W → Calls Tryz.prog 20 #[evV13 k s K] W (OutC (putS (sqK f k)) W)) := Lib.hid fun W hW => kseq_any k s K hq hs f hf.2 hS.symm W (hz.below' hW) (hR.below hW) (ht.below hW)
   have HTX : Hid (ta = true → ∀ W, Below w.heap.size w W → Calls Tryz.prog 19 #[evV13 k s K] W (Out (plainK k) W)) := Lib.hid fun ha W hW => ktext_any k s K _ hk hs (by rw [kip_plain hq (has.trans ha), hE]) W (hz.below' hW)
   have HR0 := Lib.hid (show se = false → kitL f k = [] from fun h => by unfold kitL; rw [hsent, if_pos h])
   have HR1 := Lib.hid (show se = true → b8 = true ∨ ta = false → kitL f k = putS (sqK f k) from fun h h1 => by
    unfold kitL
    rw [hsent, if_neg (by rw [h]; decide), if_neg (fun hh => by
     rcases h1 with h1 | h1
     ·rw [hb8, h1] at hh; cases hh.1
     ·rw [has, h1] at hh; cases hh.2.2), putK_is f hq])
   have HR2 := Lib.hid (show se = true → b8 = false → ta = true → kitL f k = plainK k from fun h h1 h3 => by
    unfold kitL
    rw [hsent, if_neg (by rw [h]; decide), if_pos ((kip_text (hb8.trans h1) (hse.trans h)).2 (has.trans h3))])
   clear hsent hseq hasq hse has hkd m0 m1 y0 y1 hsh hba hcl hq hz hR ht hE h2 h8 hb2 hb8 hS hf hk hs
   obtain ⟨R, hRR⟩ : ∃ R, kitL f k = R := ⟨_, rfl⟩
   obtain ⟨S, hSS⟩ : ∃ R, putS (sqK f k) = R := ⟨_, rfl⟩
   obtain ⟨T, hTT⟩ : ∃ R, plainK k = R := ⟨_, rfl⟩
   rw [hRR] at HR0 HR1 HR2 ⊢
   rw [hSS] at HR1 HQ
   rw [hTT] at HR2 HTX
   clear hRR hSS hTT
   obtain ⟨code, mods, typ, shift, base, text⟩ := k
   simp only [kyV, evV13] at HM HL HSE HAS HQ HTX ⊢
   have k0 := Blk.new w 23 #[.int .i64 code, .int .i64 mods, .int .i64 typ, .int .i64 shift, .int .i64 base, .string text]
   have hB0 : Below w.heap.size w (w.alloc (.cells #[.int .i64 code, .int .i64 mods, .int .i64 typ, .int .i64 shift, .int .i64 base, .string text] 23)) := (Below.refl _ _).alloc (Nat.le_refl _) _
   obtain ⟨a0, a1, a2, a3, a4, a5⟩ := Blk.cells6 k0
   go_enter Tryz.func9, Tryz.ntmps9
   go_wp2_with fail
   refine (HM.out _ hB0).mono ?_
   rintro e w1 ⟨rfl, hb1⟩
   have hB1 := hB0.trans (hb1.mono hB0.size)
   have k1 := k0.below hb1 k0.lt
   clear k0 hB0 hb1 a0 a1 a2 a3 a4 a5 HM
   have hst : ∀ f ∈ [(⟨8, 5, FNew w1 47 #[.int .i64 0, .int .i64 0, .int .i64 0, .int .i64 0, .int .i64 0, .string ⟨#[]⟩, .int .i64 0, .int .i64 0]⟩ : Fact)], f.ok := fun f hf => by rw [List.mem_singleton] at hf; subst hf; exact fnew_ok _ _ _ _ _
   go_upto_region 3 with (fail)
   refine wp_region_last (w1 := w1) (K := [⟨8, 5, FNew w1 47 #[.int .i64 0, .int .i64 0, .int .i64 0, .int .i64 0, .int .i64 0, .string ⟨#[]⟩, .int .i64 0, .int .i64 0]⟩]) (ix := 9) (iz := 9) (R0 := fun _ _ _ => True) (R1 := fun g _ w => Below w1.heap.size w1 w ∧ FNew w1 47 #[.int .i64 code, .int .i64 mods, .int .i64 typ, .int .i64 shift, .int .i64 base, .string text, .int .i64 s, .int .i64 K] (g 5) w) [5] (⟨#[.int .i64 f, .agg #[.int .i64 code, .int .i64 mods, .int .i64 typ, .int .i64 shift, .int .i64 base, .string text], undef, .pointer (some ⟨w.heap.size, 0, none⟩), .slice none 0 0, undef, .agg #[.int .i64 code, .int .i64 mods, .int .i64 typ, .int .i64 shift, .int .i64 base, .string text], .bool true, .bool false, .agg #[.int .i64 code, .int .i64 mods, .int .i64 typ, .int .i64 shift, .int .i64 base, .string text], .int .i64 f, .int .i64 s, .pointer (some ⟨w.heap.size, 0, none⟩), .int .i64 code, .agg #[.int .i64 K, .int .u8 E1, .int .i64 E2, .int .i64 E3, .bool E4], .int .i64 K, .agg #[.int .i64 code, .int .i64 mods, .int .i64 typ, .int .i64 shift, .int .i64 base, .string text, .int .i64 s, .int .i64 K], undef, undef, undef, undef, undef, undef, undef, undef, undef, undef, undef, undef, undef, undef, undef, undef, undef], []⟩) (fun g => ⟨#[.int .i64 f, .agg #[.int .i64 code, .int .i64 mods, .int .i64 typ, .int .i64 shift, .int .i64 base, .string text], undef, .pointer (some ⟨w.heap.size, 0, none⟩), .slice none 0 0, (g 5), .agg #[.int .i64 code, .int .i64 mods, .int .i64 typ, .int .i64 shift, .int .i64 base, .string text], .bool true, .bool false, .agg #[.int .i64 code, .int .i64 mods, .int .i64 typ, .int .i64 shift, .int .i64 base, .string text], .int .i64 f, .int .i64 s, .pointer (some ⟨w.heap.size, 0, none⟩), .int .i64 code, .agg #[.int .i64 K, .int .u8 E1, .int .i64 E2, .int .i64 E3, .bool E4], .int .i64 K, .agg #[.int .i64 code, .int .i64 mods, .int .i64 typ, .int .i64 shift, .int .i64 base, .string text, .int .i64 s, .int .i64 K], undef, undef, undef, undef, undef, undef, undef, undef, undef, undef, undef, undef, undef, undef, undef, undef, undef], []⟩) [.agg #[.int .i64 code, .int .i64 mods, .int .i64 typ, .int .i64 shift, .int .i64 base, .string text], .int .i64 f, .int .i64 s, .pointer (some ⟨w.heap.size, 0, none⟩), .int .i64 code, .agg #[.int .i64 K, .int .u8 E1, .int .i64 E2, .int .i64 E3, .bool E4], .int .i64 K, .agg #[.int .i64 code, .int .i64 mods, .int .i64 typ, .int .i64 shift, .int .i64 base, .string text, .int .i64 s, .int .i64 K], undef, undef] (by kernel_rfl) (by kernel_rfl) (by kernel_rfl) (fun g => by kernel_rfl) (by kernel_rfl) (Below.refl _ _).drew (by decide)
    (goes_cons (goesK_load hst (ahead_path [7, 0] (by kernel_rfl) (by decide)) rfl (by decide) (by decide) (by kernel_rfl) (fun g => by kernel_rfl) rfl (fun g => by kernel_rfl) rfl (fun g => by kernel_rfl) (fun W hW => k1.below hW k1.lt) Tryz.underlying23 rfl (by kernel_rfl))
    (goes_cons (goesK_pure (fun g => .int .i64 f) rfl (by decide) (by decide) (by kernel_rfl) (fun g => by kernel_rfl) rfl (fun g => by kernel_rfl) (fun g w => by kernel_rfl))
    (goes_cons (goesK_pure (fun g => .int .i64 s) rfl (by decide) (by decide) (by kernel_rfl) (fun g => by kernel_rfl) rfl (fun g => by kernel_rfl) (fun g w => kip_max HS.out rfl rfl rfl w))
    (goes_cons (goesK_pure (fun g => .pointer (some ⟨w.heap.size, 0, none⟩)) rfl (by decide) (by decide) (by kernel_rfl) (fun g => by kernel_rfl) rfl (fun g => by kernel_rfl) (fun g w => by kernel_rfl))
    (goes_cons (goesK_cell hst (ahead_path [7, 6, 5, 4] (by kernel_rfl) (by decide)) rfl (by decide) (by decide) (by kernel_rfl) (fun g => by kernel_rfl) rfl (fun g => by kernel_rfl) rfl (fun g => by kernel_rfl) (fun W hW => (k1.below hW k1.lt).cell 0) (fun w => by kernel_rfl))
    (goes_cons (goesK_call (args := fun g => #[.int .i64 code]) hst (ahead_path [7, 6, 5] (by kernel_rfl) (by decide)) rfl (by decide) (by decide) (by kernel_rfl) (fun g => by kernel_rfl) rfl (fun g => by kernel_rfl) (fun g w => by kernel_rfl) (fun g W hW hin => HL.out W (hB1.trans (hW.mono hB1.size))))
    (goes_cons (goesK_pure (fun g => .int .i64 K) rfl (by decide) (by decide) (by kernel_rfl) (fun g => by kernel_rfl) rfl (fun g => by kernel_rfl) (fun g w => by kernel_rfl))
    (goes_cons (goesK_pure (fun g => .agg #[.int .i64 code, .int .i64 mods, .int .i64 typ, .int .i64 shift, .int .i64 base, .string text, .int .i64 s, .int .i64 K]) rfl (by decide) (by decide) (by kernel_rfl) (fun g => by kernel_rfl) rfl (fun g => by kernel_rfl) (fun g w => by kernel_rfl))
    (goes_cons (goesK_new hst (ahead_path [8] (by kernel_rfl) (by decide)) rfl (by decide) (by decide) 0 rfl (by kernel_rfl) (fun g => by kernel_rfl) rfl (fun g => by kernel_rfl) (fun g w => by kernel_rfl))
    (goes_cons (goesP_put rfl rfl rfl (fun f hf => by rw [List.mem_singleton] at hf; subst hf; exact ⟨show (8 : Nat) ≠ 9 by decide, [8], by kernel_rfl, show (8 : Nat) ∈ [8] by decide⟩) 0 rfl (fun g => by kernel_rfl) rfl rfl (fun g => by kernel_rfl) (fun g => by kernel_rfl) rfl (by kernel_rfl) (by kernel_rfl)) goes_nil)))))))))) ?_
   rintro g _ w2 _ _ ⟨hb2, b5, g5, s5, k2⟩
   rw [g5]
   clear g5 hst
   have hB2 := hB1.trans (hb2.mono hB1.size)
   clear hB1 hb2 k1 HL HS
   obtain ⟨a0, a1, a2, a3, a4, a5, a6, a7⟩ := Blk.cells8 k2
   go_wp2_with fail
   refine (HSE.out _).mono ?_
   rintro e w3 ⟨rfl, hb3⟩
   have k3 := k2.below hb3 k2.lt
   have hB3 := hB2.trans (hb3.mono hB2.size)
   clear k2 hB2 hb3 a0 a1 a2 a3 a4 a5 a6 a7
   obtain ⟨a0, a1, a2, a3, a4, a5, a6, a7⟩ := Blk.cells8 k3
   cases se with
   | false =>
     go_wp2_with fail
     go_ret
     exact OutT.nil (HR0.out (by trivial)) hB3
   | true =>
     go_wp2_with fail
     refine (H8.out _).mono ?_
     rintro e w4 ⟨rfl, hb4⟩
     have k4 := k3.below hb4 k3.lt
     have hB4 := hB3.trans (hb4.mono hB3.size)
     clear k3 hB3 hb4 a0 a1 a2 a3 a4 a5 a6 a7
     obtain ⟨a0, a1, a2, a3, a4, a5, a6, a7⟩ := Blk.cells8 k4
     cases b8 with
     | true =>
       have HLS := Lib.hid (HR1.out (by trivial) (by simp))
       go_wp2_with fail
       refine (HQ.out _ hB4).mono ?_
       rintro e w9 ⟨A9, c9, rfl, hc9, hr9, hb9⟩
       go_wp2_with fail
       go_ret
       exact ⟨A9, _, c9, rfl, by rw [HLS.out], fun _ => hc9, by rw [HLS.out]; exact hr9, hB4.trans (hb9.mono hB4.size)⟩
     | false =>
       go_wp2_with fail
       refine (HAS.out _).mono ?_
       rintro e w5 ⟨rfl, hb5⟩
       have k5 := k4.below hb5 k4.lt
       have hB5 := hB4.trans (hb5.mono hB4.size)
       clear k4 hB4 hb5 a0 a1 a2 a3 a4 a5 a6 a7
       obtain ⟨a0, a1, a2, a3, a4, a5, a6, a7⟩ := Blk.cells8 k5
       cases ta with
       | true =>
         have HLS := Lib.hid (HR2.out (by trivial) (by trivial) (by trivial))
         go_wp2_with fail
         refine (HTX.out (by trivial) _ hB5).mono ?_
         rintro e w9 ⟨A9, c9, rfl, hr9, hb9⟩
         go_wp2_with fail
         go_ret
         exact ⟨A9, _, c9, rfl, by rw [HLS.out], (fun h => by cases h), by rw [HLS.out]; exact hr9, hB5.trans (hb9.mono hB5.size)⟩
       | false =>
         have HLS := Lib.hid (HR1.out (by trivial) (by simp))
         go_wp2_with fail
         refine (HQ.out _ hB5).mono ?_
         rintro e w9 ⟨A9, c9, rfl, hc9, hr9, hb9⟩
         go_wp2_with fail
         go_ret
         exact ⟨A9, _, c9, rfl, by rw [HLS.out], fun _ => hc9, by rw [HLS.out]; exact hr9, hB5.trans (hb9.mono hB5.size)⟩
end Go.Proofs.YtdfojkbgdoiglaaGreatDoor
namespace Go.Proofs.YtdfojkbgdoiglaaGreatDoor
open Go.RowKit
def Inv13 (w : World) : Prop := Siz w ∧ Rws w ∧ Tab w
theorem Inv13.below {w w' : World} (h : Inv13 w) (hb : Below w.heap.size w w') : Inv13 w' := ⟨h.1.below' hb, h.2.1.below hb, h.2.2.below hb⟩
theorem outT_out {rm : Bool} {L : List UInt8} {w w' : World} {e : Ending} (h : OutT rm L w e w') : Out L w e w' := by
 obtain ⟨A, n, c, he, hn, _, hr, hb⟩ := h
 subst hn
 exact ⟨A, c, he, hr, hb⟩
theorem outT_C {rm : Bool} (hrm : rm = true) {L : List UInt8} {w w' : World} {e : Ending} (h : OutT rm L w e w') : OutC L w e w' := by
 obtain ⟨A, n, c, he, hn, hc, hr, hb⟩ := h
 subst hn
 exact ⟨A, c, he, hc hrm, hr, hb⟩
theorem kitC : KitC Inv13 where
 invB := fun h hb => h.below hb
 key := fun f k w hv hf hk hs => (kkey_any f k hf hk hs w hv.1 hv.2.1 hv.2.2).mono fun _ _ h => outT_out h
 form := fun c w hv _ => kform_any c w hv.1 hv.2.1
end Go.Proofs.YtdfojkbgdoiglaaGreatDoor
namespace Go.Proofs.YtdfojkbgdoiglaaGreatDoor
open Go.RowKit
theorem kittyAll_bytes {Inv : World → Prop} (H : KitC Inv) (flags : Int) (l0 : 0 ≤ flags) (l1 : flags ≤ 255) (mods : Int) (m0 : 0 ≤ mods) (m1 : mods ≤ 255) (x y : UInt8) (w : World) (hv : Inv w) : Calls Tryz.prog 4 #[.int .u8 flags, .int .u8 mods, .agg #[.int .u8 (x.toNat : Int), .int .u8 (y.toNat : Int)]] w fun e w' => e = .returned (.bool true) ∧ Below w.heap.size w w' := by
 have hx := x.toNat_lt
 have hy := y.toNat_lt
 exact kittyAll_walk H flags l0 l1 mods m0 m1 _ _ (by omega) (by omega) (by omega) (by omega) w hv
end Go.Proofs.YtdfojkbgdoiglaaGreatDoor
namespace Go.Proofs.YtdfojkbgdoiglaaGreatDoor
open Go.RowKit
structure KitO (Inv : World → Prop) : Prop extends KitC Inv where
 room : ∀ (f : Int) (k : Ky) (w : World), Inv w → in10 f → okK k → k.text.size ≤ 4294967296 → mayK k = true → flagK f 2 = true → flagK f 8 = true → Calls Tryz.prog 9 #[.int .i64 f, kyV k] w (OutC (kitL f k) w)
 take : ∀ (A : Option Addr) (n c : Nat) (l : List UInt8) (s : Sq) (m : Nat) (w : World), Inv w → takeS l = some (s, m) → l.length = n → n ≤ c → n ≤ 4294967296 → Rd w A (bs l) → Calls Tryz.prog 12 #[.slice A n c] w fun e w' => (∃ A c, e = .returned (.tuple #[sqV s A c, .int .i64 (m : Int), .int .i64 0]) ∧ RdP w' A s.params) ∧ Below w.heap.size w w'
variable {Inv : World → Prop}
set_option maxRecDepth 100000 in
set_option maxHeartbeats 16000000 in
theorem kittyOne_walk (H : KitO Inv) (flags : Int) (l0 : 0 ≤ flags) (_l1 : flags ≤ 255) (k : Ky) (hk : okK k) (hs : k.text.size ≤ 4294967296) (w : World) (hv : Inv w) : Calls Tryz.prog 5 #[.int .u8 flags, kyV k] w fun e w' => e = .returned (.bool true) ∧ Below w.heap.size w w' := by
 obtain ⟨q, hq⟩ : ∃ q, mayK k = q := ⟨_, rfl⟩
 have HM : Hid (∀ W, Calls Tryz.prog 11 #[kyV k] W fun e w' => e = .returned (.bool q) ∧ Below W.heap.size W w') := Lib.hid fun W => by rw [← hq]; exact rmay10_any k hs W
 have hB := (Below.refl w.heap.size w).alloc (Nat.le_refl _) (.cells (kyC k) 23)
 have k0 := Blk.new w 23 (kyC k)
 have hv0 := H.invB hv hB
 obtain ⟨F, hF⟩ : ∃ F, bits .or .i64 (flags % 32) 11 = F := ⟨_, rfl⟩
 obtain ⟨⟨F0, F1⟩, F2, F8⟩ := flags11 (a := flags % 32) (by omega) (by omega)
 rw [hF] at F0 F1 F2 F8
 have tm : Int.tmod flags 32 = flags % 32 := Int.tmod_eq_emod_of_nonneg l0
 have w1_ : IntKind.u8.wrap (flags % 32) = flags % 32 := by rw [IntKind.wrap_u8]; omega
 have w2_ : IntKind.i64.wrap (flags % 32) = flags % 32 := by rw [IntKind.wrap_i64]; omega
 obtain ⟨⟨n, g⟩, hng⟩ : ∃ x, frmK k.code = x := ⟨_, rfl⟩
 have HF : Hid (∀ W, Inv W → Calls Tryz.prog 7 #[.int .i64 k.code] W fun e w' => e = .returned (.tuple #[.int .i64 n, .int .u8 g]) ∧ Below W.heap.size W w') := Lib.hid fun W hW => H.form_at hng W hW hk.code
 cases q with
 | false =>
   rw [kyV] at HM ⊢
   rw [kyC] at hB k0 hv0
   obtain ⟨code, mods, typ, shift, base, text⟩ := k
   simp only at hB k0 hv0 HM ⊢
   clear HF hng hk hs hq
   go_enter Tryz.func5, Tryz.ntmps5
   go_wp2_with fail
   refine (kitAwake H.toKitC _ hv0).mono ?_
   rintro e w1 ⟨rfl, hb1⟩
   have hB1 := hB.trans (hb1.mono hB.size)
   replace k0 := k0.below hb1 k0.lt
   obtain ⟨a0, a1, a2, a3, a4, a5⟩ := Blk.cells6 k0
   go_wp2_with fail
   refine (HM.out _).mono ?_
   rintro e w2 ⟨rfl, hb2⟩
   have hB2 := hB1.trans (hb2.mono hB1.size)
   clear a0 a1 a2 a3 a4 a5 k0
   go_wp2_with fail
   go_ret
   exact ⟨rfl, hB2⟩
 | true =>
   obtain ⟨hkl, hms⟩ := kit_all (f := F) hq F2 F8
   obtain ⟨L, hL⟩ : ∃ L, putS (sqK F k) = L := ⟨_, rfl⟩
   obtain ⟨p, hp⟩ : ∃ p, L.length = p := ⟨_, rfl⟩
   obtain ⟨np, hnp⟩ : ∃ p, (paramsK F k).length = p := ⟨_, rfl⟩
   have hp2 : p ≤ 4294967296 := by rw [← hp, ← hL]; exact put_len13 rfl hms
   have hts : takeS L = some (sqK F k, p) := by
    have := takeS_put hms []
    rw [List.append_nil, hL, hp] at this
    exact this
   have hk0 := ((may_parts k).1 hq).1.1
   have hgr := (frm_rng hk0).2
   rw [hng] at hgr
   have g0 : 65 ≤ g := hgr.1
   have g1 : g ≤ 126 := hgr.2
   have HK : Hid (∀ W, Inv W → Calls Tryz.prog 9 #[.int .i64 F, kyV k] W fun e w' => ∃ A c, e = .returned (.slice A p c) ∧ p ≤ c ∧ Rd w' A (bs L) ∧ Below W.heap.size W w') := Lib.hid fun W hW => by
    have := H.room F k W hW ⟨by omega, by omega⟩ hk hs hq F2 F8
    rw [hkl, hL] at this
    refine this.mono ?_
    rintro e w' ⟨A, c, rfl, hc, hr, hb⟩
    rw [hp] at hc
    exact ⟨A, c, by rw [hp], hc, hr, hb⟩
   have HT : Hid (∀ (A : Option Addr) (c : Nat) (W : World), Inv W → p ≤ c → Rd W A (bs L) → Calls Tryz.prog 12 #[.slice A p c] W fun e w' => (∃ A' c', e = .returned (.tuple #[.agg #[.int .i64 1, .int .u8 0, .slice A' np c', .string ⟨#[]⟩, .int .u8 g, .string ⟨#[]⟩], .int .i64 (p : Int), .int .i64 0])) ∧ Below W.heap.size W w') := Lib.hid fun A c W hW hpc hr => by
    refine (H.take A p c L _ p W hW hts hp hpc hp2 hr).mono ?_
    rintro e w' ⟨⟨A', c', rfl, _⟩, hb⟩
    refine ⟨⟨A', c', ?_⟩, hb⟩
    unfold sqV
    show Ending.returned (.tuple #[.agg #[.int .i64 1, .int .u8 0, .slice A' (paramsK F k).length c', .string ⟨#[]⟩, .int .u8 ((byt (frmK k.code).2).toNat : Int), .string ⟨#[]⟩], .int .i64 (p : Int), .int .i64 0]) = _
    rw [hnp, hng, byt_nat g (by omega) (by omega)]
   clear hkl hms hL hp hp2 hts hnp hgr hk0 hng hk hs hq F0 F1 F2 F8
   rw [kyV] at HM HK ⊢
   rw [kyC] at hB k0 hv0
   obtain ⟨code, mods, typ, shift, base, text⟩ := k
   simp only at hB k0 hv0 HM HK HF ⊢
   go_enter Tryz.func5, Tryz.ntmps5
   go_wp2_with fail
   refine (kitAwake H.toKitC _ hv0).mono ?_
   rintro e w1 ⟨rfl, hb1⟩
   have hB1 := hB.trans (hb1.mono hB.size)
   replace k0 := k0.below hb1 k0.lt
   clear hv0 hB hb1
   obtain ⟨a0, a1, a2, a3, a4, a5⟩ := Blk.cells6 k0
   go_wp2_with fail
   refine (HM.out _).mono ?_
   rintro e w2 ⟨rfl, hb2⟩
   have hB2 := hB1.trans (hb2.mono hB1.size)
   clear a0 a1 a2 a3 a4 a5
   replace k0 := k0.below hb2 k0.lt
   clear hB1 hb2
   obtain ⟨a0, a1, a2, a3, a4, a5⟩ := Blk.cells6 k0
   go_wp2_with fail
   refine (HK.out _ (H.invB hv hB2)).mono ?_
   rintro e w3 ⟨A3, c3, rfl, hc3, hr3, hb3⟩
   have hB3 := hB2.trans (hb3.mono hB2.size)
   clear a0 a1 a2 a3 a4 a5
   replace k0 := k0.below hb3 k0.lt
   clear hB2 hb3
   go_wp2_with fail
   refine (HT.out A3 c3 _ (H.invB hv hB3) hc3 hr3).mono ?_
   rintro e w4 ⟨⟨A4, c4, rfl⟩, hb4⟩
   have hB4 := (hB3.trans (hb4.mono hB3.size)).alloc (hB3.trans (hb4.mono hB3.size)).size (.cells #[.int .i64 1, .int .u8 0, .slice A4 np c4, .string ⟨#[]⟩, .int .u8 g, .string ⟨#[]⟩] 35)
   replace k0 := (k0.below hb4 k0.lt).alloc (.cells #[.int .i64 1, .int .u8 0, .slice A4 np c4, .string ⟨#[]⟩, .int .u8 g, .string ⟨#[]⟩] 35)
   have s4 := Blk.new w4 35 #[.int .i64 1, .int .u8 0, .slice A4 np c4, .string ⟨#[]⟩, .int .u8 g, .string ⟨#[]⟩]
   clear hB3 hb4
   go_upto_region 6 with (fail)
   obtain ⟨W4, hW4⟩ : ∃ W, w4.alloc (.cells #[.int .i64 1, .int .u8 0, .slice A4 np c4, .string ⟨#[]⟩, .int .u8 g, .string ⟨#[]⟩] 35) = W := ⟨_, rfl⟩
   rw [hW4] at hB4 k0 s4 ⊢
   clear hW4
   have a0 := k0.cell 0
   go_wp2_with fail
   refine (HF.out _ (H.invB hv hB4)).mono ?_
   rintro e w5 ⟨rfl, hb5⟩
   have hB5 := hB4.trans (hb5.mono hB4.size)
   replace s4 := s4.below hb5 s4.lt
   clear hB4 hb5 a0
   obtain ⟨y0, y1, y2, y3, y4, y5⟩ := Blk.cells6 s4
   go_wp2_with fail
   go_ret
   exact ⟨rfl, hB5⟩
end Go.Proofs.YtdfojkbgdoiglaaGreatDoor
namespace Go.Proofs.YtdfojkbgdoiglaaGreatDoor
open Go.RowKit
theorem kitO : KitO Inv13 where
 toKitC := kitC
 room := fun f k w hv hf hk hs _ _ h8 => (kkey_any f k hf hk hs w hv.1 hv.2.1 hv.2.2).mono fun _ _ h => outT_C h8 h
 take := fun A n c l s m w hv ht hl hc hn hr => ptake_yes A n c l s m w ht hl hc hn hv.2.2 hr
end Go.Proofs.YtdfojkbgdoiglaaGreatDoor
