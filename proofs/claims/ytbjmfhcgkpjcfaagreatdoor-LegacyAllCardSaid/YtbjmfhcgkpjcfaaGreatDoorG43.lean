/-
  Stage 11, the landed legacy: Key where nothing is sent.
-/
import Derived.Test.YtbjmfhcgkpjcfaaGreatDoorG42
namespace Go.Proofs.YtbjmfhcgkpjcfaaGreatDoor
open Go.RowKit

theorem outR_nil {w w' : World} (rm : Bool) (hb : Below w.heap.size w w') : OutR rm [] 0 w (.returned (.slice none 0 0)) w' := ⟨none, 0, rfl, fun _ => Nat.le_refl _, Rd.nil _ _, hb⟩
set_option maxRecDepth 100000 in
set_option maxHeartbeats 8000000 in
theorem lkey_none (m : Mo) (k : Ky) (hk : okK k) (hs : k.text.size ≤ 4294967296) (hm : mayK k = true) (h3 : k.typ ≠ 3) (e : En) (o K : Int) (he : lookE k.code = e) (ho : oldN k.mods = o) (hK : e.kind = K) (K0 : 0 ≤ K) (K8 : K < 8) (hV : lformAt K = (.agg #[.nilFunc, .bool false], false)) (rm : Bool) (w : World) (hz : Siz w) (hR : Rws w) :
    Calls Tryz.prog 6 #[moV m, kyV k] w (OutR rm [] 0 w) := by
  have HV := Lib.hid hV
  have HC : Hid (∀ W {b : Nat}, Blk W b 37 (evC m k e o) → W.cell? ⟨b, 16, none⟩ = some (.int .i64 K)) := Lib.hid fun W b h => by rw [← hK]; exact (ev_ent h).1
  clear hV
  have HM : Hid (∀ W, Siz W → Rws W → Calls Tryz.prog 8 #[.agg #[.int .i64 k.code, .int .i64 k.mods, .int .i64 k.typ, .int .i64 k.shift, .int .i64 k.base, .string k.text]] W fun e w' => e = .returned (.bool true) ∧ Below W.heap.size W w') := Lib.hid fun W h1 h2 => by rw [← hm]; exact pmods_may k hs W h1 h2
  have HO : Hid (∀ W, Calls Tryz.prog 10 #[.int .i64 k.mods] W fun e w' => e = .returned (.int .i64 o) ∧ Below W.heap.size W w') := Lib.hid fun W => by rw [← ho]; exact pold_any k.mods W hk.mods
  have HL : Hid (∀ W, Siz W → Rws W → Calls Tryz.prog 9 #[.int .i64 k.code] W fun x w' => x = .returned (.agg #[.int .i64 e.kind, .int .u8 e.fin, .int .i64 e.num, .int .i64 e.char, .bool e.keys]) ∧ Below W.heap.size W w') := Lib.hid fun W h1 h2 => by have := plook_any k.code W h1 h2; rw [he] at this; exact this
  have t3 : (k.typ == 3) = false := beq_false_of_ne h3
  have b0 : Below w.heap.size w (w.alloc (.cells #[.bool m.cursor, .bool m.keypad, .bool m.back, .bool m.focus, .bool m.paste, .bool m.lock, .bool m.line, .int .i64 m.mouse, .int .i64 m.coding, .int .i64 m.other] 23)) := (Below.refl _ w).alloc (Nat.le_refl _) _
  have b1 := b0.alloc b0.size (.cells #[.int .i64 k.code, .int .i64 k.mods, .int .i64 k.typ, .int .i64 k.shift, .int .i64 k.base, .string k.text] 25)
  have hB := b1.alloc b1.size (.cells #[.slice none 0 0] 27)
  have kM := ((Blk.new w 23 #[.bool m.cursor, .bool m.keypad, .bool m.back, .bool m.focus, .bool m.paste, .bool m.lock, .bool m.line, .int .i64 m.mouse, .int .i64 m.coding, .int .i64 m.other]).alloc (.cells #[.int .i64 k.code, .int .i64 k.mods, .int .i64 k.typ, .int .i64 k.shift, .int .i64 k.base, .string k.text] 25)).alloc (.cells #[.slice none 0 0] 27)
  have kK := (Blk.new (w.alloc (.cells #[.bool m.cursor, .bool m.keypad, .bool m.back, .bool m.focus, .bool m.paste, .bool m.lock, .bool m.line, .int .i64 m.mouse, .int .i64 m.coding, .int .i64 m.other] 23)) 25 #[.int .i64 k.code, .int .i64 k.mods, .int .i64 k.typ, .int .i64 k.shift, .int .i64 k.base, .string k.text]).alloc (.cells #[.slice none 0 0] 27)
  have kR := Blk.new ((w.alloc (.cells #[.bool m.cursor, .bool m.keypad, .bool m.back, .bool m.focus, .bool m.paste, .bool m.lock, .bool m.line, .int .i64 m.mouse, .int .i64 m.coding, .int .i64 m.other] 23)).alloc (.cells #[.int .i64 k.code, .int .i64 k.mods, .int .i64 k.typ, .int .i64 k.shift, .int .i64 k.base, .string k.text] 25)) 27 #[.slice none 0 0]
  obtain ⟨W1, hW1⟩ : ∃ W1, ((w.alloc (.cells #[.bool m.cursor, .bool m.keypad, .bool m.back, .bool m.focus, .bool m.paste, .bool m.lock, .bool m.line, .int .i64 m.mouse, .int .i64 m.coding, .int .i64 m.other] 23)).alloc (.cells #[.int .i64 k.code, .int .i64 k.mods, .int .i64 k.typ, .int .i64 k.shift, .int .i64 k.base, .string k.text] 25)).alloc (.cells #[.slice none 0 0] 27) = W1 := ⟨_, rfl⟩
  rw [hW1] at hB kM kK kR
  simp only [World.size_alloc] at kM kK kR
  obtain ⟨a0, a1, a2, a3, a4, a5⟩ := Blk.cells6 kK
  rw [moV, kyV]
  go_enter_defers Tryz.func6, Tryz.ntmps6
  go_wp2_with fail
  refine (HM.out _ (hz.below' hB) (hR.below hB)).mono ?_
  rintro x w2 ⟨rfl, hb2⟩
  have hB2 := hB.trans (hb2.mono hB.size)
  replace kM := kM.below hb2 kM.lt
  replace kK := kK.below hb2 kK.lt
  replace kR := kR.below hb2 kR.lt
  clear hB hb2 a0 a1 a2 a3 a4 a5 HM hW1 b0 b1
  obtain ⟨a0, a1, a2, a3, a4, a5⟩ := Blk.cells6 kK
  go_upto_region 3 with (fail)
  have hst : ∀ f ∈ [(⟨9, 5, FNew w2 37 #[.bool false, .bool false, .bool false, .bool false, .bool false, .bool false, .bool false, .int .i64 0, .int .i64 0, .int .i64 0, .int .i64 0, .int .i64 0, .int .i64 0, .int .i64 0, .int .i64 0, .string ⟨#[]⟩, .int .i64 0, .int .u8 0, .int .i64 0, .int .i64 0, .bool false, .int .i64 0]⟩ : Fact)], f.ok := fun f hf => by rw [List.mem_singleton] at hf; subst hf; exact fnew_ok _ _ _ _ _
  refine wp_region_last (w1 := w2) (K := [⟨9, 5, FNew w2 37 #[.bool false, .bool false, .bool false, .bool false, .bool false, .bool false, .bool false, .int .i64 0, .int .i64 0, .int .i64 0, .int .i64 0, .int .i64 0, .int .i64 0, .int .i64 0, .int .i64 0, .string ⟨#[]⟩, .int .i64 0, .int .u8 0, .int .i64 0, .int .i64 0, .bool false, .int .i64 0]⟩]) (ix := 10) (iz := 10) (R0 := fun _ _ _ => True) (R1 := fun g _ w => Below w2.heap.size w2 w ∧ FNew w2 37 (evC m k e o) (g 5) w) [5] (⟨#[.agg #[.bool m.cursor, .bool m.keypad, .bool m.back, .bool m.focus, .bool m.paste, .bool m.lock, .bool m.line, .int .i64 m.mouse, .int .i64 m.coding, .int .i64 m.other], .agg #[.int .i64 k.code, .int .i64 k.mods, .int .i64 k.typ, .int .i64 k.shift, .int .i64 k.base, .string k.text], .pointer (some ⟨w.heap.size, 0, none⟩), .pointer (some ⟨w.heap.size + 1, 0, none⟩), .pointer (some ⟨w.heap.size + 1 + 1, 0, none⟩), undef, undef, undef, .agg #[.int .i64 k.code, .int .i64 k.mods, .int .i64 k.typ, .int .i64 k.shift, .int .i64 k.base, .string k.text], .bool true, .bool false, .bool false, .pointer (some ⟨w.heap.size + 1, 2, none⟩), .int .i64 k.typ, .bool false, .bool false, .agg #[.bool m.cursor, .bool m.keypad, .bool m.back, .bool m.focus, .bool m.paste, .bool m.lock, .bool m.line, .int .i64 m.mouse, .int .i64 m.coding, .int .i64 m.other], .agg #[.int .i64 k.code, .int .i64 k.mods, .int .i64 k.typ, .int .i64 k.shift, .int .i64 k.base, .string k.text], .pointer (some ⟨w.heap.size + 1, 0, none⟩), .int .i64 k.code, .agg #[.int .i64 e.kind, .int .u8 e.fin, .int .i64 e.num, .int .i64 e.char, .bool e.keys], .pointer (some ⟨w.heap.size + 1, 1, none⟩), .int .i64 k.mods, .int .i64 o, .agg (evC m k e o), undef, undef, undef, undef, undef, undef, undef, undef, undef, undef, undef, undef, undef, undef, undef], []⟩) (fun g => ⟨#[.agg #[.bool m.cursor, .bool m.keypad, .bool m.back, .bool m.focus, .bool m.paste, .bool m.lock, .bool m.line, .int .i64 m.mouse, .int .i64 m.coding, .int .i64 m.other], .agg #[.int .i64 k.code, .int .i64 k.mods, .int .i64 k.typ, .int .i64 k.shift, .int .i64 k.base, .string k.text], .pointer (some ⟨w.heap.size, 0, none⟩), .pointer (some ⟨w.heap.size + 1, 0, none⟩), .pointer (some ⟨w.heap.size + 1 + 1, 0, none⟩), (g 5), undef, undef, .agg #[.int .i64 k.code, .int .i64 k.mods, .int .i64 k.typ, .int .i64 k.shift, .int .i64 k.base, .string k.text], .bool true, .bool false, .bool false, .pointer (some ⟨w.heap.size + 1, 2, none⟩), .int .i64 k.typ, .bool false, .bool false, .agg #[.bool m.cursor, .bool m.keypad, .bool m.back, .bool m.focus, .bool m.paste, .bool m.lock, .bool m.line, .int .i64 m.mouse, .int .i64 m.coding, .int .i64 m.other], .agg #[.int .i64 k.code, .int .i64 k.mods, .int .i64 k.typ, .int .i64 k.shift, .int .i64 k.base, .string k.text], .pointer (some ⟨w.heap.size + 1, 0, none⟩), .int .i64 k.code, .agg #[.int .i64 e.kind, .int .u8 e.fin, .int .i64 e.num, .int .i64 e.char, .bool e.keys], .pointer (some ⟨w.heap.size + 1, 1, none⟩), .int .i64 k.mods, .int .i64 o, .agg (evC m k e o), undef, undef, undef, undef, undef, undef, undef, undef, undef, undef, undef, undef, undef, undef, undef], []⟩) [.agg #[.bool m.cursor, .bool m.keypad, .bool m.back, .bool m.focus, .bool m.paste, .bool m.lock, .bool m.line, .int .i64 m.mouse, .int .i64 m.coding, .int .i64 m.other], .agg #[.int .i64 k.code, .int .i64 k.mods, .int .i64 k.typ, .int .i64 k.shift, .int .i64 k.base, .string k.text], .pointer (some ⟨w.heap.size + 1, 0, none⟩), .int .i64 k.code, .agg #[.int .i64 e.kind, .int .u8 e.fin, .int .i64 e.num, .int .i64 e.char, .bool e.keys], .pointer (some ⟨w.heap.size + 1, 1, none⟩), .int .i64 k.mods, .int .i64 o, .agg (evC m k e o), undef, undef] (by kernel_rfl) (by kernel_rfl) (by kernel_rfl) (fun g => by kernel_rfl) (by kernel_rfl) (Below.refl _ _).drew (by decide)
    (goes_cons (goesK_load hst (ahead_path [8, 0] (by kernel_rfl) (by decide)) rfl (by decide) (by decide) (by kernel_rfl) (fun g => by kernel_rfl) rfl (fun g => by kernel_rfl) rfl (fun g => by kernel_rfl) (fun W hW => kM.below hW kM.lt) Tryz.underlying23 rfl (by kernel_rfl)) 
    (goes_cons (goesK_load hst (ahead_path [8, 1] (by kernel_rfl) (by decide)) rfl (by decide) (by decide) (by kernel_rfl) (fun g => by kernel_rfl) rfl (fun g => by kernel_rfl) rfl (fun g => by kernel_rfl) (fun W hW => kK.below hW kK.lt) Tryz.underlying25 rfl (by kernel_rfl)) 
    (goes_cons (goesK_pure (fun g => .pointer (some ⟨w.heap.size + 1, 0, none⟩)) rfl (by decide) (by decide) (by kernel_rfl) (fun g => by kernel_rfl) rfl (fun g => by kernel_rfl) (fun g w => by kernel_rfl)) 
    (goes_cons (goesK_cell hst (ahead_path [8, 4, 3] (by kernel_rfl) (by decide)) rfl (by decide) (by decide) (by kernel_rfl) (fun g => by kernel_rfl) rfl (fun g => by kernel_rfl) rfl (fun g => by kernel_rfl) (fun W hW => (kK.below hW kK.lt).cell 0) (fun w => by kernel_rfl)) 
    (goes_cons (goesK_call (args := fun g => #[.int .i64 k.code]) hst (ahead_path [8, 4] (by kernel_rfl) (by decide)) rfl (by decide) (by decide) (by kernel_rfl) (fun g => by kernel_rfl) rfl (fun g => by kernel_rfl) (fun g w => by kernel_rfl) (fun g W hW hin => HL.out W (hz.below' (hB2.trans (hW.mono hB2.size))) (hR.below (hB2.trans (hW.mono hB2.size))))) 
    (goes_cons (goesK_pure (fun g => .pointer (some ⟨w.heap.size + 1, 1, none⟩)) rfl (by decide) (by decide) (by kernel_rfl) (fun g => by kernel_rfl) rfl (fun g => by kernel_rfl) (fun g w => by kernel_rfl)) 
    (goes_cons (goesK_cell hst (ahead_path [8, 7, 6] (by kernel_rfl) (by decide)) rfl (by decide) (by decide) (by kernel_rfl) (fun g => by kernel_rfl) rfl (fun g => by kernel_rfl) rfl (fun g => by kernel_rfl) (fun W hW => (kK.below hW kK.lt).cell 1) (fun w => by kernel_rfl)) 
    (goes_cons (goesK_call (args := fun g => #[.int .i64 k.mods]) hst (ahead_path [8, 7] (by kernel_rfl) (by decide)) rfl (by decide) (by decide) (by kernel_rfl) (fun g => by kernel_rfl) rfl (fun g => by kernel_rfl) (fun g w => by kernel_rfl) (fun g W hW hin => HO.out W)) 
    (goes_cons (goesK_pure (fun g => .agg (evC m k e o)) rfl (by decide) (by decide) (by kernel_rfl) (fun g => by kernel_rfl) rfl (fun g => by kernel_rfl) (fun g w => by kernel_rfl)) 
    (goes_cons (goesK_new hst (ahead_path [9] (by kernel_rfl) (by decide)) rfl (by decide) (by decide) 0 rfl (by kernel_rfl) (fun g => by kernel_rfl) rfl (fun g => by kernel_rfl) (fun g w => by kernel_rfl)) 
    (goes_cons (goesK_put rfl rfl rfl (fun f hf => by rw [List.mem_singleton] at hf; subst hf; exact ⟨show (9 : Nat) ≠ 10 by decide, [9], by kernel_rfl, show (9 : Nat) ∈ [9] by decide⟩) 0 rfl (fun g => by kernel_rfl) rfl rfl (fun g => by kernel_rfl) (fun g => by kernel_rfl) rfl (by kernel_rfl) (by kernel_rfl)) goes_nil))))))))))) ?_
  rintro g _ w3 _ _ ⟨hb3, b5, g5, s5, k5⟩
  rw [g5]
  clear g5 hst
  have hB3 := hB2.trans (hb3.mono hB2.size)
  have s5w : w.heap.size ≤ b5 := Nat.le_trans hB2.size s5
  have rb5 : w.heap.size + 1 + 1 < b5 := Nat.lt_of_lt_of_le kR.lt s5
  replace kR := kR.below hb3 kR.lt
  clear hB2 hb3 kM kK a0 a1 a2 a3 a4 a5 HO HL
  go_upto_region 4 with (fail)
  have hst : ∀ f ∈ [(⟨0, 26, fun v w => LFormsE w3 v w⟩ : Fact), ⟨8, 6, FNew w3 40 #[.nilFunc, .bool false]⟩], f.ok := List.forall_mem_cons.2 ⟨lforms_ok _ _ _, List.forall_mem_cons.2 ⟨fnew_ok _ _ _ _ _, fun _ h => by cases h⟩⟩
  refine wp_region_last (w1 := w3) (K := [⟨0, 26, fun v w => LFormsE w3 v w⟩, ⟨8, 6, FNew w3 40 #[.nilFunc, .bool false]⟩]) (ix := 9) (iz := 9) (R0 := fun _ _ _ => True) (R1 := fun g _ w => Below w3.heap.size w3 w ∧ FNew w3 40 #[.nilFunc, .bool false] (g 6) w) [26, 6] (⟨#[.agg #[.bool m.cursor, .bool m.keypad, .bool m.back, .bool m.focus, .bool m.paste, .bool m.lock, .bool m.line, .int .i64 m.mouse, .int .i64 m.coding, .int .i64 m.other], .agg #[.int .i64 k.code, .int .i64 k.mods, .int .i64 k.typ, .int .i64 k.shift, .int .i64 k.base, .string k.text], .pointer (some ⟨w.heap.size, 0, none⟩), .pointer (some ⟨w.heap.size + 1, 0, none⟩), .pointer (some ⟨w.heap.size + 1 + 1, 0, none⟩), .pointer (some ⟨b5, 0, none⟩), undef, .bool false, .agg #[.int .i64 k.code, .int .i64 k.mods, .int .i64 k.typ, .int .i64 k.shift, .int .i64 k.base, .string k.text], .bool true, .bool false, .bool false, .pointer (some ⟨w.heap.size + 1, 2, none⟩), .int .i64 k.typ, .bool false, .bool false, .agg #[.bool m.cursor, .bool m.keypad, .bool m.back, .bool m.focus, .bool m.paste, .bool m.lock, .bool m.line, .int .i64 m.mouse, .int .i64 m.coding, .int .i64 m.other], .agg #[.int .i64 k.code, .int .i64 k.mods, .int .i64 k.typ, .int .i64 k.shift, .int .i64 k.base, .string k.text], .pointer (some ⟨w.heap.size + 1, 0, none⟩), .int .i64 k.code, .agg #[.int .i64 e.kind, .int .u8 e.fin, .int .i64 e.num, .int .i64 e.char, .bool e.keys], .pointer (some ⟨w.heap.size + 1, 1, none⟩), .int .i64 k.mods, .int .i64 o, .agg (evC m k e o), .tuple #[.agg #[.nilFunc, .bool false], .bool false], undef, .pointer (some ⟨b5, 16, none⟩), .pointer (some ⟨b5, 16, none⟩), .int .i64 K, .tuple #[.agg #[.nilFunc, .bool false], .bool false], .agg #[.nilFunc, .bool false], .bool false, undef, undef, undef, undef, undef, undef, undef], []⟩) (fun g => ⟨#[.agg #[.bool m.cursor, .bool m.keypad, .bool m.back, .bool m.focus, .bool m.paste, .bool m.lock, .bool m.line, .int .i64 m.mouse, .int .i64 m.coding, .int .i64 m.other], .agg #[.int .i64 k.code, .int .i64 k.mods, .int .i64 k.typ, .int .i64 k.shift, .int .i64 k.base, .string k.text], .pointer (some ⟨w.heap.size, 0, none⟩), .pointer (some ⟨w.heap.size + 1, 0, none⟩), .pointer (some ⟨w.heap.size + 1 + 1, 0, none⟩), .pointer (some ⟨b5, 0, none⟩), (g 6), .bool false, .agg #[.int .i64 k.code, .int .i64 k.mods, .int .i64 k.typ, .int .i64 k.shift, .int .i64 k.base, .string k.text], .bool true, .bool false, .bool false, .pointer (some ⟨w.heap.size + 1, 2, none⟩), .int .i64 k.typ, .bool false, .bool false, .agg #[.bool m.cursor, .bool m.keypad, .bool m.back, .bool m.focus, .bool m.paste, .bool m.lock, .bool m.line, .int .i64 m.mouse, .int .i64 m.coding, .int .i64 m.other], .agg #[.int .i64 k.code, .int .i64 k.mods, .int .i64 k.typ, .int .i64 k.shift, .int .i64 k.base, .string k.text], .pointer (some ⟨w.heap.size + 1, 0, none⟩), .int .i64 k.code, .agg #[.int .i64 e.kind, .int .u8 e.fin, .int .i64 e.num, .int .i64 e.char, .bool e.keys], .pointer (some ⟨w.heap.size + 1, 1, none⟩), .int .i64 k.mods, .int .i64 o, .agg (evC m k e o), .tuple #[.agg #[.nilFunc, .bool false], .bool false], (g 26), .pointer (some ⟨b5, 16, none⟩), .pointer (some ⟨b5, 16, none⟩), .int .i64 K, .tuple #[.agg #[.nilFunc, .bool false], .bool false], .agg #[.nilFunc, .bool false], .bool false, undef, undef, undef, undef, undef, undef, undef], []⟩) [undef, .pointer (some ⟨b5, 16, none⟩), .pointer (some ⟨b5, 16, none⟩), .int .i64 K, .tuple #[.agg #[.nilFunc, .bool false], .bool false], .tuple #[.agg #[.nilFunc, .bool false], .bool false], .agg #[.nilFunc, .bool false], .bool false, undef, undef, .bool false] (by kernel_rfl) (by kernel_rfl) (by kernel_rfl) (fun g => by kernel_rfl) (by kernel_rfl) (Below.refl _ _).drew (by decide)
    (goes_cons (goesK_ghost (args := fun g => #[]) hst (ahead_path [6, 5, 4, 0] (by kernel_rfl) (by decide)) rfl (by decide) (by decide) 0 rfl (by kernel_rfl) (fun g => by kernel_rfl) rfl (fun g => by kernel_rfl) (fun g w => by kernel_rfl) (fun g W hW hin => (lforms_any W).mono fun x w' ⟨v, hx, ⟨bm, nm, h1, h2, h3⟩, hb⟩ => ⟨v, hx, ⟨bm, nm, h1, h2, Nat.le_trans hW.size h3⟩, hb⟩)) 
    (goes_cons (goesK_pure (fun g => .pointer (some ⟨b5, 16, none⟩)) rfl (by decide) (by decide) (by kernel_rfl) (fun g => by kernel_rfl) rfl (fun g => by kernel_rfl) (fun g w => by kernel_rfl)) 
    (goes_cons (goesK_pure (fun g => .pointer (some ⟨b5, 16, none⟩)) rfl (by decide) (by decide) (by kernel_rfl) (fun g => by kernel_rfl) rfl (fun g => by kernel_rfl) (fun g w => by kernel_rfl)) 
    (goes_cons (goesK_cell hst (ahead_path [6, 5, 4, 3] (by kernel_rfl) (by decide)) rfl (by decide) (by decide) (by kernel_rfl) (fun g => by kernel_rfl) rfl (fun g => by kernel_rfl) rfl (fun g => by kernel_rfl) (fun W hW => HC.out W (k5.below hW k5.lt)) (fun w => by kernel_rfl)) 
    (goes_cons (goesK_know (.tuple #[.agg #[.nilFunc, .bool false], .bool false]) hst (ahead_path [6, 5, 4] (by kernel_rfl) (by decide)) rfl (by decide) (by decide) (by kernel_rfl) (fun g => by kernel_rfl) rfl (fun g => by kernel_rfl) (fun g w hW hin => know_look rfl rfl (by kernel_rfl) (hin 0 _ rfl (by kernel_rfl)) K0 K8 HV.out)) 
    (goes_cons (goesK_pure (fun g => .tuple #[.agg #[.nilFunc, .bool false], .bool false]) rfl (by decide) (by decide) (by kernel_rfl) (fun g => by kernel_rfl) rfl (fun g => by kernel_rfl) (fun g w => by kernel_rfl)) 
    (goes_cons (goesK_pure (fun g => .agg #[.nilFunc, .bool false]) rfl (by decide) (by decide) (by kernel_rfl) (fun g => by kernel_rfl) rfl (fun g => by kernel_rfl) (fun g w => by kernel_rfl)) 
    (goes_cons (goesK_pure (fun g => .bool false) rfl (by decide) (by decide) (by kernel_rfl) (fun g => by kernel_rfl) rfl (fun g => by kernel_rfl) (fun g w => by kernel_rfl)) 
    (goes_cons (goesK_new hst (ahead_path [8] (by kernel_rfl) (by decide)) rfl (by decide) (by decide) 1 rfl (by kernel_rfl) (fun g => by kernel_rfl) rfl (fun g => by kernel_rfl) (fun g w => by kernel_rfl)) 
    (goes_cons (goesK_put rfl rfl rfl (List.forall_mem_cons.2 ⟨⟨show (0 : Nat) ≠ 9 by decide, [6, 5, 4, 0], by kernel_rfl, show (0 : Nat) ∈ [6, 5, 4, 0] by decide⟩, List.forall_mem_cons.2 ⟨⟨show (8 : Nat) ≠ 9 by decide, [8], by kernel_rfl, show (8 : Nat) ∈ [8] by decide⟩, fun _ h => by cases h⟩⟩) 1 rfl (fun g => by kernel_rfl) rfl rfl (fun g => by kernel_rfl) (fun g => by kernel_rfl) rfl (by kernel_rfl) (by kernel_rfl)) 
    (goes_cons (goesK_pure (fun g => .bool false) rfl (by decide) (by decide) (by kernel_rfl) (fun g => by kernel_rfl) rfl (fun g => by kernel_rfl) (fun g w => by kernel_rfl)) goes_nil))))))))))) ?_
  rintro g _ w4 _ _ ⟨hb4, b6, g6, s6, k6⟩
  rw [g6]
  obtain ⟨G26, _⟩ : ∃ v, g 26 = v := ⟨_, rfl⟩
  clear g6 hst
  have hB4 := hB3.trans (hb4.mono hB3.size)
  have rb6 : w.heap.size + 1 + 1 < b6 := Nat.lt_of_lt_of_le kR.lt s6
  replace kR := kR.below hb4 kR.lt
  replace k5 := k5.below hb4 k5.lt
  clear hB3 hb4
  have cR : w4.cell? ⟨w.heap.size + 1 + 1, 0, none⟩ = some (.slice none 0 0) := kR.cell 0
  have fR := kR.frozen 0
  have kR' : Blk (w4.setCell ⟨w.heap.size + 1 + 1, 0, none⟩ (.slice none 0 0)) (w.heap.size + 1 + 1) 27 #[.slice none 0 0] := kR.set 0 _
  have hB6 : Below w.heap.size w (w4.setCell ⟨w.heap.size + 1 + 1, 0, none⟩ (.slice none 0 0)) := hB4.setCell (p := ⟨w.heap.size + 1 + 1, 0, none⟩) (by show w.heap.size ≤ w.heap.size + 1 + 1; omega) _
  go_wp2_with fail
  exact leaves_end (A := none) (n := 0) (c := 0) rfl kR' (outR_nil rm hB6)
set_option maxRecDepth 100000 in
set_option maxHeartbeats 8000000 in
theorem lkey_no (m : Mo) (k : Ky) (hs : k.text.size ≤ 4294967296) (h : mayK k = false ∨ k.typ = 3) (rm : Bool) (w : World) (hz : Siz w) (hR : Rws w) :
    Calls Tryz.prog 6 #[moV m, kyV k] w (OutR rm [] 0 w) := by
  obtain ⟨q, hq⟩ : ∃ q, mayK k = q := ⟨_, rfl⟩
  rw [hq] at h
  have HM : Hid (∀ W, Siz W → Rws W → Calls Tryz.prog 8 #[.agg #[.int .i64 k.code, .int .i64 k.mods, .int .i64 k.typ, .int .i64 k.shift, .int .i64 k.base, .string k.text]] W fun e w' => e = .returned (.bool q) ∧ Below W.heap.size W w') := Lib.hid fun W h1 h2 => by rw [← hq]; exact pmods_may k hs W h1 h2
  clear hq hs
  have b0 : Below w.heap.size w (w.alloc (.cells #[.bool m.cursor, .bool m.keypad, .bool m.back, .bool m.focus, .bool m.paste, .bool m.lock, .bool m.line, .int .i64 m.mouse, .int .i64 m.coding, .int .i64 m.other] 23)) := (Below.refl _ w).alloc (Nat.le_refl _) _
  have b1 := b0.alloc b0.size (.cells #[.int .i64 k.code, .int .i64 k.mods, .int .i64 k.typ, .int .i64 k.shift, .int .i64 k.base, .string k.text] 25)
  have hB := b1.alloc b1.size (.cells #[.slice none 0 0] 27)
  have kK := (Blk.new (w.alloc (.cells #[.bool m.cursor, .bool m.keypad, .bool m.back, .bool m.focus, .bool m.paste, .bool m.lock, .bool m.line, .int .i64 m.mouse, .int .i64 m.coding, .int .i64 m.other] 23)) 25 #[.int .i64 k.code, .int .i64 k.mods, .int .i64 k.typ, .int .i64 k.shift, .int .i64 k.base, .string k.text]).alloc (.cells #[.slice none 0 0] 27)
  have kR := Blk.new ((w.alloc (.cells #[.bool m.cursor, .bool m.keypad, .bool m.back, .bool m.focus, .bool m.paste, .bool m.lock, .bool m.line, .int .i64 m.mouse, .int .i64 m.coding, .int .i64 m.other] 23)).alloc (.cells #[.int .i64 k.code, .int .i64 k.mods, .int .i64 k.typ, .int .i64 k.shift, .int .i64 k.base, .string k.text] 25)) 27 #[.slice none 0 0]
  obtain ⟨W1, hW1⟩ : ∃ W1, ((w.alloc (.cells #[.bool m.cursor, .bool m.keypad, .bool m.back, .bool m.focus, .bool m.paste, .bool m.lock, .bool m.line, .int .i64 m.mouse, .int .i64 m.coding, .int .i64 m.other] 23)).alloc (.cells #[.int .i64 k.code, .int .i64 k.mods, .int .i64 k.typ, .int .i64 k.shift, .int .i64 k.base, .string k.text] 25)).alloc (.cells #[.slice none 0 0] 27) = W1 := ⟨_, rfl⟩
  rw [hW1] at hB kK kR
  simp only [World.size_alloc] at kK kR
  obtain ⟨a0, a1, a2, a3, a4, a5⟩ := Blk.cells6 kK
  rw [moV, kyV]
  go_enter_defers Tryz.func6, Tryz.ntmps6
  go_wp2_with fail
  refine (HM.out _ (hz.below' hB) (hR.below hB)).mono ?_
  rintro x w2 ⟨rfl, hb2⟩
  have hB2 := hB.trans (hb2.mono hB.size)
  replace kK := kK.below hb2 kK.lt
  replace kR := kR.below hb2 kR.lt
  clear hB hb2 a0 a1 a2 a3 a4 a5 HM hW1 b0 b1
  have a2 := kK.cell 2
  have cR : w2.cell? ⟨w.heap.size + 1 + 1, 0, none⟩ = some (.slice none 0 0) := kR.cell 0
  have fR := kR.frozen 0
  have kR' : Blk (w2.setCell ⟨w.heap.size + 1 + 1, 0, none⟩ (.slice none 0 0)) (w.heap.size + 1 + 1) 27 #[.slice none 0 0] := kR.set 0 _
  have hB6 : Below w.heap.size w (w2.setCell ⟨w.heap.size + 1 + 1, 0, none⟩ (.slice none 0 0)) := hB2.setCell (p := ⟨w.heap.size + 1 + 1, 0, none⟩) (by show w.heap.size ≤ w.heap.size + 1 + 1; omega) _
  cases q with
  | false =>
    clear h
    go_wp2_with fail
    exact leaves_end (A := none) (n := 0) (c := 0) rfl kR' (outR_nil rm hB6)
  | true =>
    have h3 : k.typ = 3 := h.resolve_left (by decide)
    have a2' : w2.cell? ⟨w.heap.size + 1, 2, none⟩ = some (.int .i64 3) := by rw [← h3]; exact a2
    clear a2 h
    go_wp2_with fail
    exact leaves_end (A := none) (n := 0) (c := 0) rfl kR' (outR_nil rm hB6)
end Go.Proofs.YtbjmfhcgkpjcfaaGreatDoor
