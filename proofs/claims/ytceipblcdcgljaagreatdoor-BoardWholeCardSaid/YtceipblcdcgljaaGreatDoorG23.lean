/-
  Stage 11, the landed legacy: Key.
-/
import Derived.Test.YtceipblcdcgljaaGreatDoorG12
import Derived.Test.YtceipblcdcgljaaGreatDoorG13
import Derived.Test.YtceipblcdcgljaaGreatDoorG14
import Derived.Test.YtceipblcdcgljaaGreatDoorG15
import Derived.Test.YtceipblcdcgljaaGreatDoorG22
import Derived.Deep.Cut
namespace Go.Proofs.YtceipblcdcgljaaGreatDoor
open Go.RowKit
def OutR (rm : Bool) (L : List UInt8) (n : Nat) (w : World) (e : Ending) (w' : World) : Prop := ∃ A c, e = .returned (.slice A n c) ∧ (rm = true → n ≤ c) ∧ Rd w' A (bs L) ∧ Below w.heap.size w w'
theorem outR_C {L : List UInt8} {n : Nat} (hn : L.length = n) {P : Program} {f : FuncId} {args : Array Value} {w : World} (h : Calls P f args w (OutC L w)) : Calls P f args w (OutR true L n w) := by
 subst hn
 exact h.mono fun e w' ⟨A, c, he, hc, hr, hb⟩ => ⟨A, c, he, fun _ => hc, hr, hb⟩
theorem outR_O {L : List UInt8} {n : Nat} (hn : L.length = n) {P : Program} {f : FuncId} {args : Array Value} {w : World} (h : Calls P f args w (Out L w)) : Calls P f args w (OutR false L n w) := by
 subst hn
 exact h.mono fun e w' ⟨A, c, he, hr, hb⟩ => ⟨A, c, he, (fun h => by cases h), hr, hb⟩
theorem lforms_ok (w1 : World) (i : Nat) (d : Tmp) : (⟨i, d, fun v w => LFormsE w1 v w⟩ : Fact).ok := fun v w w' ⟨b, n, he, h, hs⟩ hb => ⟨b, n, he, by
 obtain ⟨es, clock, h1, h2, h3, h4⟩ := h
 exact ⟨es, clock, (hb.block b (Array.getElem?_eq_some_iff.1 h1).1).trans h1, h2, h3, h4⟩, hs⟩
theorem look_rng (c : Int) : 0 ≤ (lookE c).kind ∧ (lookE c).kind < 8 := by
 by_cases h : c < 57344 ∨ 57455 ≤ c
 ·rw [look_out h]
  have := rest_rng c
  show 0 ≤ _ ∧ _
  simp only
  omega
 ·obtain ⟨k, rfl⟩ : ∃ k : Fin 111, c = 57344 + k.1 := ⟨⟨(c - 57344).toNat, by omega⟩, by simp; omega⟩
  have : ∀ k : Fin 111, 0 ≤ (lookE (57344 + (k.1 : Int))).kind ∧ (lookE (57344 + (k.1 : Int))).kind < 8 := by decide +kernel
  exact this k
theorem leaves_end {w : World} {r : Nat} {A : Option Addr} {n c : Nat} {tmps : Array Value} {R : Ending → World → Prop} (hr : tmps[4]? = some (.pointer (some ⟨r, 0, none⟩))) (h : Blk w r 27 #[.slice A n c]) (hR : R (.returned (.slice A n c)) w) : Leaves Tryz.prog Tryz.f35 tmps R [] .returning w := by
 have hc : w.cell? ⟨r, 0, none⟩ = some (.slice A n c) := h.cell 0
 exact ⟨_, by simp [results, Tryz.results35, go_sem, hr, hc], hR⟩
theorem rd_off_slice {w : World} {A B : Option Addr} {L : List UInt8} {g n c m d : Nat} (h : Rd w A (bs L)) (hk : Blk w g 27 #[.slice B m d]) : Rd (w.setCell ⟨g, 0, none⟩ (.slice A n c)) A (bs L) := fun hp => by
 obtain ⟨b, o, rfl, hb, hc⟩ := h hp
 refine ⟨b, o, rfl, by simpa using hb, fun i u hu => ?_⟩
 have hi := hc i u hu
 by_cases e : b = g
 ·subst e
  exfalso
  rw [hk.cell] at hi
  obtain ⟨x, _, rfl⟩ : ∃ x, L[i]? = some x ∧ B8 x = u := by rw [bs, List.getElem?_map, Option.map_eq_some_iff] at hu; exact hu
  match hq : o + i with
  | 0 => rw [hq] at hi; simp [B8] at hi
  | q + 1 => rw [hq] at hi; simp at hi
 ·rw [World.cell?_setCell_other _ _ _ _ (by simp)]
  exact hi
theorem know_look {w w3 : World} {x y : Operand} {v : Value} {k : Int} {q : Bool} {ev : Operand → Value} {o : Oper} {V : Value} (ho : o.op = .lookup 111 x y true) (hx : ev x = v) (hy : ev y = .int .i64 k) (h : LFormsE w3 v w) (h0 : 0 ≤ k) (h1 : k < 8) (hv : lformAt k = (V, q)) : (execOp ev o).run Tryz.prog w = .ok (.value (.tuple #[V, .bool q])) w := by
 obtain ⟨bm, nm, rfl, hown, _⟩ := h
 have hl := lforms_look hown h0 h1 hv
 unfold execOp
 simp only [ho, hx, hy, Sem.run_bind, hl, Result.andThen_ok, Sem.run_pure]
def OutA (al : Bool) (rm : Bool) (L : List UInt8) (n : Nat) (w : World) (e : Ending) (w' : World) : Prop := if al = true then OutR false (27 :: L) (n + 1) w e w' else OutR rm L n w e w'
set_option maxRecDepth 100000 in
set_option maxHeartbeats 32000000 in
theorem lkey_form (m : Mo) (k : Ky) (hk : okK k) (hs : k.text.size ≤ 4294967296) (hm : mayK k = true) (h3 : k.typ ≠ 3) (e : En) (o : Int) (he : lookE k.code = e) (ho : oldN k.mods = o) (K : Int) (hK : e.kind = K) (hK8 : 0 ≤ K ∧ K < 8) (F : FuncId) (alt q : Bool) (hV : lformAt K = (.agg #[.func (.func F) #[] #[], .bool alt], true)) (hF : F = 115 ∨ F = 116 ∨ F = 117 ∨ F = 118 ∨ F = 119) (hq : (bits .and .i64 o 2 != 0) = q) (rm : Bool) (L : List UInt8) (n : Nat) (hn : (alt && q) = true → L.length = n ∧ n ≤ 17179869184) (w : World) {Inv : World → Prop} (hI : ∀ W, Below w.heap.size w W → Inv W)
 (hS : ∀ W, Inv W → Calls Tryz.prog F #[.agg (evC m k e o)] W (OutR rm L n W)) (hz : Siz w) (hR : Rws w) :
 Calls Tryz.prog 35 #[moV m, kyV k] w (OutA (alt && q) rm L n w) := by
 have HS := Lib.hid hS
 have HI := Lib.hid hI
 have HV := Lib.hid hV
 have HK := Lib.hid hK8
 have HF := Lib.hid hF
 have HN := Lib.hid hn
 have HC : Hid (∀ W {b : Nat}, Blk W b 106 (evC m k e o) → W.cell? ⟨b, 16, none⟩ = some (.int .i64 K)) := Lib.hid fun W b h => by rw [← hK]; exact (ev_ent h).1
 clear hS hI hV hK8 hF hn
 have HM : Hid (∀ W, Siz W → Rws W → Calls Tryz.prog 66 #[.agg #[.int .i64 k.code, .int .i64 k.mods, .int .i64 k.typ, .int .i64 k.shift, .int .i64 k.base, .string k.text]] W fun e w' => e = .returned (.bool true) ∧ Below W.heap.size W w') := Lib.hid fun W h1 h2 => by rw [← hm]; exact pmods_may k hs W h1 h2
 have HO : Hid (∀ W, Calls Tryz.prog 77 #[.int .i64 k.mods] W fun e w' => e = .returned (.int .i64 o) ∧ Below W.heap.size W w') := Lib.hid fun W => by rw [← ho]; exact pold_any k.mods W hk.mods
 have HL : Hid (∀ W, Siz W → Rws W → Calls Tryz.prog 15 #[.int .i64 k.code] W fun x w' => x = .returned (.agg #[.int .i64 e.kind, .int .u8 e.fin, .int .i64 e.num, .int .i64 e.char, .bool e.keys]) ∧ Below W.heap.size W w') := Lib.hid fun W h1 h2 => by have := plook_any k.code W h1 h2; rw [he] at this; exact this
 have t3 : (k.typ == 3) = false := beq_false_of_ne h3
 have b0 : Below w.heap.size w (w.alloc (.cells #[.bool m.cursor, .bool m.keypad, .bool m.back, .bool m.focus, .bool m.paste, .bool m.lock, .bool m.line, .int .i64 m.mouse, .int .i64 m.coding, .int .i64 m.other] 23)) := (Below.refl _ w).alloc (Nat.le_refl _) _
 have b1 := b0.alloc b0.size (.cells #[.int .i64 k.code, .int .i64 k.mods, .int .i64 k.typ, .int .i64 k.shift, .int .i64 k.base, .string k.text] 25)
 have hB := b1.alloc b1.size (.cells #[.slice none 0 0] 27)
 have kM := ((Blk.new w 23 #[.bool m.cursor, .bool m.keypad, .bool m.back, .bool m.focus, .bool m.paste, .bool m.lock, .bool m.line, .int .i64 m.mouse, .int .i64 m.coding, .int .i64 m.other]).alloc (.cells #[.int .i64 k.code, .int .i64 k.mods, .int .i64 k.typ, .int .i64 k.shift, .int .i64 k.base, .string k.text] 25)).alloc (.cells #[.slice none 0 0] 27)
 have kK := (Blk.new (w.alloc (.cells #[.bool m.cursor, .bool m.keypad, .bool m.back, .bool m.focus, .bool m.paste, .bool m.lock, .bool m.line, .int .i64 m.mouse, .int .i64 m.coding, .int .i64 m.other] 23)) 25 #[.int .i64 k.code, .int .i64 k.mods, .int .i64 k.typ, .int .i64 k.shift, .int .i64 k.base, .string k.text]).alloc (.cells #[.slice none 0 0] 27)
 have kR := Blk.new ((w.alloc (.cells #[.bool m.cursor, .bool m.keypad, .bool m.back, .bool m.focus, .bool m.paste, .bool m.lock, .bool m.line, .int .i64 m.mouse, .int .i64 m.coding, .int .i64 m.other] 23)).alloc (.cells #[.int .i64 k.code, .int .i64 k.mods, .int .i64 k.typ, .int .i64 k.shift, .int .i64 k.base, .string k.text] 25)) 27 #[.slice none 0 0]
 obtain ⟨W1, hW1⟩ : ∃ W1, ((w.alloc (.cells #[.bool m.cursor, .bool m.keypad, .bool m.back, .bool m.focus, .bool m.paste, .bool m.lock, .bool m.line, .int .i64 m.mouse, .int .i64 m.coding, .int .i64 m.other] 23)).alloc (.cells #[.int .i64 k.code, .int .i64 k.mods, .int .i64 k.typ, .int .i64 k.shift, .int .i64 k.base, .string k.text] 25)).alloc (.cells #[.slice none 0 0] 27) = W1 := ⟨_, rfl⟩
 rw [hW1] at hB kM kK kR
 simp only [World.size_alloc] at kM kK kR
 obtain ⟨a0, a1, a2, a3, a4, a5⟩ := Blk.cells6 kK
 rw [moV, kyV]
 go_enter_defers Tryz.func35, Tryz.ntmps35
 go_wp2_with fail
 refine (HM.out _ (hz.below' hB) (hR.below hB)).mono ?_
 rintro x w2 ⟨rfl, hb2⟩
 have hB2 := hB.trans (hb2.mono hB.size)
 replace kM := kM.below hb2 kM.lt
 replace kK := kK.below hb2 kK.lt
 replace kR := kR.below hb2 kR.lt
 clear hB hb2 a0 a1 a2 a3 a4 a5 HM hW1 b0 b1
 obtain ⟨a0, a1, a2, a3, a4, a5⟩ := Blk.cells6 kK
 go_upto_region 3 with (fail)
 have hst : ∀ f ∈ [(⟨9, 5, FNew w2 106 #[.bool false, .bool false, .bool false, .bool false, .bool false, .bool false, .bool false, .int .i64 0, .int .i64 0, .int .i64 0, .int .i64 0, .int .i64 0, .int .i64 0, .int .i64 0, .int .i64 0, .string ⟨#[]⟩, .int .i64 0, .int .u8 0, .int .i64 0, .int .i64 0, .bool false, .int .i64 0]⟩ : Fact)], f.ok := fun f hf => by rw [List.mem_singleton] at hf; subst hf; exact fnew_ok _ _ _ _ _
 refine wp_region_last (w1 := w2) (K := [⟨9, 5, FNew w2 106 #[.bool false, .bool false, .bool false, .bool false, .bool false, .bool false, .bool false, .int .i64 0, .int .i64 0, .int .i64 0, .int .i64 0, .int .i64 0, .int .i64 0, .int .i64 0, .int .i64 0, .string ⟨#[]⟩, .int .i64 0, .int .u8 0, .int .i64 0, .int .i64 0, .bool false, .int .i64 0]⟩]) (ix := 10) (iz := 10) (R0 := fun _ _ _ => True) (R1 := fun g _ w => Below w2.heap.size w2 w ∧ FNew w2 106 (evC m k e o) (g 5) w) [5] (⟨#[.agg #[.bool m.cursor, .bool m.keypad, .bool m.back, .bool m.focus, .bool m.paste, .bool m.lock, .bool m.line, .int .i64 m.mouse, .int .i64 m.coding, .int .i64 m.other], .agg #[.int .i64 k.code, .int .i64 k.mods, .int .i64 k.typ, .int .i64 k.shift, .int .i64 k.base, .string k.text], .pointer (some ⟨w.heap.size, 0, none⟩), .pointer (some ⟨w.heap.size + 1, 0, none⟩), .pointer (some ⟨w.heap.size + 1 + 1, 0, none⟩), undef, undef, undef, .agg #[.int .i64 k.code, .int .i64 k.mods, .int .i64 k.typ, .int .i64 k.shift, .int .i64 k.base, .string k.text], .bool true, .bool false, .bool false, .pointer (some ⟨w.heap.size + 1, 2, none⟩), .int .i64 k.typ, .bool false, .bool false, .agg #[.bool m.cursor, .bool m.keypad, .bool m.back, .bool m.focus, .bool m.paste, .bool m.lock, .bool m.line, .int .i64 m.mouse, .int .i64 m.coding, .int .i64 m.other], .agg #[.int .i64 k.code, .int .i64 k.mods, .int .i64 k.typ, .int .i64 k.shift, .int .i64 k.base, .string k.text], .pointer (some ⟨w.heap.size + 1, 0, none⟩), .int .i64 k.code, .agg #[.int .i64 e.kind, .int .u8 e.fin, .int .i64 e.num, .int .i64 e.char, .bool e.keys], .pointer (some ⟨w.heap.size + 1, 1, none⟩), .int .i64 k.mods, .int .i64 o, .agg (evC m k e o), undef, undef, undef, undef, undef, undef, undef, undef, undef, undef, undef, undef, undef, undef, undef], []⟩) (fun g => ⟨#[.agg #[.bool m.cursor, .bool m.keypad, .bool m.back, .bool m.focus, .bool m.paste, .bool m.lock, .bool m.line, .int .i64 m.mouse, .int .i64 m.coding, .int .i64 m.other], .agg #[.int .i64 k.code, .int .i64 k.mods, .int .i64 k.typ, .int .i64 k.shift, .int .i64 k.base, .string k.text], .pointer (some ⟨w.heap.size, 0, none⟩), .pointer (some ⟨w.heap.size + 1, 0, none⟩), .pointer (some ⟨w.heap.size + 1 + 1, 0, none⟩), (g 5), undef, undef, .agg #[.int .i64 k.code, .int .i64 k.mods, .int .i64 k.typ, .int .i64 k.shift, .int .i64 k.base, .string k.text], .bool true, .bool false, .bool false, .pointer (some ⟨w.heap.size + 1, 2, none⟩), .int .i64 k.typ, .bool false, .bool false, .agg #[.bool m.cursor, .bool m.keypad, .bool m.back, .bool m.focus, .bool m.paste, .bool m.lock, .bool m.line, .int .i64 m.mouse, .int .i64 m.coding, .int .i64 m.other], .agg #[.int .i64 k.code, .int .i64 k.mods, .int .i64 k.typ, .int .i64 k.shift, .int .i64 k.base, .string k.text], .pointer (some ⟨w.heap.size + 1, 0, none⟩), .int .i64 k.code, .agg #[.int .i64 e.kind, .int .u8 e.fin, .int .i64 e.num, .int .i64 e.char, .bool e.keys], .pointer (some ⟨w.heap.size + 1, 1, none⟩), .int .i64 k.mods, .int .i64 o, .agg (evC m k e o), undef, undef, undef, undef, undef, undef, undef, undef, undef, undef, undef, undef, undef, undef, undef], []⟩) [.agg #[.bool m.cursor, .bool m.keypad, .bool m.back, .bool m.focus, .bool m.paste, .bool m.lock, .bool m.line, .int .i64 m.mouse, .int .i64 m.coding, .int .i64 m.other], .agg #[.int .i64 k.code, .int .i64 k.mods, .int .i64 k.typ, .int .i64 k.shift, .int .i64 k.base, .string k.text], .pointer (some ⟨w.heap.size + 1, 0, none⟩), .int .i64 k.code, .agg #[.int .i64 e.kind, .int .u8 e.fin, .int .i64 e.num, .int .i64 e.char, .bool e.keys], .pointer (some ⟨w.heap.size + 1, 1, none⟩), .int .i64 k.mods, .int .i64 o, .agg (evC m k e o), undef, undef] (by kernel_rfl) (by kernel_rfl) (by kernel_rfl) (fun g => by kernel_rfl) (by kernel_rfl) (Below.refl _ _).drew (by decide)
  (goes_cons (gkL hst (fun W hW => kM.below hW kM.lt) Tryz.underlying23 (hah := ahead_path [8, 0] (by kernel_rfl) (by decide)))
  (goes_cons (gkL hst (fun W hW => kK.below hW kK.lt) Tryz.underlying25 (hah := ahead_path [8, 1] (by kernel_rfl) (by decide)))
  (goes_cons (gkP (fun g => .pointer (some ⟨w.heap.size + 1, 0, none⟩)))
  (goes_cons (gkC hst (fun W hW => (kK.below hW kK.lt).cell 0) (hah := ahead_path [8, 4, 3] (by kernel_rfl) (by decide)))
  (goes_cons (gkK (fun g => #[.int .i64 k.code]) hst (fun g W hW hin => HL.out W (hz.below' (hB2.trans (hW.mono hB2.size))) (hR.below (hB2.trans (hW.mono hB2.size)))) (hah := ahead_path [8, 4] (by kernel_rfl) (by decide)))
  (goes_cons (gkP (fun g => .pointer (some ⟨w.heap.size + 1, 1, none⟩)))
  (goes_cons (gkC hst (fun W hW => (kK.below hW kK.lt).cell 1) (hah := ahead_path [8, 7, 6] (by kernel_rfl) (by decide)))
  (goes_cons (gkK (fun g => #[.int .i64 k.mods]) hst (fun g W hW hin => HO.out W) (hah := ahead_path [8, 7] (by kernel_rfl) (by decide)))
  (goes_cons (gkP (fun g => .agg (evC m k e o)))
  (goes_cons (goesK_new hst (ahead_path [9] (by kernel_rfl) (by decide)) rfl (by decide) (by decide) 0 rfl (by kernel_rfl) (fun g => by kernel_rfl) rfl (fun g => by kernel_rfl) (fun g w => by kernel_rfl))
  (goes_cons (goesP_put rfl rfl rfl (fun f hf => by rw [List.mem_singleton] at hf; subst hf; exact ⟨show (9 : Nat) ≠ 10 by decide, [9], by kernel_rfl, show (9 : Nat) ∈ [9] by decide⟩) 0 rfl (fun g => by kernel_rfl) rfl rfl (fun g => by kernel_rfl) (fun g => by kernel_rfl) rfl (by kernel_rfl) (by kernel_rfl)) goes_nil))))))))))) ?_
 rintro g _ w3 _ _ ⟨hb3, b5, g5, s5, k5⟩
 rw [g5]
 clear g5 hst
 have hB3 := hB2.trans (hb3.mono hB2.size)
 have s5w : w.heap.size ≤ b5 := Nat.le_trans hB2.size s5
 have rb5 : w.heap.size + 1 + 1 < b5 := Nat.lt_of_lt_of_le kR.lt s5
 replace kR := kR.below hb3 kR.lt
 clear hB2 hb3 kM kK a0 a1 a2 a3 a4 a5 HO HL
 go_upto_region 4 with (fail)
 have hst : ∀ f ∈ [(⟨0, 26, fun v w => LFormsE w3 v w⟩ : Fact), ⟨8, 6, FNew w3 109 #[.nilFunc, .bool false]⟩], f.ok := List.forall_mem_cons.2 ⟨lforms_ok _ _ _, List.forall_mem_cons.2 ⟨fnew_ok _ _ _ _ _, fun _ h => by cases h⟩⟩
 refine wp_region_last (w1 := w3) (K := [⟨0, 26, fun v w => LFormsE w3 v w⟩, ⟨8, 6, FNew w3 109 #[.nilFunc, .bool false]⟩]) (ix := 9) (iz := 9) (R0 := fun _ _ _ => True) (R1 := fun g _ w => Below w3.heap.size w3 w ∧ FNew w3 109 #[.func (.func F) #[] #[], .bool alt] (g 6) w) [26, 6] (⟨#[.agg #[.bool m.cursor, .bool m.keypad, .bool m.back, .bool m.focus, .bool m.paste, .bool m.lock, .bool m.line, .int .i64 m.mouse, .int .i64 m.coding, .int .i64 m.other], .agg #[.int .i64 k.code, .int .i64 k.mods, .int .i64 k.typ, .int .i64 k.shift, .int .i64 k.base, .string k.text], .pointer (some ⟨w.heap.size, 0, none⟩), .pointer (some ⟨w.heap.size + 1, 0, none⟩), .pointer (some ⟨w.heap.size + 1 + 1, 0, none⟩), .pointer (some ⟨b5, 0, none⟩), undef, .bool true, .agg #[.int .i64 k.code, .int .i64 k.mods, .int .i64 k.typ, .int .i64 k.shift, .int .i64 k.base, .string k.text], .bool true, .bool false, .bool false, .pointer (some ⟨w.heap.size + 1, 2, none⟩), .int .i64 k.typ, .bool false, .bool false, .agg #[.bool m.cursor, .bool m.keypad, .bool m.back, .bool m.focus, .bool m.paste, .bool m.lock, .bool m.line, .int .i64 m.mouse, .int .i64 m.coding, .int .i64 m.other], .agg #[.int .i64 k.code, .int .i64 k.mods, .int .i64 k.typ, .int .i64 k.shift, .int .i64 k.base, .string k.text], .pointer (some ⟨w.heap.size + 1, 0, none⟩), .int .i64 k.code, .agg #[.int .i64 e.kind, .int .u8 e.fin, .int .i64 e.num, .int .i64 e.char, .bool e.keys], .pointer (some ⟨w.heap.size + 1, 1, none⟩), .int .i64 k.mods, .int .i64 o, .agg (evC m k e o), .tuple #[.agg #[.func (.func F) #[] #[], .bool alt], .bool true], undef, .pointer (some ⟨b5, 16, none⟩), .pointer (some ⟨b5, 16, none⟩), .int .i64 K, .tuple #[.agg #[.func (.func F) #[] #[], .bool alt], .bool true], .agg #[.func (.func F) #[] #[], .bool alt], .bool true, undef, undef, undef, undef, undef, undef, undef], []⟩) (fun g => ⟨#[.agg #[.bool m.cursor, .bool m.keypad, .bool m.back, .bool m.focus, .bool m.paste, .bool m.lock, .bool m.line, .int .i64 m.mouse, .int .i64 m.coding, .int .i64 m.other], .agg #[.int .i64 k.code, .int .i64 k.mods, .int .i64 k.typ, .int .i64 k.shift, .int .i64 k.base, .string k.text], .pointer (some ⟨w.heap.size, 0, none⟩), .pointer (some ⟨w.heap.size + 1, 0, none⟩), .pointer (some ⟨w.heap.size + 1 + 1, 0, none⟩), .pointer (some ⟨b5, 0, none⟩), (g 6), .bool true, .agg #[.int .i64 k.code, .int .i64 k.mods, .int .i64 k.typ, .int .i64 k.shift, .int .i64 k.base, .string k.text], .bool true, .bool false, .bool false, .pointer (some ⟨w.heap.size + 1, 2, none⟩), .int .i64 k.typ, .bool false, .bool false, .agg #[.bool m.cursor, .bool m.keypad, .bool m.back, .bool m.focus, .bool m.paste, .bool m.lock, .bool m.line, .int .i64 m.mouse, .int .i64 m.coding, .int .i64 m.other], .agg #[.int .i64 k.code, .int .i64 k.mods, .int .i64 k.typ, .int .i64 k.shift, .int .i64 k.base, .string k.text], .pointer (some ⟨w.heap.size + 1, 0, none⟩), .int .i64 k.code, .agg #[.int .i64 e.kind, .int .u8 e.fin, .int .i64 e.num, .int .i64 e.char, .bool e.keys], .pointer (some ⟨w.heap.size + 1, 1, none⟩), .int .i64 k.mods, .int .i64 o, .agg (evC m k e o), .tuple #[.agg #[.func (.func F) #[] #[], .bool alt], .bool true], (g 26), .pointer (some ⟨b5, 16, none⟩), .pointer (some ⟨b5, 16, none⟩), .int .i64 K, .tuple #[.agg #[.func (.func F) #[] #[], .bool alt], .bool true], .agg #[.func (.func F) #[] #[], .bool alt], .bool true, undef, undef, undef, undef, undef, undef, undef], []⟩) [undef, .pointer (some ⟨b5, 16, none⟩), .pointer (some ⟨b5, 16, none⟩), .int .i64 K, .tuple #[.agg #[.func (.func F) #[] #[], .bool alt], .bool true], .tuple #[.agg #[.func (.func F) #[] #[], .bool alt], .bool true], .agg #[.func (.func F) #[] #[], .bool alt], .bool true, undef, undef, .bool true] (by kernel_rfl) (by kernel_rfl) (by kernel_rfl) (fun g => by kernel_rfl) (by kernel_rfl) (Below.refl _ _).drew (by decide)
  (goes_cons (gkG (fun g => #[]) hst 0 (fun g W hW hin => lforms_in hW.size) (hah := ahead_path [6, 5, 4, 0] (by kernel_rfl) (by decide)))
  (goes_cons (gkP (fun g => .pointer (some ⟨b5, 16, none⟩)))
  (goes_cons (gkP (fun g => .pointer (some ⟨b5, 16, none⟩)))
  (goes_cons (gkC hst (fun W hW => HC.out W (k5.below hW k5.lt)) (hah := ahead_path [6, 5, 4, 3] (by kernel_rfl) (by decide)))
  (goes_cons (goesK_know (.tuple #[.agg #[.func (.func F) #[] #[], .bool alt], .bool true]) hst (ahead_path [6, 5, 4] (by kernel_rfl) (by decide)) rfl (by decide) (by decide) (by kernel_rfl) (fun g => by kernel_rfl) rfl (fun g => by kernel_rfl) (fun g w hW hin => know_look rfl rfl (by kernel_rfl) (hin 0 _ rfl (by kernel_rfl)) HK.out.1 HK.out.2 HV.out))
  (goes_cons (gkP (fun g => .tuple #[.agg #[.func (.func F) #[] #[], .bool alt], .bool true]))
  (goes_cons (gkP (fun g => .agg #[.func (.func F) #[] #[], .bool alt]))
  (goes_cons (gkP (fun g => .bool true))
  (goes_cons (goesK_new hst (ahead_path [8] (by kernel_rfl) (by decide)) rfl (by decide) (by decide) 1 rfl (by kernel_rfl) (fun g => by kernel_rfl) rfl (fun g => by kernel_rfl) (fun g w => by kernel_rfl))
  (goes_cons (goesP_put rfl rfl rfl (List.forall_mem_cons.2 ⟨⟨show (0 : Nat) ≠ 9 by decide, [6, 5, 4, 0], by kernel_rfl, show (0 : Nat) ∈ [6, 5, 4, 0] by decide⟩, List.forall_mem_cons.2 ⟨⟨show (8 : Nat) ≠ 9 by decide, [8], by kernel_rfl, show (8 : Nat) ∈ [8] by decide⟩, fun _ h => by cases h⟩⟩) 1 rfl (fun g => by kernel_rfl) rfl rfl (fun g => by kernel_rfl) (fun g => by kernel_rfl) rfl (by kernel_rfl) (by kernel_rfl))
  (goes_cons (gkP (fun g => .bool true)) goes_nil))))))))))) ?_
 rintro g _ w4 _ _ ⟨hb4, b6, g6, s6, k6⟩
 rw [g6]
 obtain ⟨G26, _⟩ : ∃ v, g 26 = v := ⟨_, rfl⟩
 clear g6 hst
 have hB4 := hB3.trans (hb4.mono hB3.size)
 have rb6 : w.heap.size + 1 + 1 < b6 := Nat.lt_of_lt_of_le kR.lt s6
 replace kR := kR.below hb4 kR.lt
 replace k5 := k5.below hb4 k5.lt
 clear hB3 hb4
 have c0 := k6.cell 0
 have hmf : ∀ (fn : Fn) (first cap : Array Value) (w : World), (Instr.makeFunc fn first cap).run Tryz.prog w = .ok (.func fn first cap) w := fun _ _ _ _ => rfl
 have HF2 := HF.out
 clear HF HV HC HK
 rcases HF2 with rfl | rfl | rfl | rfl | rfl <;>
 ·go_wp2_with (with_reducible refine Blk.wp_get k5 Tryz.underlying106 rfl (by kernel_rfl) rfl (.tmp 5) rfl rfl ?_)
  refine (HS.out _ (HI.out _ hB4)).mono ?_
  rintro x w5 ⟨A5, c5, rfl, hc5, hr5, hb5⟩
  have hB5 := hB4.trans (hb5.mono hB4.size)
  replace kR := kR.below hb5 kR.lt
  replace k5 := k5.below hb5 k5.lt
  replace k6 := k6.below hb5 k6.lt
  clear hB4 hb5 c0
  have cR : w5.cell? ⟨w.heap.size + 1 + 1, 0, none⟩ = some (.slice none 0 0) := kR.cell 0
  have fR := kR.frozen 0
  have r6 : Rd (w5.setCell ⟨w.heap.size + 1 + 1, 0, none⟩ (.slice A5 n c5)) A5 (bs L) := (rd_off_slice hr5 kR)
  have k6' := k6.far (a := ⟨w.heap.size + 1 + 1, 0, none⟩) (by show b6 ≠ w.heap.size + 1 + 1; omega) (.slice A5 n c5)
  have k5' := k5.far (a := ⟨w.heap.size + 1 + 1, 0, none⟩) (by show b5 ≠ w.heap.size + 1 + 1; omega) (.slice A5 n c5)
  have kR' : Blk (w5.setCell ⟨w.heap.size + 1 + 1, 0, none⟩ (.slice A5 n c5)) (w.heap.size + 1 + 1) 27 #[.slice A5 n c5] := kR.set 0 _
  have hB6 : Below w.heap.size w (w5.setCell ⟨w.heap.size + 1 + 1, 0, none⟩ (.slice A5 n c5)) := hB5.setCell (p := ⟨w.heap.size + 1 + 1, 0, none⟩) (by show w.heap.size ≤ w.heap.size + 1 + 1; omega) _
  go_wp2_with fail
  refine leaves_cons (f := 79) (args := #[.pointer (some ⟨b6, 0, none⟩), .pointer (some ⟨b5, 0, none⟩), .pointer (some ⟨w.heap.size + 1 + 1, 0, none⟩)]) (by simp) (by simp [go_sem]) ?_
  cases alt with
  | false =>
    refine (lclo_no b6 b5 (w.heap.size + 1 + 1) _ _ k6').mono ?_
    rintro x u w7 ⟨rfl, rfl, rfl⟩
    have cR' := kR'.cell 0
    refine leaves_end (A := A5) (n := n) (c := c5) rfl kR' ?_
    exact ⟨A5, c5, rfl, hc5, r6, hB6⟩
  | true =>
    cases q with
    | false =>
      refine (lclo_off b6 b5 (w.heap.size + 1 + 1) _ m k e o hq _ k6' k5').mono ?_
      rintro x u w7 ⟨rfl, rfl, hb7⟩
      refine leaves_end (A := A5) (n := n) (c := c5) rfl (kR'.below hb7 kR'.lt) ?_
      exact ⟨A5, c5, rfl, hc5, r6.below hb7, hB6.trans (hb7.mono hB6.size)⟩
    | true =>
      have hn := Lib.hid (HN.out rfl).1
      have hl := (HN.out rfl).2
      refine (lclo_on b6 b5 (w.heap.size + 1 + 1) w.heap.size _ m k e o hq A5 L n c5 hn.out hl w _ k6' k5' kR' r6 hB6 (by omega)).mono ?_
      rintro x u w7 ⟨rfl, rfl, A7, c7, k7, r7, hb7⟩
      refine leaves_end (A := A7) (n := n + 1) (c := c7) rfl k7 ?_
      exact ⟨A7, c7, rfl, (fun h => by cases h), r7, hb7⟩
theorem lkey_text_on (m : Mo) (k : Ky) (hk : okK k) (hs : k.text.size ≤ 4294967296) (hm : mayK k = true) (h3 : k.typ ≠ 3) (e : En) (o : Int) (he : lookE k.code = e) (ho : oldN k.mods = o) (hK : e.kind = 1) (hq : (bits .and .i64 o 2 != 0) = true) (rm : Bool) (L : List UInt8) (n : Nat) (hn : L.length = n) (hl : n ≤ 17179869184) (w : World) {Inv : World → Prop} (hI : ∀ W, Below w.heap.size w W → Inv W)
 (hS : ∀ W, Inv W → Calls Tryz.prog 115 #[.agg (evC m k e o)] W (OutR rm L n W)) (hz : Siz w) (hR : Rws w) :
 Calls Tryz.prog 35 #[moV m, kyV k] w (OutR false (27 :: L) (n + 1) w) :=
 lkey_form m k hk hs hm h3 e o he ho 1 hK (by decide) _ true true rfl (by simp) hq rm L n (fun _ => ⟨hn, hl⟩) w hI hS hz hR
theorem lkey_text_off (m : Mo) (k : Ky) (hk : okK k) (hs : k.text.size ≤ 4294967296) (hm : mayK k = true) (h3 : k.typ ≠ 3) (e : En) (o : Int) (he : lookE k.code = e) (ho : oldN k.mods = o) (hK : e.kind = 1) (hq : (bits .and .i64 o 2 != 0) = false) (rm : Bool) (L : List UInt8) (n : Nat) (w : World) {Inv : World → Prop} (hI : ∀ W, Below w.heap.size w W → Inv W)
 (hS : ∀ W, Inv W → Calls Tryz.prog 115 #[.agg (evC m k e o)] W (OutR rm L n W)) (hz : Siz w) (hR : Rws w) :
 Calls Tryz.prog 35 #[moV m, kyV k] w (OutR rm L n w) :=
 lkey_form m k hk hs hm h3 e o he ho 1 hK (by decide) _ true false rfl (by simp) hq rm L n (fun h => by cases h) w hI hS hz hR
theorem lkey_plain_on (m : Mo) (k : Ky) (hk : okK k) (hs : k.text.size ≤ 4294967296) (hm : mayK k = true) (h3 : k.typ ≠ 3) (e : En) (o : Int) (he : lookE k.code = e) (ho : oldN k.mods = o) (hK : e.kind = 2) (hq : (bits .and .i64 o 2 != 0) = true) (rm : Bool) (L : List UInt8) (n : Nat) (hn : L.length = n) (hl : n ≤ 17179869184) (w : World) {Inv : World → Prop} (hI : ∀ W, Below w.heap.size w W → Inv W)
 (hS : ∀ W, Inv W → Calls Tryz.prog 116 #[.agg (evC m k e o)] W (OutR rm L n W)) (hz : Siz w) (hR : Rws w) :
 Calls Tryz.prog 35 #[moV m, kyV k] w (OutR false (27 :: L) (n + 1) w) :=
 lkey_form m k hk hs hm h3 e o he ho 2 hK (by decide) _ true true rfl (by simp) hq rm L n (fun _ => ⟨hn, hl⟩) w hI hS hz hR
theorem lkey_plain_off (m : Mo) (k : Ky) (hk : okK k) (hs : k.text.size ≤ 4294967296) (hm : mayK k = true) (h3 : k.typ ≠ 3) (e : En) (o : Int) (he : lookE k.code = e) (ho : oldN k.mods = o) (hK : e.kind = 2) (hq : (bits .and .i64 o 2 != 0) = false) (rm : Bool) (L : List UInt8) (n : Nat) (w : World) {Inv : World → Prop} (hI : ∀ W, Below w.heap.size w W → Inv W)
 (hS : ∀ W, Inv W → Calls Tryz.prog 116 #[.agg (evC m k e o)] W (OutR rm L n W)) (hz : Siz w) (hR : Rws w) :
 Calls Tryz.prog 35 #[moV m, kyV k] w (OutR rm L n w) :=
 lkey_form m k hk hs hm h3 e o he ho 2 hK (by decide) _ true false rfl (by simp) hq rm L n (fun h => by cases h) w hI hS hz hR
theorem lkey_letter (m : Mo) (k : Ky) (hk : okK k) (hs : k.text.size ≤ 4294967296) (hm : mayK k = true) (h3 : k.typ ≠ 3) (e : En) (o : Int) (he : lookE k.code = e) (ho : oldN k.mods = o) (hK : e.kind = 3) (rm : Bool) (L : List UInt8) (n : Nat) (w : World) {Inv : World → Prop} (hI : ∀ W, Below w.heap.size w W → Inv W)
 (hS : ∀ W, Inv W → Calls Tryz.prog 117 #[.agg (evC m k e o)] W (OutR rm L n W)) (hz : Siz w) (hR : Rws w) :
 Calls Tryz.prog 35 #[moV m, kyV k] w (OutR rm L n w) :=
 lkey_form m k hk hs hm h3 e o he ho 3 hK (by decide) _ false _ rfl (by simp) rfl rm L n (fun h => by cases h) w hI hS hz hR
theorem lkey_number (m : Mo) (k : Ky) (hk : okK k) (hs : k.text.size ≤ 4294967296) (hm : mayK k = true) (h3 : k.typ ≠ 3) (e : En) (o : Int) (he : lookE k.code = e) (ho : oldN k.mods = o) (hK : e.kind = 4) (rm : Bool) (L : List UInt8) (n : Nat) (w : World) {Inv : World → Prop} (hI : ∀ W, Below w.heap.size w W → Inv W)
 (hS : ∀ W, Inv W → Calls Tryz.prog 118 #[.agg (evC m k e o)] W (OutR rm L n W)) (hz : Siz w) (hR : Rws w) :
 Calls Tryz.prog 35 #[moV m, kyV k] w (OutR rm L n w) :=
 lkey_form m k hk hs hm h3 e o he ho 4 hK (by decide) _ false _ rfl (by simp) rfl rm L n (fun h => by cases h) w hI hS hz hR
theorem lkey_pad (m : Mo) (k : Ky) (hk : okK k) (hs : k.text.size ≤ 4294967296) (hm : mayK k = true) (h3 : k.typ ≠ 3) (e : En) (o : Int) (he : lookE k.code = e) (ho : oldN k.mods = o) (hK : e.kind = 5) (rm : Bool) (L : List UInt8) (n : Nat) (w : World) {Inv : World → Prop} (hI : ∀ W, Below w.heap.size w W → Inv W)
 (hS : ∀ W, Inv W → Calls Tryz.prog 119 #[.agg (evC m k e o)] W (OutR rm L n W)) (hz : Siz w) (hR : Rws w) :
 Calls Tryz.prog 35 #[moV m, kyV k] w (OutR rm L n w) :=
 lkey_form m k hk hs hm h3 e o he ho 5 hK (by decide) _ false _ rfl (by simp) rfl rm L n (fun h => by cases h) w hI hS hz hR
end Go.Proofs.YtceipblcdcgljaaGreatDoor
