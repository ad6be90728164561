/-
  Stage 16, the landed mouse, walked: the ways to send an event (a map of closures), Encode.
-/
import Derived.Test.YtjlhhelikiegdaaGreatDoorG01
import Derived.Test.YtjlhhelikiegdaaGreatDoorG24
import Derived.Test.YtjlhhelikiegdaaGreatDoorG38
import Derived.Laws.EntriesVeiled
namespace Go.Proofs.YtjlhhelikiegdaaGreatDoor
open Go.RowKit Go.Maps
theorem kint16 : Keyed Tryz.prog 3 := int_keyed Tryz.underlying3
theorem key16 {n : Int} (h : -9223372036854775808 ≤ n ∧ n ≤ 9223372036854775807) : keyOf Tryz.prog 3 (.int .i64 n) = some (.int .i64 n) := keyOf_int_mk Tryz.underlying3 (WalkArith.wf_i64 (by have := h.1; have := h.2; omega))
def way2 (bf bm be : Nat) : Value := .func (.func 34) #[] #[.pointer (some ⟨bf, 0, none⟩), .pointer (some ⟨bm, 0, none⟩), .pointer (some ⟨be, 0, none⟩)]
def way3 (bc be : Nat) : Value := .func (.func 36) #[] #[.pointer (some ⟨bc, 0, none⟩), .pointer (some ⟨be, 0, none⟩)]
def way4 (bt bc be : Nat) : Value := .func (.func 37) #[] #[.pointer (some ⟨bt, 0, none⟩), .pointer (some ⟨bc, 0, none⟩), .pointer (some ⟨be, 0, none⟩)]
def way5 (bt bc be : Nat) : Value := .func (.func 41) #[] #[.pointer (some ⟨bt, 0, none⟩), .pointer (some ⟨bc, 0, none⟩), .pointer (some ⟨be, 0, none⟩)]
def codL16 (bm be bc bf bt : Nat) : List (Lit × DataW Value) := [(.int .i64 0, .held (way5 bt bc be)), (.int .i64 1005, .held (way4 bt bc be)), (.int .i64 1006, .held (way2 bf bm be)), (.int .i64 1015, .held (way3 bc be))]
def CodE (mode btn typ x y mods cc : Int) (fl : UInt8) (w : World) (e : Ending) (w' : World) : Prop := ∃ bm be bc bf bt b n, e = .returned (.map (some b)) ∧ Blk w' bm 3 #[.int .i64 mode] ∧ Blk w' be 23 #[.int .i64 btn, .int .i64 typ, .int .i64 x, .int .i64 y, .int .i64 mods] ∧ Blk w' bc 3 #[.int .i64 cc] ∧ Blk w' bf 5 #[.int .u8 (fl.toNat : Int)] ∧ Blk w' bt 54 #[.func (.func 33) #[] #[.pointer (some ⟨be, 0, none⟩)]] ∧ w'.ownsMap Tryz.prog 3 hel b n (.map (codL16 bm be bc bf bt)) ∧ Below w.heap.size w w'
theorem below_but16 {B b : Nat} {a w w' : World} (h : Below B a w) (hg : w.grownBy w' (some b)) (hB : B ≤ w.heap.size) (hb : B ≤ b) : Below B a w' :=
 ⟨hg.os.trans h.os, hg.tape.trans h.tape, hg.output.trans h.output, Nat.le_trans h.size hg.size, fun k hk => (hg.block k (Nat.lt_of_lt_of_le hk hB) (fun e => by injection e with e; omega)).trans (h.block k hk)⟩
set_option maxRecDepth 100000 in
set_option maxHeartbeats 16000000 in
theorem mcodings_any (mode btn typ x y mods cc : Int) (fl : UInt8) (hmay : mayT ⟨btn, typ, x, y, mods⟩ = true) (hcc : 32 + lostM mode ⟨btn, typ, x, y, mods⟩ = cc) (hfl : (if typ = 3 then (109 : UInt8) else 77) = fl) (w : World) : Calls Tryz.prog 13 #[.int .i64 mode, .agg #[.int .i64 btn, .int .i64 typ, .int .i64 x, .int .i64 y, .int .i64 mods]] w (CodE mode btn typ x y mods cc fl w) := by
 obtain ⟨bb, hbb⟩ : ∃ n, wh (!(typ == 3)) btn = n := ⟨_, rfl⟩
 obtain ⟨nb, hnb⟩ : ∃ n, numW bb = n := ⟨_, rfl⟩
 obtain ⟨mk, hmk⟩ : ∃ n, mkW mode typ mods = n := ⟨_, rfl⟩
 have hE : IntKind.i64.wrap (IntKind.i64.wrap (32 + nb) + mk) = cc := by
  have h1 := lostW_eq mode hmay
  have h2 := lost_rng (mode := mode) hmay
  have h3 := mkW_rng mode typ mods
  simp only at h1
  rw [hbb, hnb, hmk, hcc] at h1
  rw [hmk] at h3
  rw [IntKind.wrap_i64, IntKind.wrap_i64]
  omega
 obtain ⟨r, hr⟩ : ∃ r, (typ == 3) = r := ⟨_, rfl⟩
 have hfl2 : (if r = true then (109 : UInt8) else 77) = fl := by
  rw [← hfl, ← hr]
  by_cases h : typ = 3
  ·rw [if_pos h, if_pos (by rw [h]; rfl)]
  ·rw [if_neg h, if_neg (by rw [beq_false_of_ne h]; decide)]
 rw [hr] at hbb
 have HWN : Hid (∀ W, Calls Tryz.prog 18 #[.bool !r, .int .i64 btn] W (NumE bb W)) := Lib.hid fun W => mwhen_any (!r) btn bb hbb W
 have HN : Hid (∀ W, Calls Tryz.prog 19 #[.int .i64 bb] W (NumE nb W)) := Lib.hid fun W => mnumber_any bb nb hnb W
 have HK : Hid (∀ W, Calls Tryz.prog 20 #[.int .i64 mode, .agg #[.int .i64 btn, .int .i64 typ, .int .i64 x, .int .i64 y, .int .i64 mods]] W (NumE mk W)) := Lib.hid fun W => mmarks_any mode btn typ x y mods mk hmk W
 clear hbb hnb hmk hmay hcc hfl
 have km := Blk.new w 3 #[.int .i64 mode]
 have ke := Blk.new (w.alloc (.cells #[.int .i64 mode] 3)) 23 #[.int .i64 btn, .int .i64 typ, .int .i64 x, .int .i64 y, .int .i64 mods]
 replace km := km.alloc (.cells #[.int .i64 btn, .int .i64 typ, .int .i64 x, .int .i64 y, .int .i64 mods] 23)
 rw [World.size_alloc] at ke
 have hB : Below w.heap.size w ((w.alloc (.cells #[.int .i64 mode] 3)).alloc (.cells #[.int .i64 btn, .int .i64 typ, .int .i64 x, .int .i64 y, .int .i64 mods] 23)) := ((Below.refl _ w).alloc (Nat.le_refl _) _).alloc (by simp) _
 obtain ⟨w1, hw1⟩ : ∃ W, ((w.alloc (.cells #[.int .i64 mode] 3)).alloc (.cells #[.int .i64 btn, .int .i64 typ, .int .i64 x, .int .i64 y, .int .i64 mods] 23)) = W := ⟨_, rfl⟩
 rw [hw1] at km ke hB
 have le : ∀ W, Below w1.heap.size w1 W → Blk W (w.heap.size + 1) 23 #[.int .i64 btn, .int .i64 typ, .int .i64 x, .int .i64 y, .int .i64 mods] := fun W hW => ke.below hW ke.lt
 have lm : ∀ W, Below w1.heap.size w1 W → Blk W w.heap.size 3 #[.int .i64 mode] := fun W hW => km.below hW km.lt
 have hst : ∀ f ∈ ([⟨11, 6, FNew w1 3 #[.int .i64 0]⟩] : List Fact), f.ok := List.forall_mem_cons.2 ⟨fnew_ok _ _ _ _ _, fun _ h => by cases h⟩
 obtain ⟨a0, a1, a2, a3, a4⟩ := Blk.cells5 ke
 go_enter Tryz.func13, Tryz.ntmps13
 go_upto_region 2 with (fail)
 try rw [hw1]
 clear hw1 a0 a1 a2 a3 a4
 refine wp_region_last (w1 := w1) (K := [⟨11, 6, FNew w1 3 #[.int .i64 0]⟩]) (ix := 12) (iz := 12) (R0 := fun _ _ _ => True) (R1 := fun g _ w => Below w1.heap.size w1 w ∧ FNew w1 3 #[.int .i64 (IntKind.i64.wrap (IntKind.i64.wrap (32 + nb) + mk))] (g 6) w) [6] (⟨#[.int .i64 mode, .agg #[.int .i64 btn, .int .i64 typ, .int .i64 x, .int .i64 y, .int .i64 mods], .pointer (some ⟨w.heap.size, 0, none⟩), .pointer (some ⟨w.heap.size + 1, 0, none⟩), .map none, .bool r, undef, undef, undef, .pointer (some ⟨w.heap.size + 1, 1, none⟩), .int .i64 typ, .bool r, .bool r, .bool !r, .pointer (some ⟨w.heap.size + 1, 0, none⟩), .int .i64 btn, .int .i64 bb, .int .i64 nb, .int .i64 (IntKind.i64.wrap (32 + nb)), .int .i64 mode, .agg #[.int .i64 btn, .int .i64 typ, .int .i64 x, .int .i64 y, .int .i64 mods], .int .i64 mk, .int .i64 (IntKind.i64.wrap (IntKind.i64.wrap (32 + nb) + mk)), undef, undef, undef, undef, undef, undef, undef, undef], []⟩) (fun g => ⟨#[.int .i64 mode, .agg #[.int .i64 btn, .int .i64 typ, .int .i64 x, .int .i64 y, .int .i64 mods], .pointer (some ⟨w.heap.size, 0, none⟩), .pointer (some ⟨w.heap.size + 1, 0, none⟩), .map none, .bool r, (g 6), undef, undef, .pointer (some ⟨w.heap.size + 1, 1, none⟩), .int .i64 typ, .bool r, .bool r, .bool !r, .pointer (some ⟨w.heap.size + 1, 0, none⟩), .int .i64 btn, .int .i64 bb, .int .i64 nb, .int .i64 (IntKind.i64.wrap (32 + nb)), .int .i64 mode, .agg #[.int .i64 btn, .int .i64 typ, .int .i64 x, .int .i64 y, .int .i64 mods], .int .i64 mk, .int .i64 (IntKind.i64.wrap (IntKind.i64.wrap (32 + nb) + mk)), undef, undef, undef, undef, undef, undef, undef, undef], []⟩) [.bool r, .bool !r, .pointer (some ⟨w.heap.size + 1, 0, none⟩), .int .i64 btn, .int .i64 bb, .int .i64 nb, .int .i64 (IntKind.i64.wrap (32 + nb)), .int .i64 mode, .agg #[.int .i64 btn, .int .i64 typ, .int .i64 x, .int .i64 y, .int .i64 mods], .int .i64 mk, .int .i64 (IntKind.i64.wrap (IntKind.i64.wrap (32 + nb) + mk)), undef, undef] (by kernel_rfl) (by kernel_rfl) (by kernel_rfl) (fun g => by kernel_rfl) (by kernel_rfl) (Below.refl _ _).drew (by decide)
  (goes_cons (gkP (fun g => .bool r))
  (goes_cons (gkP (fun g => .bool !r))
  (goes_cons (gkP (fun g => .pointer (some ⟨w.heap.size + 1, 0, none⟩)))
  (goes_cons (gkC hst (fun W hW => (le W hW).cell 0) (hah := ahead_path [3] (by kernel_rfl) (by decide)))
  (goes_cons (gkK (fun g => #[.bool !r, .int .i64 btn]) hst (fun g W hW hin => HWN.out W) (hah := ahead_path [4] (by kernel_rfl) (by decide)))
  (goes_cons (gkK (fun g => #[.int .i64 bb]) hst (fun g W hW hin => HN.out W) (hah := ahead_path [5] (by kernel_rfl) (by decide)))
  (goes_cons (gkP (fun g => .int .i64 (IntKind.i64.wrap (32 + nb))))
  (goes_cons (gkC hst (fun W hW => (lm W hW).cell 0) (hah := ahead_path [7] (by kernel_rfl) (by decide)))
  (goes_cons (gkL hst (fun W hW => le W hW) Tryz.underlying23 (hah := ahead_path [8] (by kernel_rfl) (by decide)))
  (goes_cons (gkK (fun g => #[.int .i64 mode, .agg #[.int .i64 btn, .int .i64 typ, .int .i64 x, .int .i64 y, .int .i64 mods]]) hst (fun g W hW hin => HK.out W) (hah := ahead_path [9] (by kernel_rfl) (by decide)))
  (goes_cons (gkP (fun g => .int .i64 (IntKind.i64.wrap (IntKind.i64.wrap (32 + nb) + mk))))
  (goes_cons (goesK_new hst (ahead_path [11] (by kernel_rfl) (by decide)) rfl (by decide) (by decide) 0 rfl (by kernel_rfl) (fun g => by kernel_rfl) rfl (fun g => by kernel_rfl) (fun g w => by kernel_rfl))
  (goes_cons (goesP_put1 rfl rfl rfl (List.forall_mem_cons.2 ⟨⟨show (11 : Nat) ≠ 12 by decide, [11], by kernel_rfl, show (11 : Nat) ∈ [11] by decide⟩, fun _ h => by cases h⟩) 0 rfl (fun g => by kernel_rfl) rfl rfl (fun g => by kernel_rfl) (fun g => by kernel_rfl) Tryz.sizeOf3 rfl rfl) goes_nil))))))))))))) ?_
 intro g ws W _ _ hR
 obtain ⟨hW, bc, hg, hbc, c0⟩ := hR
 simp only [hg]
 have hB2 := hB.trans (hW.mono hB.size)
 have m0 := lm W hW
 have e0 := le W hW
 rw [hE] at c0
 clear le lm hst hg hW HWN HN HK hE
 cases r with
 | true =>
   have HFL := Lib.hid (show (109 : UInt8) = fl from hfl2)
   clear hfl2
   obtain ⟨V1, hV1⟩ : ∃ V, W.alloc (.cells #[.int .u8 109] 5) = V := ⟨_, rfl⟩
   have b1 : Below w.heap.size w V1 := by rw [← hV1]; exact hB2.alloc hB2.size _
   have q1 : Blk V1 W.heap.size 5 #[.int .u8 109] := by rw [← hV1]; exact Blk.new W _ _
   have s1 : W.heap.size + 1 = V1.heap.size := by rw [← hV1]; simp
   have m1 : Blk V1 w.heap.size 3 #[.int .i64 mode] := by rw [← hV1]; exact m0.alloc _
   have e1 : Blk V1 (w.heap.size + 1) 23 #[.int .i64 btn, .int .i64 typ, .int .i64 x, .int .i64 y, .int .i64 mods] := by rw [← hV1]; exact e0.alloc _
   have c1 : Blk V1 bc 3 #[.int .i64 cc] := by rw [← hV1]; exact c0.alloc _
   obtain ⟨V2, hV2⟩ : ∃ V, V1.alloc (.cells #[.func (.func 33) #[] #[.pointer (some ⟨w.heap.size + 1, 0, none⟩)]] 54) = V := ⟨_, rfl⟩
   have b2 : Below w.heap.size w V2 := by rw [← hV2]; exact b1.alloc b1.size _
   have t2 : Blk V2 V1.heap.size 54 #[.func (.func 33) #[] #[.pointer (some ⟨w.heap.size + 1, 0, none⟩)]] := by rw [← hV2]; exact Blk.new V1 _ _
   have s2 : V1.heap.size + 1 = V2.heap.size := by rw [← hV2]; simp
   have q2 : Blk V2 W.heap.size 5 #[.int .u8 109] := by rw [← hV2]; exact q1.alloc _
   have m2 : Blk V2 w.heap.size 3 #[.int .i64 mode] := by rw [← hV2]; exact m1.alloc _
   have e2 : Blk V2 (w.heap.size + 1) 23 #[.int .i64 btn, .int .i64 typ, .int .i64 x, .int .i64 y, .int .i64 mods] := by rw [← hV2]; exact e1.alloc _
   have c2 : Blk V2 bc 3 #[.int .i64 cc] := by rw [← hV2]; exact c1.alloc _
   have b3 := b2.alloc b2.size (.map #[] 0)
   replace q2 := q2.alloc (.map #[] 0)
   replace m2 := m2.alloc (.map #[] 0)
   replace e2 := e2.alloc (.map #[] 0)
   replace c2 := c2.alloc (.map #[] 0)
   replace t2 := t2.alloc (.map #[] 0)
   have o0 := World.ownsMap_made V2 Tryz.prog 3 hel
   have hmm := @run_makeMap Tryz.prog
   have x0 : bc ≠ V2.heap.size := fun h => by have := c0.lt; omega
   have x1 : w.heap.size ≤ V2.heap.size := b2.size
   obtain ⟨w4, r4, o4, t4⟩ := o0.store kint16 Tryz.underlying33 (by decide) (key16 (n := 1006) (by decide)) (show hel (way2 W.heap.size w.heap.size (w.heap.size + 1)) = some (.held (way2 W.heap.size w.heap.size (w.heap.size + 1)), []) from rfl)
   obtain ⟨w5, r5, o5, t5⟩ := o4.store kint16 Tryz.underlying33 (by decide) (key16 (n := 1015) (by decide)) (show hel (way3 bc (w.heap.size + 1)) = some (.held (way3 bc (w.heap.size + 1)), []) from rfl)
   obtain ⟨w6, r6, o6, t6⟩ := o5.store kint16 Tryz.underlying33 (by decide) (key16 (n := 1005) (by decide)) (show hel (way4 V1.heap.size bc (w.heap.size + 1)) = some (.held (way4 V1.heap.size bc (w.heap.size + 1)), []) from rfl)
   obtain ⟨w7, r7, o7, t7⟩ := o6.store kint16 Tryz.underlying33 (by decide) (key16 (n := 0) (by decide)) (show hel (way5 V1.heap.size bc (w.heap.size + 1)) = some (.held (way5 V1.heap.size bc (w.heap.size + 1)), []) from rfl)
   have b4 := below_but16 b3 t4.grown b3.size x1
   have b5 := below_but16 b4 t5.grown b4.size x1
   have b6 := below_but16 b5 t6.grown b5.size x1
   have b7 := below_but16 b6 t7.grown b6.size x1
   have K : ∀ {k : Nat} {ty : TypeId} {cs : Array Value}, k ≠ V2.heap.size → Blk (V2.alloc (.map #[] 0)) k ty cs → Blk w7 k ty cs := fun {k ty cs} hk h => (((h.grown t4.grown (by simpa using fun e => hk e.symm)).grown t5.grown (by simpa using fun e => hk e.symm)).grown t6.grown (by simpa using fun e => hk e.symm)).grown t7.grown (by simpa using fun e => hk e.symm)
   have sz := hB2.size
   have HQ := Lib.hid (K (by omega) q2)
   have HM := Lib.hid (K (by omega) m2)
   have HE := Lib.hid (K (by omega) e2)
   have HC := Lib.hid (K x0 c2)
   have HT := Lib.hid (K (by omega) t2)
   have O := Lib.hid o7
   have S1 := Lib.hid s1
   have S2 := Lib.hid s2
   unfold way2 at r4
   unfold way3 at r5
   unfold way4 at r6
   unfold way5 at r7
   clear K o0 o4 o5 o6 o7 t4 t5 t6 t7 b1 b2 b3 b4 b5 b6 q1 m1 c1 m2 e2 c2 t2 q2 x0 s2
   go_wp2_with fail
   refine bodyPost_ret (v := .map (some V2.heap.size)) (by simp [results, Tryz.results13, go_sem]) rfl ⟨w.heap.size, w.heap.size + 1, bc, W.heap.size, V1.heap.size, V2.heap.size, _, rfl, HM.out, HE.out, HC.out, by rw [← HFL.out]; exact HQ.out, HT.out, O.out, b7⟩
 | false =>
   have HFL := Lib.hid (show (77 : UInt8) = fl from hfl2)
   clear hfl2
   obtain ⟨V1, hV1⟩ : ∃ V, W.alloc (.cells #[.int .u8 77] 5) = V := ⟨_, rfl⟩
   have b1 : Below w.heap.size w V1 := by rw [← hV1]; exact hB2.alloc hB2.size _
   have q1 : Blk V1 W.heap.size 5 #[.int .u8 77] := by rw [← hV1]; exact Blk.new W _ _
   have s1 : W.heap.size + 1 = V1.heap.size := by rw [← hV1]; simp
   have m1 : Blk V1 w.heap.size 3 #[.int .i64 mode] := by rw [← hV1]; exact m0.alloc _
   have e1 : Blk V1 (w.heap.size + 1) 23 #[.int .i64 btn, .int .i64 typ, .int .i64 x, .int .i64 y, .int .i64 mods] := by rw [← hV1]; exact e0.alloc _
   have c1 : Blk V1 bc 3 #[.int .i64 cc] := by rw [← hV1]; exact c0.alloc _
   obtain ⟨V2, hV2⟩ : ∃ V, V1.alloc (.cells #[.func (.func 33) #[] #[.pointer (some ⟨w.heap.size + 1, 0, none⟩)]] 54) = V := ⟨_, rfl⟩
   have b2 : Below w.heap.size w V2 := by rw [← hV2]; exact b1.alloc b1.size _
   have t2 : Blk V2 V1.heap.size 54 #[.func (.func 33) #[] #[.pointer (some ⟨w.heap.size + 1, 0, none⟩)]] := by rw [← hV2]; exact Blk.new V1 _ _
   have s2 : V1.heap.size + 1 = V2.heap.size := by rw [← hV2]; simp
   have q2 : Blk V2 W.heap.size 5 #[.int .u8 77] := by rw [← hV2]; exact q1.alloc _
   have m2 : Blk V2 w.heap.size 3 #[.int .i64 mode] := by rw [← hV2]; exact m1.alloc _
   have e2 : Blk V2 (w.heap.size + 1) 23 #[.int .i64 btn, .int .i64 typ, .int .i64 x, .int .i64 y, .int .i64 mods] := by rw [← hV2]; exact e1.alloc _
   have c2 : Blk V2 bc 3 #[.int .i64 cc] := by rw [← hV2]; exact c1.alloc _
   have b3 := b2.alloc b2.size (.map #[] 0)
   replace q2 := q2.alloc (.map #[] 0)
   replace m2 := m2.alloc (.map #[] 0)
   replace e2 := e2.alloc (.map #[] 0)
   replace c2 := c2.alloc (.map #[] 0)
   replace t2 := t2.alloc (.map #[] 0)
   have o0 := World.ownsMap_made V2 Tryz.prog 3 hel
   have hmm := @run_makeMap Tryz.prog
   have x0 : bc ≠ V2.heap.size := fun h => by have := c0.lt; omega
   have x1 : w.heap.size ≤ V2.heap.size := b2.size
   obtain ⟨w4, r4, o4, t4⟩ := o0.store kint16 Tryz.underlying33 (by decide) (key16 (n := 1006) (by decide)) (show hel (way2 W.heap.size w.heap.size (w.heap.size + 1)) = some (.held (way2 W.heap.size w.heap.size (w.heap.size + 1)), []) from rfl)
   obtain ⟨w5, r5, o5, t5⟩ := o4.store kint16 Tryz.underlying33 (by decide) (key16 (n := 1015) (by decide)) (show hel (way3 bc (w.heap.size + 1)) = some (.held (way3 bc (w.heap.size + 1)), []) from rfl)
   obtain ⟨w6, r6, o6, t6⟩ := o5.store kint16 Tryz.underlying33 (by decide) (key16 (n := 1005) (by decide)) (show hel (way4 V1.heap.size bc (w.heap.size + 1)) = some (.held (way4 V1.heap.size bc (w.heap.size + 1)), []) from rfl)
   obtain ⟨w7, r7, o7, t7⟩ := o6.store kint16 Tryz.underlying33 (by decide) (key16 (n := 0) (by decide)) (show hel (way5 V1.heap.size bc (w.heap.size + 1)) = some (.held (way5 V1.heap.size bc (w.heap.size + 1)), []) from rfl)
   have b4 := below_but16 b3 t4.grown b3.size x1
   have b5 := below_but16 b4 t5.grown b4.size x1
   have b6 := below_but16 b5 t6.grown b5.size x1
   have b7 := below_but16 b6 t7.grown b6.size x1
   have K : ∀ {k : Nat} {ty : TypeId} {cs : Array Value}, k ≠ V2.heap.size → Blk (V2.alloc (.map #[] 0)) k ty cs → Blk w7 k ty cs := fun {k ty cs} hk h => (((h.grown t4.grown (by simpa using fun e => hk e.symm)).grown t5.grown (by simpa using fun e => hk e.symm)).grown t6.grown (by simpa using fun e => hk e.symm)).grown t7.grown (by simpa using fun e => hk e.symm)
   have sz := hB2.size
   have HQ := Lib.hid (K (by omega) q2)
   have HM := Lib.hid (K (by omega) m2)
   have HE := Lib.hid (K (by omega) e2)
   have HC := Lib.hid (K x0 c2)
   have HT := Lib.hid (K (by omega) t2)
   have O := Lib.hid o7
   have S1 := Lib.hid s1
   have S2 := Lib.hid s2
   unfold way2 at r4
   unfold way3 at r5
   unfold way4 at r6
   unfold way5 at r7
   clear K o0 o4 o5 o6 o7 t4 t5 t6 t7 b1 b2 b3 b4 b5 b6 q1 m1 c1 m2 e2 c2 t2 q2 x0 s2
   go_wp2_with fail
   refine bodyPost_ret (v := .map (some V2.heap.size)) (by simp [results, Tryz.results13, go_sem]) rfl ⟨w.heap.size, w.heap.size + 1, bc, W.heap.size, V1.heap.size, V2.heap.size, _, rfl, HM.out, HE.out, HC.out, by rw [← HFL.out]; exact HQ.out, HT.out, O.out, b7⟩
theorem cod_at16 (bm be bc bf bt : Nat) (n : Int) : (DataW.map (codL16 bm be bc bf bt)).atKey (.int .i64 n) (.held .nilFunc) = (if n = 0 then .held (way5 bt bc be) else if n = 1005 then .held (way4 bt bc be) else if n = 1006 then .held (way2 bf bm be) else if n = 1015 then .held (way3 bc be) else .held .nilFunc) ∧ Maps.has (DataW.map (codL16 bm be bc bf bt)) (.int .i64 n) = decide (n = 0 ∨ n = 1005 ∨ n = 1006 ∨ n = 1015) := by
 by_cases h1 : n = 0
 ·subst h1; exact ⟨by kernel_rfl, by kernel_rfl⟩
 by_cases h2 : n = 1005
 ·subst h2; exact ⟨by kernel_rfl, by kernel_rfl⟩
 by_cases h3 : n = 1006
 ·subst h3; exact ⟨by kernel_rfl, by kernel_rfl⟩
 by_cases h4 : n = 1015
 ·subst h4; exact ⟨by kernel_rfl, by kernel_rfl⟩
 have key : ∀ q ∈ codL16 bm be bc bf bt, q.1 ≠ Lit.int .i64 n := by
  intro q hq
  simp only [codL16, List.mem_cons, List.not_mem_nil, or_false] at hq
  rcases hq with rfl | rfl | rfl | rfl <;> (intro e; simp at e; omega)
 rw [if_neg h1, if_neg h2, if_neg h3, if_neg h4, decide_eq_false (by omega)]
 exact ⟨WideAt.atKey_none _ key, has_false_of_atKey fun z => WideAt.atKey_none z key⟩
theorem cod_ok16 {w : World} {bm be bc bf bt b k : Nat} {n : Int} {v : Value} {q : Bool} (h : w.ownsMap Tryz.prog 3 hel b k (.map (codL16 bm be bc bf bt))) (hn : -9223372036854775808 ≤ n ∧ n ≤ 9223372036854775807) (hv : (if n = 0 then DataW.held (way5 bt bc be) else if n = 1005 then .held (way4 bt bc be) else if n = 1006 then .held (way2 bf bm be) else if n = 1015 then .held (way3 bc be) else .held .nilFunc) = .held v) (hq : decide (n = 0 ∨ n = 1005 ∨ n = 1006 ∨ n = 1015) = q) :
 (Instr.lookup 33 (.map (some b)) (.int .i64 n) true).run Tryz.prog w = .ok (.tuple #[v, .bool q]) w := by
 obtain ⟨v1, p1, h1, e1⟩ := h.look_ok kint16 Tryz.underlying33 (show (zeroValue 35).run Tryz.prog w = .ok .nilFunc w by kernel_rfl) (show hel .nilFunc = some (.held .nilFunc, []) from rfl) (key16 hn)
 rw [(cod_at16 bm be bc bf bt n).1, hv] at e1
 rw [(cod_at16 bm be bc bf bt n).2, hq] at h1
 have e1' : v1 = v := by simpa [hel] using congrArg (Option.map Prod.fst) e1
 rw [e1'] at h1
 exact h1
theorem cod_zero16 {w : World} {bm be bc bf bt b k : Nat} (h : w.ownsMap Tryz.prog 3 hel b k (.map (codL16 bm be bc bf bt))) :
 (Instr.lookup 33 (.map (some b)) (.int .i64 0) false).run Tryz.prog w = .ok (way5 bt bc be) w := by
 obtain ⟨v1, p1, h1, e1⟩ := h.lookup kint16 Tryz.underlying33 (show (zeroValue 35).run Tryz.prog w = .ok .nilFunc w by kernel_rfl) (show hel .nilFunc = some (.held .nilFunc, []) from rfl) (key16 (n := 0) ⟨by decide, by decide⟩)
 rw [(cod_at16 bm be bc bf bt 0).1] at e1
 have e1' : v1 = way5 bt bc be := by simpa [hel] using congrArg (Option.map Prod.fst) e1
 rw [e1'] at h1
 exact h1
theorem u8w {k : Int} (h0 : 0 ≤ k) (h1 : k < 256) : Value.int .u8 (IntKind.u8.wrap k) = B8 (byt k) := by
 have e : IntKind.u8.wrap k = k := by
  have : IntKind.u8.wrap k = k % 256 := by simp [IntKind.wrap, IntKind.bits, IntKind.signed]
  omega
 show _ = Value.int .u8 ((byt k).toNat : Int)
 rw [e, byt_nat k h0 h1]
theorem num_sqP (a : UInt8) (f : Int) (l : List Int) : numS a (byt f) l = sqP a f l := rfl
theorem enc_else (mode c : Int) {e : Ms} (h : mayT e = true) (h1 : c ≠ 1005) (h2 : c ≠ 1006) (h3 : c ≠ 1015) : encM mode c e = encM mode 0 e := by
 rw [enc_0 mode h]
 unfold encM
 rw [if_neg (by rw [h]; decide), if_neg h2, if_neg h3, if_neg h1]
set_option maxRecDepth 100000 in
set_option maxHeartbeats 16000000 in
theorem mencode_any (mode coding btn typ x y mods : Int) (hcod : -9223372036854775808 ≤ coding ∧ coding ≤ 9223372036854775807) (L : List UInt8) (n0 : Nat) (hL : encM mode coding ⟨btn, typ, x, y, mods⟩ = L) (hn0 : L.length = n0) (w : World) (ht : Tab w) (hz : Siz w) : Calls Tryz.prog 6 #[.int .i64 mode, .int .i64 coding, .agg #[.int .i64 btn, .int .i64 typ, .int .i64 x, .int .i64 y, .int .i64 mods]] w (OutR L n0 w) := by
 obtain ⟨p, hp⟩ : ∃ p, mayT ⟨btn, typ, x, y, mods⟩ = p := ⟨_, rfl⟩
 have HM : Hid (∀ W, Calls Tryz.prog 12 #[.agg #[.int .i64 btn, .int .i64 typ, .int .i64 x, .int .i64 y, .int .i64 mods]] W fun e w' => e = .returned (.bool p) ∧ Below W.heap.size W w') := Lib.hid fun W => by
  have := tmay_any ⟨btn, typ, x, y, mods⟩ W
  rw [hp] at this
  exact this
 have HN0 := Lib.hid hn0
 have HLE := Lib.hid hL
 clear hn0 hL
 have k0 := Blk.new w 23 #[.int .i64 btn, .int .i64 typ, .int .i64 x, .int .i64 y, .int .i64 mods]
 have hB : Below w.heap.size w (w.alloc (.cells #[.int .i64 btn, .int .i64 typ, .int .i64 x, .int .i64 y, .int .i64 mods] 23)) := (Below.refl _ w).alloc (Nat.le_refl _) _
 obtain ⟨a0, a1, a2, a3, a4⟩ := Blk.cells5 k0
 have HT : Hid (∀ W, Below w.heap.size w W → Tab W) := Lib.hid fun W hW => ht.below hW
 have HS : Hid (∀ W, Below w.heap.size w W → Siz W) := Lib.hid fun W hW => hz.below' hW
 clear ht hz
 cases p with
 | false =>
   have HF := Lib.hid (show [] = L by rw [← HLE.out, enc_no hp])
   clear hp HLE
   go_enter Tryz.func6, Tryz.ntmps6
   go_wp2_with fail
   refine (HM.out _).mono ?_
   rintro e w1 ⟨rfl, hb1⟩
   go_wp2_with fail
   go_ret
   exact ⟨none, 0, by rw [← HN0.out, ← HF.out]; rfl, by rw [← HN0.out, ← HF.out]; exact Nat.le_refl _, by rw [← HF.out]; exact Rd.nil _ _, hB.trans (hb1.mono hB.size)⟩
 | true =>
   have hmay := hp
   obtain ⟨cc, hcc⟩ : ∃ c, 32 + lostM mode ⟨btn, typ, x, y, mods⟩ = c := ⟨_, rfl⟩
   obtain ⟨C, hC⟩ : ∃ c, codeM mode ⟨btn, typ, x, y, mods⟩ = c := ⟨_, rfl⟩
   have hlr := lost_rng (mode := mode) hmay
   have hxy := may_cell hmay
   simp only at hxy
   obtain ⟨hx, hy⟩ := hxy
   have hfl : (if typ = 3 then (109 : UInt8) else 77) = byt (if typ = 3 then 109 else 77) := by split <;> rfl
   obtain ⟨fl, hf⟩ : ∃ f, byt (if typ = 3 then 109 else 77) = f := ⟨_, rfl⟩
   rw [hf] at hfl
   have HC : Hid (∀ W, Calls Tryz.prog 13 #[.int .i64 mode, .agg #[.int .i64 btn, .int .i64 typ, .int .i64 x, .int .i64 y, .int .i64 mods]] W (CodE mode btn typ x y mods cc fl W)) := Lib.hid fun W => mcodings_any mode btn typ x y mods cc fl hmay hcc hfl W
   have HR := Lib.hid hcod
   clear hp
   go_enter Tryz.func6, Tryz.ntmps6
   go_wp2_with fail
   refine (HM.out _).mono ?_
   rintro e w1 ⟨rfl, hb1⟩
   have hB1 := hB.trans (hb1.mono hB.size)
   have k1 := k0.below hb1 k0.lt
   clear a0 a1 a2 a3 a4 k0 hb1 hB HM
   obtain ⟨a0, a1, a2, a3, a4⟩ := Blk.cells5 k1
   by_cases c2 : coding = 1006
   ·subst c2
    obtain ⟨m1, m2⟩ := enc_1006 mode hmay
    rw [HLE.out, hC] at m2
    rw [hC] at m1
    have H1 : Hid (mayS (numS 60 fl [C, x, y]) = 0) := Lib.hid (by rw [← hf, num_sqP]; exact m1)
    have H2 : Hid (putS (numS 60 fl [C, x, y]) = L) := Lib.hid (by rw [← hf, num_sqP]; exact m2.symm)
    have H3 := Lib.hid hC
    clear m1 m2 hmay hcc hC hlr hx hy hfl hf
    go_wp2_with fail
    refine (HC.out _).mono ?_
    rintro e w2 ⟨bm, be, bc, bf, bt, b, n, rfl, km, ke, kc, kf, kt, O, hb2⟩
    have hB2 := hB1.trans (hb2.mono hB1.size)
    have tb := HT.out w2 hB2
    have sz := HS.out w2 hB2
    have hlk := cod_ok16 (n := 1006) (v := way2 bf bm be) O HR.out (by simp) (decide_eq_true (by decide))
    unfold way2 at hlk
    go_wp2_with fail
    refine (mway2_any mode btn typ x y mods fl C H3.out L n0 H1.out H2.out HN0.out w2 tb kf km ke).mono ?_
    rintro e w3 ⟨A, c, rfl, hc, hr, hb3⟩
    go_wp2_with fail
    go_ret
    exact ⟨A, c, rfl, hc, hr, hB2.trans (hb3.mono hB2.size)⟩
   by_cases c3 : coding = 1015
   ·subst c3
    obtain ⟨m1, m2⟩ := enc_1015 mode hmay
    rw [HLE.out, hcc] at m2
    rw [hcc] at m1
    have H1 : Hid (mayS (numS 0 77 [cc, x, y]) = 0) := Lib.hid (by rw [show (77 : UInt8) = byt 77 from rfl, num_sqP]; exact m1)
    have H2 : Hid (putS (numS 0 77 [cc, x, y]) = L) := Lib.hid (by rw [show (77 : UInt8) = byt 77 from rfl, num_sqP]; exact m2.symm)
    clear m1 m2 hmay hcc hC hlr hx hy hfl hf c2
    go_wp2_with fail
    refine (HC.out _).mono ?_
    rintro e w2 ⟨bm, be, bc, bf, bt, b, n, rfl, km, ke, kc, kf, kt, O, hb2⟩
    have hB2 := hB1.trans (hb2.mono hB1.size)
    have tb := HT.out w2 hB2
    have sz := HS.out w2 hB2
    have hlk := cod_ok16 (n := 1015) (v := way3 bc be) O HR.out (by simp) (decide_eq_true (by decide))
    unfold way3 at hlk
    go_wp2_with fail
    refine (mway3_any btn typ x y mods cc L n0 H1.out H2.out HN0.out w2 tb kc ke).mono ?_
    rintro e w3 ⟨A, c, rfl, hc, hr, hb3⟩
    go_wp2_with fail
    go_ret
    exact ⟨A, c, rfl, hc, hr, hB2.trans (hb3.mono hB2.size)⟩
   by_cases c1 : coding = 1005
   ·subst c1
    obtain ⟨q, hq⟩ : ∃ q, decide (max x y ≤ 2015) = q := ⟨_, rfl⟩
    have HQ := Lib.hid hq
    have m2 := enc_1005 mode hmay
    rw [HLE.out, hcc] at m2
    simp only at m2
    obtain ⟨T, hT⟩ : ∃ T, [27, 91, 77] ++ putL cc ++ putL (32 + x) ++ putL (32 + y) = T := ⟨_, rfl⟩
    obtain ⟨n1, hn1⟩ : ∃ n, T.length = n := ⟨_, rfl⟩
    rw [hT] at m2
    have HTT := Lib.hid hT
    have HN1 := Lib.hid hn1
    have HNB : Hid (n1 ≤ 4294967296) := Lib.hid (by
     have p5 : (putL (32 + x)).length ≤ 4 := putL_le _
     have p6 : (putL (32 + y)).length ≤ 4 := putL_le _
     have p7 : (putL cc).length ≤ 4 := putL_le _
     rw [← hn1, ← hT]
     simp only [List.length_append, List.length_cons, List.length_nil]
     omega)
    have HL1 : Hid (q = true → T = L ∧ n1 = n0) := Lib.hid fun e => by
     rw [e] at hq
     have h := of_decide_eq_true hq
     rw [if_neg (by omega)] at m2
     exact ⟨m2.symm, by rw [← HN0.out, m2, hn1]⟩
    have HL2 : Hid (q = false → L = [] ∧ n0 = 0) := Lib.hid fun e => by
     rw [e] at hq
     have h := of_decide_eq_false hq
     rw [if_pos (by omega)] at m2
     exact ⟨m2, by rw [← HN0.out, m2]; rfl⟩
    clear m2 hT hn1 hq hmay hcc hC hlr hfl hf c2 c3
    go_wp2_with fail
    refine (HC.out _).mono ?_
    rintro e w2 ⟨bm, be, bc, bf, bt, b, n, rfl, km, ke, kc, kf, kt, O, hb2⟩
    have hB2 := hB1.trans (hb2.mono hB1.size)
    have tb := HT.out w2 hB2
    have sz := HS.out w2 hB2
    have hlk := cod_ok16 (n := 1005) (v := way4 bt bc be) O HR.out (by simp) (decide_eq_true (by decide))
    unfold way4 at hlk
    go_wp2_with fail
    refine (mway4_any btn typ x y mods cc hx hy q HQ.out T L n1 n0 HTT.out HN1.out HNB.out HL1.out HL2.out w2 tb sz kt kc ke).mono ?_
    rintro e w3 ⟨A, c, rfl, hc, hr, hb3⟩
    go_wp2_with fail
    go_ret
    exact ⟨A, c, rfl, hc, hr, hB2.trans (hb3.mono hB2.size)⟩
   by_cases c0 : coding = 0
   ·subst c0
    obtain ⟨q, hq⟩ : ∃ q, decide (max x y ≤ 223) = q := ⟨_, rfl⟩
    have HQ := Lib.hid hq
    have hl0 := HLE.out
    rw [enc_0 mode hmay, hcc] at hl0
    simp only at hl0
    have HL1 : Hid (q = true → bs [27, 91, 77] ++ [.int .u8 (IntKind.u8.wrap cc), .int .u8 (IntKind.u8.wrap (32 + x)), .int .u8 (IntKind.u8.wrap (32 + y))] = bs L ∧ 3 + 3 = n0) := Lib.hid fun e => by
     rw [e] at hq
     have h := of_decide_eq_true hq
     rw [if_neg (by omega)] at hl0
     subst hl0
     refine ⟨?_, HN0.out⟩
     rw [u8w (by omega) (by omega), u8w (by omega) (by omega), u8w (by omega) (by omega)]
     rfl
    have HL2 : Hid (q = false → L = [] ∧ n0 = 0) := Lib.hid fun e => by
     rw [e] at hq
     have h := of_decide_eq_false hq
     rw [if_pos (by omega)] at hl0
     subst hl0
     exact ⟨rfl, HN0.out.symm⟩
    clear hq hl0
    clear hmay hcc hC hlr hfl hf c1 c2 c3
    go_wp2_with fail
    refine (HC.out _).mono ?_
    rintro e w2 ⟨bm, be, bc, bf, bt, b, n, rfl, km, ke, kc, kf, kt, O, hb2⟩
    have hB2 := hB1.trans (hb2.mono hB1.size)
    have tb := HT.out w2 hB2
    have sz := HS.out w2 hB2
    have hlk := cod_ok16 (n := 0) (v := way5 bt bc be) O HR.out (by simp) (decide_eq_true (by decide))
    unfold way5 at hlk
    go_wp2_with fail
    refine (mway5_any btn typ x y mods cc hx hy q HQ.out L n0 HL1.out HL2.out w2 tb kt kc ke).mono ?_
    rintro e w3 ⟨A, c, rfl, hc, hr, hb3⟩
    go_wp2_with fail
    go_ret
    exact ⟨A, c, rfl, hc, hr, hB2.trans (hb3.mono hB2.size)⟩
   obtain ⟨q, hq⟩ : ∃ q, decide (max x y ≤ 223) = q := ⟨_, rfl⟩
   have HQ := Lib.hid hq
   have hl0 := HLE.out
   rw [enc_else mode coding hmay c1 c2 c3, enc_0 mode hmay, hcc] at hl0
   simp only at hl0
   have HL1 : Hid (q = true → bs [27, 91, 77] ++ [.int .u8 (IntKind.u8.wrap cc), .int .u8 (IntKind.u8.wrap (32 + x)), .int .u8 (IntKind.u8.wrap (32 + y))] = bs L ∧ 3 + 3 = n0) := Lib.hid fun e => by
    rw [e] at hq
    have h := of_decide_eq_true hq
    rw [if_neg (by omega)] at hl0
    subst hl0
    refine ⟨?_, HN0.out⟩
    rw [u8w (by omega) (by omega), u8w (by omega) (by omega), u8w (by omega) (by omega)]
    rfl
   have HL2 : Hid (q = false → L = [] ∧ n0 = 0) := Lib.hid fun e => by
    rw [e] at hq
    have h := of_decide_eq_false hq
    rw [if_pos (by omega)] at hl0
    subst hl0
    exact ⟨rfl, HN0.out.symm⟩
   clear hq hl0
   clear hmay hcc hC hlr hfl hf
   go_wp2_with fail
   refine (HC.out _).mono ?_
   rintro e w2 ⟨bm, be, bc, bf, bt, b, n, rfl, km, ke, kc, kf, kt, O, hb2⟩
   have hB2 := hB1.trans (hb2.mono hB1.size)
   have tb := HT.out w2 hB2
   have sz := HS.out w2 hB2
   have hlk := cod_ok16 (n := coding) (v := .nilFunc) O HR.out (by rw [if_neg c0, if_neg c1, if_neg c2, if_neg c3]) (decide_eq_false (by omega))
   have hlz := cod_zero16 O
   unfold way5 at hlz
   clear c0 c1 c2 c3
   go_wp2_with fail
   refine (mway5_any btn typ x y mods cc hx hy q HQ.out L n0 HL1.out HL2.out w2 tb kt kc ke).mono ?_
   rintro e w3 ⟨A, c, rfl, hc, hr, hb3⟩
   go_wp2_with fail
   go_ret
   exact ⟨A, c, rfl, hc, hr, hB2.trans (hb3.mono hB2.size)⟩
end Go.Proofs.YtjlhhelikiegdaaGreatDoor
