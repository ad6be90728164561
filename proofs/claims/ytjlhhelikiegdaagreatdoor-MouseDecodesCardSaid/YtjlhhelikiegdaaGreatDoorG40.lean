/-
  Stage 16, the landed mouse, walked: Decode.
-/
import Derived.Test.YtjlhhelikiegdaaGreatDoorG23
import Derived.Test.YtjlhhelikiegdaaGreatDoorG39
namespace Go.Proofs.YtjlhhelikiegdaaGreatDoor
open Go.RowKit
structure TkD (l : List UInt8) (s : Sq) : Prop where
 np : s.params.length ≤ 4294967296
 hit : ∀ b, hitB l (cand (codeS s) s.final (argL s.params 1 0) (argL s.params 2 0) b) = true → decM l = (cand (codeS s) s.final (argL s.params 1 0) (argL s.params 2 0) b, true)
 no : (∀ b : Int, 0 ≤ b → b ≤ 11 → hitB l (cand (codeS s) s.final (argL s.params 1 0) (argL s.params 2 0) b) = false) → decM l = (⟨0, 0, 0, 0, 0⟩, false)
def TkE (l : List UInt8) (w : World) (e : Ending) (w' : World) : Prop := ∃ s A c u v, e = .returned (.tuple #[sqV s A c, .int .i64 u, .int .i64 v]) ∧ RdP w' A s.params ∧ TkD l s ∧ Below w.heap.size w w'
theorem mtake_any (A : Option Addr) (n c : Nat) (l : List UInt8) (w : World) (hn : l.length = n) (hlc : n ≤ c) (hl : n ≤ 4294967296) (ht : Tab w) (hr : Rd w A (bs l)) : Calls Tryz.prog 23 #[.slice A n c] w (TkE l w) := by
 cases h : takeS l with
 | none =>
   refine (ptake_no A n c l w h hn hlc hl ht hr).mono ?_
   rintro e w' ⟨rfl, hb⟩
   exact ⟨⟨0, 0, [], [], 0, []⟩, none, 0, 0, 2, rfl, RdP.nil _ _, ⟨by simp, fun b hh => (by rw [no_take_hit h] at hh; cases hh), fun _ => no_take h⟩, hb⟩
 | some x =>
   obtain ⟨s, m⟩ := x
   refine (ptake_yes A n c l s m w h hn hlc hl ht hr).mono ?_
   rintro e w' ⟨⟨B, d, rfl, hp⟩, hb⟩
   refine ⟨s, B, d, m, 0, rfl, hp, ⟨?_, fun b hh => hit_dec hh, fun hh => no_hit h hh⟩, hb⟩
   have hm := (takeS_some h).1
   have := (parOk_lens (ok_parts hm).2.2.1).1
   omega
set_option maxRecDepth 100000 in
set_option maxHeartbeats 16000000 in
theorem mdecode_any (A : Option Addr) (n c : Nat) (l : List UInt8) (hn : l.length = n) (hlc : n ≤ c) (hl : n ≤ 4294967296) (w : World) (ht : Tab w) (hz : Siz w) (hr : Rd w A (bs l)) : Calls Tryz.prog 10 #[.slice A n c] w fun e w' => e = .returned (.tuple #[.agg #[.int .i64 (decM l).1.btn, .int .i64 (decM l).1.typ, .int .i64 (decM l).1.x, .int .i64 (decM l).1.y, .int .i64 (decM l).1.mods], .bool (decM l).2]) ∧ Below w.heap.size w w' := by
 have HN := Lib.hid hn
 have hB0 : Below w.heap.size w (w.alloc (.cells #[.int .i64 0, .int .i64 0, .int .i64 0, .int .i64 0, .int .i64 0] 23)) := (Below.refl _ w).alloc (Nat.le_refl _) _
 have r0 := Blk.new w 23 #[.int .i64 0, .int .i64 0, .int .i64 0, .int .i64 0, .int .i64 0]
 obtain ⟨w0, hw0⟩ : ∃ W, w.alloc (.cells #[.int .i64 0, .int .i64 0, .int .i64 0, .int .i64 0, .int .i64 0] 23) = W := ⟨_, rfl⟩
 have HTK : Hid (∀ W, Below w.heap.size w W → Calls Tryz.prog 23 #[.slice A n c] W (TkE l W)) := Lib.hid fun W hW => mtake_any A n c l W hn hlc hl (ht.below hW) (hr.below hW)
 have HT : Hid (∀ W, Below w.heap.size w W → Tab W) := Lib.hid fun W hW => ht.below hW
 have HS : Hid (∀ W, Below w.heap.size w W → Siz W) := Lib.hid fun W hW => hz.below' hW
 have HR : Hid (∀ W, Below w.heap.size w W → Rd W A (bs l)) := Lib.hid fun W hW => hr.below hW
 clear hn ht hz hr
 rw [hw0] at hB0 r0
 go_enter Tryz.func10, Tryz.ntmps10
 go_wp2_with fail
 try rw [hw0]
 refine (HTK.out _ hB0).mono ?_
 rintro e w1 ⟨s, B, d, u, v, rfl, hp, htk, hb⟩
 have hB1 := hB0.trans (hb.mono hB0.size)
 have r1 := r0.below hb r0.lt
 clear hb r0 hw0 HTK hB0
 have HTD := Lib.hid htk
 have hnp := htk.np
 clear htk
 unfold sqV
 have q2 := Blk.new w1 44 #[.int .i64 s.kind, .int .u8 (s.priv.toNat : Int), .slice B s.params.length d, .string ⟨s.inter.toArray⟩, .int .u8 (s.final.toNat : Int), .string ⟨s.data.toArray⟩]
 have hB2 := hB1.alloc hB1.size (.cells #[.int .i64 s.kind, .int .u8 (s.priv.toNat : Int), .slice B s.params.length d, .string ⟨s.inter.toArray⟩, .int .u8 (s.final.toNat : Int), .string ⟨s.data.toArray⟩] 44)
 have r2 := r1.alloc (.cells #[.int .i64 s.kind, .int .u8 (s.priv.toNat : Int), .slice B s.params.length d, .string ⟨s.inter.toArray⟩, .int .u8 (s.final.toNat : Int), .string ⟨s.data.toArray⟩] 44)
 have p2 := hp.alloc (.cells #[.int .i64 s.kind, .int .u8 (s.priv.toNat : Int), .slice B s.params.length d, .string ⟨s.inter.toArray⟩, .int .u8 (s.final.toNat : Int), .string ⟨s.data.toArray⟩] 44)
 obtain ⟨w2, hw2⟩ : ∃ W, w1.alloc (.cells #[.int .i64 s.kind, .int .u8 (s.priv.toNat : Int), .slice B s.params.length d, .string ⟨s.inter.toArray⟩, .int .u8 (s.final.toNat : Int), .string ⟨s.data.toArray⟩] 44) = W := ⟨_, rfl⟩
 rw [hw2] at q2 hB2 r2 p2
 have HA0 : Hid (∀ W, Below w2.heap.size w2 W → Calls Tryz.prog 24 #[.agg #[.int .i64 s.kind, .int .u8 (s.priv.toNat : Int), .slice B s.params.length d, .string ⟨s.inter.toArray⟩, .int .u8 (s.final.toNat : Int), .string ⟨s.data.toArray⟩], .int .i64 0, .int .i64 (-1)] W fun e w' => e = .returned (.int .i64 (codeS s)) ∧ Below W.heap.size W w') := Lib.hid fun W hW => parg_any s B d 0 (-1) _ W rfl (by decide) (by decide) hnp (p2.below hW)
 have HA1 : Hid (∀ W, Below w2.heap.size w2 W → Calls Tryz.prog 24 #[.agg #[.int .i64 s.kind, .int .u8 (s.priv.toNat : Int), .slice B s.params.length d, .string ⟨s.inter.toArray⟩, .int .u8 (s.final.toNat : Int), .string ⟨s.data.toArray⟩], .int .i64 1, .int .i64 0] W fun e w' => e = .returned (.int .i64 (argL s.params 1 0)) ∧ Below W.heap.size W w') := Lib.hid fun W hW => parg_any s B d 1 0 _ W rfl (by decide) (by decide) hnp (p2.below hW)
 have HA2 : Hid (∀ W, Below w2.heap.size w2 W → Calls Tryz.prog 24 #[.agg #[.int .i64 s.kind, .int .u8 (s.priv.toNat : Int), .slice B s.params.length d, .string ⟨s.inter.toArray⟩, .int .u8 (s.final.toNat : Int), .string ⟨s.data.toArray⟩], .int .i64 2, .int .i64 0] W fun e w' => e = .returned (.int .i64 (argL s.params 2 0)) ∧ Below W.heap.size W w') := Lib.hid fun W hW => parg_any s B d 2 0 _ W rfl (by decide) (by decide) hnp (p2.below hW)
 obtain ⟨N, hN⟩ : ∃ N, codeS s = N := ⟨_, rfl⟩
 obtain ⟨X, hX⟩ : ∃ N, argL s.params 1 0 = N := ⟨_, rfl⟩
 obtain ⟨Y, hY⟩ : ∃ N, argL s.params 2 0 = N := ⟨_, rfl⟩
 obtain ⟨T, hT⟩ : ∃ N, typP (codeS s) s.final = N := ⟨_, rfl⟩
 obtain ⟨M, hM⟩ : ∃ N, modP (codeS s) = N := ⟨_, rfl⟩
 have HHIT : Hid (∀ b : Int, hitB l ⟨b, T, X, Y, M⟩ = true → decM l = (⟨b, T, X, Y, M⟩, true)) := Lib.hid fun b h => by
  have := HTD.out.hit b
  unfold cand at this
  rw [hT, hX, hY, hM] at this
  exact this h
 have HNO : Hid ((∀ b : Int, 0 ≤ b → b ≤ 11 → hitB l ⟨b, T, X, Y, M⟩ = false) → decM l = (⟨0, 0, 0, 0, 0⟩, false)) := Lib.hid fun h => HTD.out.no fun b b0 b1 => by
  unfold cand
  rw [hT, hX, hY, hM]
  exact h b b0 b1
 have HTY : Hid (∀ W, Calls Tryz.prog 25 #[.int .i64 N, .int .u8 (s.final.toNat : Int)] W (NumE T W)) := Lib.hid fun W => mtype_any N s.final T (by rw [← hN]; exact hT) W
 have HMO : Hid (∀ W, Calls Tryz.prog 26 #[.int .i64 N] W (NumE M W)) := Lib.hid fun W => mmods_any N M (by rw [← hN]; exact hM) W
 rw [hN] at HA0
 rw [hX] at HA1
 rw [hY] at HA2
 clear hN hX hY hT hM HTD hp hnp
 obtain ⟨c0, c1, c2, c3, c4, c5⟩ := Blk.cells6 q2
 go_wp2_with fail
 try rw [hw2]
 refine (HA0.out _ (Below.refl _ _)).mono ?_
 rintro e w3 ⟨rfl, hb3⟩
 have hB3 := hB2.trans (hb3.mono hB2.size)
 have q3 := q2.below hb3 q2.lt
 have r3 := r2.below hb3 r2.lt
 have HX : Hid (∀ W, Below w3.heap.size w3 W → Calls Tryz.prog 24 #[.agg #[.int .i64 s.kind, .int .u8 (s.priv.toNat : Int), .slice B s.params.length d, .string ⟨s.inter.toArray⟩, .int .u8 (s.final.toNat : Int), .string ⟨s.data.toArray⟩], .int .i64 1, .int .i64 0] W fun e w' => e = .returned (.int .i64 X) ∧ Below W.heap.size W w') := Lib.hid fun W hW => HA1.out W (hb3.trans (hW.mono hb3.size))
 have HY : Hid (∀ W, Below w3.heap.size w3 W → Calls Tryz.prog 24 #[.agg #[.int .i64 s.kind, .int .u8 (s.priv.toNat : Int), .slice B s.params.length d, .string ⟨s.inter.toArray⟩, .int .u8 (s.final.toNat : Int), .string ⟨s.data.toArray⟩], .int .i64 2, .int .i64 0] W fun e w' => e = .returned (.int .i64 Y) ∧ Below W.heap.size W w') := Lib.hid fun W hW => HA2.out W (hb3.trans (hW.mono hb3.size))
 clear HA0 HA1 HA2 c0 c1 c2 c3 c4 c5 hb3 q2 r2 hw2 hB2 p2
 have ls : ∀ W, Below w3.heap.size w3 W → Blk W w1.heap.size 44 #[.int .i64 s.kind, .int .u8 (s.priv.toNat : Int), .slice B s.params.length d, .string ⟨s.inter.toArray⟩, .int .u8 (s.final.toNat : Int), .string ⟨s.data.toArray⟩] := fun W hW => q3.below hW q3.lt
 have hst : ∀ f ∈ ([⟨11, 8, FNew w3 23 #[.int .i64 0, .int .i64 0, .int .i64 0, .int .i64 0, .int .i64 0]⟩] : List Fact), f.ok := List.forall_mem_cons.2 ⟨fnew_ok _ _ _ _ _, fun _ h => by cases h⟩
 go_upto_region 3 with (fail)
 refine wp_region_last (w1 := w3) (K := [⟨11, 8, FNew w3 23 #[.int .i64 0, .int .i64 0, .int .i64 0, .int .i64 0, .int .i64 0]⟩]) (ix := 12) (iz := 12) (R0 := fun _ _ _ => True) (R1 := fun g _ w => Below w3.heap.size w3 w ∧ FNew w3 23 #[.int .i64 0, .int .i64 T, .int .i64 X, .int .i64 Y, .int .i64 M] (g 8) w) [8] (⟨#[.slice A n c, undef, .pointer (some ⟨w.heap.size, 0, none⟩), .bool false, .pointer (some ⟨w1.heap.size, 0, none⟩), .int .i64 u, .int .i64 v, .int .i64 N, undef, .tuple #[.agg #[.int .i64 s.kind, .int .u8 (s.priv.toNat : Int), .slice B s.params.length d, .string ⟨s.inter.toArray⟩, .int .u8 (s.final.toNat : Int), .string ⟨s.data.toArray⟩], .int .i64 u, .int .i64 v], .slice A n c, .tuple #[.agg #[.int .i64 s.kind, .int .u8 (s.priv.toNat : Int), .slice B s.params.length d, .string ⟨s.inter.toArray⟩, .int .u8 (s.final.toNat : Int), .string ⟨s.data.toArray⟩], .int .i64 u, .int .i64 v], .agg #[.int .i64 s.kind, .int .u8 (s.priv.toNat : Int), .slice B s.params.length d, .string ⟨s.inter.toArray⟩, .int .u8 (s.final.toNat : Int), .string ⟨s.data.toArray⟩], .int .i64 u, .int .i64 v, .agg #[.int .i64 s.kind, .int .u8 (s.priv.toNat : Int), .slice B s.params.length d, .string ⟨s.inter.toArray⟩, .int .u8 (s.final.toNat : Int), .string ⟨s.data.toArray⟩], .int .i64 N, .int .i64 N, .pointer (some ⟨w1.heap.size, 4, none⟩), .int .u8 (s.final.toNat : Int), .int .i64 T, .agg #[.int .i64 s.kind, .int .u8 (s.priv.toNat : Int), .slice B s.params.length d, .string ⟨s.inter.toArray⟩, .int .u8 (s.final.toNat : Int), .string ⟨s.data.toArray⟩], .int .i64 X, .agg #[.int .i64 s.kind, .int .u8 (s.priv.toNat : Int), .slice B s.params.length d, .string ⟨s.inter.toArray⟩, .int .u8 (s.final.toNat : Int), .string ⟨s.data.toArray⟩], .int .i64 Y, .int .i64 N, .int .i64 M, .agg #[.int .i64 0, .int .i64 T, .int .i64 X, .int .i64 Y, .int .i64 M], undef, undef, undef, undef, undef, undef, undef, undef, undef, undef, undef, undef, undef, undef, undef], []⟩) (fun g => ⟨#[.slice A n c, undef, .pointer (some ⟨w.heap.size, 0, none⟩), .bool false, .pointer (some ⟨w1.heap.size, 0, none⟩), .int .i64 u, .int .i64 v, .int .i64 N, (g 8), .tuple #[.agg #[.int .i64 s.kind, .int .u8 (s.priv.toNat : Int), .slice B s.params.length d, .string ⟨s.inter.toArray⟩, .int .u8 (s.final.toNat : Int), .string ⟨s.data.toArray⟩], .int .i64 u, .int .i64 v], .slice A n c, .tuple #[.agg #[.int .i64 s.kind, .int .u8 (s.priv.toNat : Int), .slice B s.params.length d, .string ⟨s.inter.toArray⟩, .int .u8 (s.final.toNat : Int), .string ⟨s.data.toArray⟩], .int .i64 u, .int .i64 v], .agg #[.int .i64 s.kind, .int .u8 (s.priv.toNat : Int), .slice B s.params.length d, .string ⟨s.inter.toArray⟩, .int .u8 (s.final.toNat : Int), .string ⟨s.data.toArray⟩], .int .i64 u, .int .i64 v, .agg #[.int .i64 s.kind, .int .u8 (s.priv.toNat : Int), .slice B s.params.length d, .string ⟨s.inter.toArray⟩, .int .u8 (s.final.toNat : Int), .string ⟨s.data.toArray⟩], .int .i64 N, .int .i64 N, .pointer (some ⟨w1.heap.size, 4, none⟩), .int .u8 (s.final.toNat : Int), .int .i64 T, .agg #[.int .i64 s.kind, .int .u8 (s.priv.toNat : Int), .slice B s.params.length d, .string ⟨s.inter.toArray⟩, .int .u8 (s.final.toNat : Int), .string ⟨s.data.toArray⟩], .int .i64 X, .agg #[.int .i64 s.kind, .int .u8 (s.priv.toNat : Int), .slice B s.params.length d, .string ⟨s.inter.toArray⟩, .int .u8 (s.final.toNat : Int), .string ⟨s.data.toArray⟩], .int .i64 Y, .int .i64 N, .int .i64 M, .agg #[.int .i64 0, .int .i64 T, .int .i64 X, .int .i64 Y, .int .i64 M], undef, undef, undef, undef, undef, undef, undef, undef, undef, undef, undef, undef, undef, undef, undef], []⟩) [.int .i64 N, .pointer (some ⟨w1.heap.size, 4, none⟩), .int .u8 (s.final.toNat : Int), .int .i64 T, .agg #[.int .i64 s.kind, .int .u8 (s.priv.toNat : Int), .slice B s.params.length d, .string ⟨s.inter.toArray⟩, .int .u8 (s.final.toNat : Int), .string ⟨s.data.toArray⟩], .int .i64 X, .agg #[.int .i64 s.kind, .int .u8 (s.priv.toNat : Int), .slice B s.params.length d, .string ⟨s.inter.toArray⟩, .int .u8 (s.final.toNat : Int), .string ⟨s.data.toArray⟩], .int .i64 Y, .int .i64 N, .int .i64 M, .agg #[.int .i64 0, .int .i64 T, .int .i64 X, .int .i64 Y, .int .i64 M], undef, undef] (by kernel_rfl) (by kernel_rfl) (by kernel_rfl) (fun g => by kernel_rfl) (by kernel_rfl) (Below.refl _ _).drew (by decide)
  (goes_cons (gkP (fun g => .int .i64 N))
  (goes_cons (gkP (fun g => .pointer (some ⟨w1.heap.size, 4, none⟩)))
  (goes_cons (gkC hst (fun W hW => (ls W hW).cell 4) (hah := ahead_path [2] (by kernel_rfl) (by decide)))
  (goes_cons (gkK (fun g => #[.int .i64 N, .int .u8 (s.final.toNat : Int)]) hst (fun g W hW hin => HTY.out W) (hah := ahead_path [3] (by kernel_rfl) (by decide)))
  (goes_cons (gkL hst (fun W hW => ls W hW) Tryz.underlying44 (hah := ahead_path [4] (by kernel_rfl) (by decide)))
  (goes_cons (gkK (fun g => #[.agg #[.int .i64 s.kind, .int .u8 (s.priv.toNat : Int), .slice B s.params.length d, .string ⟨s.inter.toArray⟩, .int .u8 (s.final.toNat : Int), .string ⟨s.data.toArray⟩], .int .i64 1, .int .i64 0]) hst (fun g W hW hin => HX.out W hW) (hah := ahead_path [5] (by kernel_rfl) (by decide)))
  (goes_cons (gkL hst (fun W hW => ls W hW) Tryz.underlying44 (hah := ahead_path [6] (by kernel_rfl) (by decide)))
  (goes_cons (gkK (fun g => #[.agg #[.int .i64 s.kind, .int .u8 (s.priv.toNat : Int), .slice B s.params.length d, .string ⟨s.inter.toArray⟩, .int .u8 (s.final.toNat : Int), .string ⟨s.data.toArray⟩], .int .i64 2, .int .i64 0]) hst (fun g W hW hin => HY.out W hW) (hah := ahead_path [7] (by kernel_rfl) (by decide)))
  (goes_cons (gkP (fun g => .int .i64 N))
  (goes_cons (gkK (fun g => #[.int .i64 N]) hst (fun g W hW hin => HMO.out W) (hah := ahead_path [9] (by kernel_rfl) (by decide)))
  (goes_cons (gkP (fun g => .agg #[.int .i64 0, .int .i64 T, .int .i64 X, .int .i64 Y, .int .i64 M]))
  (goes_cons (goesK_new hst (ahead_path [11] (by kernel_rfl) (by decide)) rfl (by decide) (by decide) 0 rfl (by kernel_rfl) (fun g => by kernel_rfl) rfl (fun g => by kernel_rfl) (fun g w => by kernel_rfl))
  (goes_cons (goesP_put rfl rfl rfl (List.forall_mem_cons.2 ⟨⟨show (11 : Nat) ≠ 12 by decide, [11], by kernel_rfl, show (11 : Nat) ∈ [11] by decide⟩, fun _ h => by cases h⟩) 0 rfl (fun g => by kernel_rfl) rfl rfl (fun g => by kernel_rfl) (fun g => by kernel_rfl) rfl (by kernel_rfl) (by kernel_rfl)) goes_nil))))))))))))) ?_
 intro g ws W _ _ hR5
 obtain ⟨hW, be, hg, hbe, e4⟩ := hR5
 simp only [hg]
 have hB4 := hB3.trans (hW.mono hB3.size)
 have r4 := r3.below hW r3.lt
 have hbr : w.heap.size ≠ be := fun h => by have := r3.lt; omega
 clear ls hst hg hW HX HY HTY HMO q3 r3 r1
 go_wp2_with fail
 go_loopw [28] (fun i wr => ∃ (k : Nat) (z : Int), k ≤ 12 ∧ i = .int .i64 k ∧ Hid (∀ b : Int, 0 ≤ b → b < k → hitB l ⟨b, T, X, Y, M⟩ = false) ∧ Blk wr be 23 #[.int .i64 z, .int .i64 T, .int .i64 X, .int .i64 Y, .int .i64 M] ∧ Blk wr w.heap.size 23 #[.int .i64 0, .int .i64 0, .int .i64 0, .int .i64 0, .int .i64 0] ∧ Below w.heap.size w wr) (fun i _ => 12 - (intOf i).toNat)
 case atStart => exact ⟨0, 0, by omega, rfl, Lib.hid fun b h0 h1 => by omega, e4, r4, hB4⟩
 case round =>
  obtain ⟨k, z, hk, rfl, HK, ek, rk, hbw⟩ := hrel
  clear e4 r4 hB4
  obtain ⟨a0, a1, a2, a3, a4⟩ := Blk.cells5 ek
  have f0 := ek.frozen 0
  by_cases hlt : k < 12
  ·have ek2 := ek.set 0 (.int .i64 k)
   have rk2 := rk.far (a := ⟨be, 0, none⟩) hbr (.int .i64 k)
   have hbw2 := hbw.setCell (p := ⟨be, 0, none⟩) (show w.heap.size ≤ be by have := hB3.size; omega) (.int .i64 k)
   obtain ⟨V, hV⟩ : ∃ V, wr.setCell ⟨be, 0, none⟩ (.int .i64 k) = V := ⟨_, rfl⟩
   rw [hV] at ek2 rk2 hbw2
   obtain ⟨p, hp⟩ : ∃ p, mayT ⟨(k : Int), T, X, Y, M⟩ = p := ⟨_, rfl⟩
   have HM : Hid (∀ W, Calls Tryz.prog 12 #[.agg #[.int .i64 (k : Int), .int .i64 T, .int .i64 X, .int .i64 Y, .int .i64 M]] W fun e w' => e = .returned (.bool p) ∧ Below W.heap.size W w') := Lib.hid fun W => by
    have := tmay_any ⟨(k : Int), T, X, Y, M⟩ W
    rw [hp] at this
    exact this
   have g0 : (0 : Int) ≤ (k : Int) := by omega
   have g1 : (k : Int) < 12 := by omega
   clear ek rk hbw
   obtain ⟨b0, b1, b2, b3, b4⟩ := Blk.cells5 ek2
   cases p with
   | false =>
     have HK2 : Hid (∀ b : Int, 0 ≤ b → b < ((k + 1 : Nat) : Int) → hitB l ⟨b, T, X, Y, M⟩ = false) := Lib.hid fun b h0 h1 => by
      by_cases h : b < k
      ·exact HK.out b h0 h
      ·obtain rfl : b = k := by omega
       unfold hitB
       rw [hp]
       rfl
     clear hp HK
     go_wp2_with fail
     try rw [hV]
     refine (HM.out _).mono ?_
     rintro e w5 ⟨rfl, hb5⟩
     have hB5 := hbw2.trans (hb5.mono hbw2.size)
     have e5 := ek2.below hb5 ek2.lt
     have r5 := rk2.below hb5 rk2.lt
     clear b0 b1 b2 b3 b4 a0 a1 a2 a3 a4 hb5 ek2 rk2 hbw2
     go_wp2_with fail
     go_roundw
     case rel => exact ⟨k + 1, k, by omega, by go_num, HK2, e5, r5, hB5⟩
     case measure => simp [intOf]; omega
   | true =>
     obtain ⟨L, hL⟩ : ∃ L, encM 1003 1006 ⟨(k : Int), T, X, Y, M⟩ = L := ⟨_, rfl⟩
     obtain ⟨n1, hn1⟩ : ∃ n, L.length = n := ⟨_, rfl⟩
     have HE : Hid (∀ W, Below w.heap.size w W → Calls Tryz.prog 6 #[.int .i64 1003, .int .i64 1006, .agg #[.int .i64 (k : Int), .int .i64 T, .int .i64 X, .int .i64 Y, .int .i64 M]] W (OutR L n1 W)) := Lib.hid fun W hW => mencode_any 1003 1006 k T X Y M (by decide) L n1 hL hn1 W (HT.out W hW) (HS.out W hW)
     obtain ⟨q, hq⟩ : ∃ q, (l == L) = q := ⟨_, rfl⟩
     have HQ : Hid (∀ B d W, Rd W A (bs l) → Rd W B (bs L) → Calls Tryz.prog 27 #[.slice A n c, .slice B n1 d] W fun e w' => e = .returned (.bool q) ∧ Below W.heap.size W w') := Lib.hid fun B d W h1 h2 => mequal_any A B c d n n1 l L q HN.out hn1 hq W h1 h2
     have hh : hitB l ⟨(k : Int), T, X, Y, M⟩ = q := by
      unfold hitB
      rw [hp, Bool.true_and, hL, ← hq, Bool.eq_iff_iff, beq_iff_eq, beq_iff_eq]
      exact eq_comm
     have HH := Lib.hid hh
     clear hp hL hn1 hq hh
     go_wp2_with fail
     try rw [hV]
     refine (HM.out _).mono ?_
     rintro e w5 ⟨rfl, hb5⟩
     have hB5 := hbw2.trans (hb5.mono hbw2.size)
     have e5 := ek2.below hb5 ek2.lt
     have r5 := rk2.below hb5 rk2.lt
     clear b0 b1 b2 b3 b4 a0 a1 a2 a3 a4 hb5 ek2 rk2 hbw2 HM
     obtain ⟨b0, b1, b2, b3, b4⟩ := Blk.cells5 e5
     go_wp2_with fail
     refine (HE.out _ hB5).mono ?_
     rintro e w6 ⟨B6, d6, rfl, hd6, hr6, hb6⟩
     have hB6 := hB5.trans (hb6.mono hB5.size)
     have e6 := e5.below hb6 e5.lt
     have r6 := r5.below hb6 r5.lt
     clear b0 b1 b2 b3 b4 hb6 e5 r5 hB5
     go_wp2_with fail
     refine (HQ.out _ _ _ (HR.out _ hB6) hr6).mono ?_
     rintro e w7 ⟨rfl, hb7⟩
     have hB7 := hB6.trans (hb7.mono hB6.size)
     have e7 := e6.below hb7 e6.lt
     have r7 := r6.below hb7 r6.lt
     clear hb7 e6 r6 hB6 HQ HE hr6
     cases q with
     | false =>
       have HK2 : Hid (∀ b : Int, 0 ≤ b → b < ((k + 1 : Nat) : Int) → hitB l ⟨b, T, X, Y, M⟩ = false) := Lib.hid fun b h0 h1 => by
        by_cases h : b < k
        ·exact HK.out b h0 h
        ·obtain rfl : b = k := by omega
         exact HH.out
       clear HK HH
       go_wp2_with fail
       go_roundw
       case rel => exact ⟨k + 1, k, by omega, by go_num, HK2, e7, r7, hB7⟩
       case measure => simp [intOf]; omega
     | true =>
       have HF := Lib.hid (HHIT.out k HH.out)
       obtain ⟨b0, b1, b2, b3, b4⟩ := Blk.cells5 e7
       obtain ⟨z0, z1, z2, z3, z4⟩ := Blk.cells5 r7
       have y0 := r7.frozen 0
       have y1 := r7.frozen 1
       have y2 := r7.frozen 2
       have y3 := r7.frozen 3
       have y4 := r7.frozen 4
       have rE := ((((r7.set 0 (.int .i64 k)).set 1 (.int .i64 T)).set 2 (.int .i64 X)).set 3 (.int .i64 Y)).set 4 (.int .i64 M)
       obtain ⟨x0, x1, x2, x3, x4⟩ := Blk.cells5 rE
       have hBE := ((((hB7.setCell (p := ⟨w.heap.size, 0, none⟩) (Nat.le_refl _) (.int .i64 k)).setCell (p := ⟨w.heap.size, 1, none⟩) (Nat.le_refl _) (.int .i64 T)).setCell (p := ⟨w.heap.size, 2, none⟩) (Nat.le_refl _) (.int .i64 X)).setCell (p := ⟨w.heap.size, 3, none⟩) (Nat.le_refl _) (.int .i64 Y)).setCell (p := ⟨w.heap.size, 4, none⟩) (Nat.le_refl _) (.int .i64 M)
       clear HK HH HHIT HNO rE
       go_wp2_with fail
       refine bodyPost_ret (v := .tuple #[.agg #[.int .i64 k, .int .i64 T, .int .i64 X, .int .i64 Y, .int .i64 M], .bool true]) (by simp [results, Tryz.results10, go_sem, x0, x1, x2, x3, x4]) rfl ⟨by rw [HF.out], hBE⟩
  ·have HF := Lib.hid (HNO.out fun b h0 h1 => HK.out b h0 (by omega))
   have g1 : ¬ ((k : Int) < 12) := by omega
   obtain rfl : k = 12 := by omega
   obtain ⟨z0, z1, z2, z3, z4⟩ := Blk.cells5 rk
   have y0 := rk.frozen 0
   have y1 := rk.frozen 1
   have y2 := rk.frozen 2
   have y3 := rk.frozen 3
   have y4 := rk.frozen 4
   have rE := ((((rk.set 0 (.int .i64 0)).set 1 (.int .i64 0)).set 2 (.int .i64 0)).set 3 (.int .i64 0)).set 4 (.int .i64 0)
   obtain ⟨x0, x1, x2, x3, x4⟩ := Blk.cells5 rE
   have hBE := ((((hbw.setCell (p := ⟨w.heap.size, 0, none⟩) (Nat.le_refl _) (.int .i64 0)).setCell (p := ⟨w.heap.size, 1, none⟩) (Nat.le_refl _) (.int .i64 0)).setCell (p := ⟨w.heap.size, 2, none⟩) (Nat.le_refl _) (.int .i64 0)).setCell (p := ⟨w.heap.size, 3, none⟩) (Nat.le_refl _) (.int .i64 0)).setCell (p := ⟨w.heap.size, 4, none⟩) (Nat.le_refl _) (.int .i64 0)
   clear HK HHIT HNO rE
   go_wp2_with fail
   refine bodyPost_ret (v := .tuple #[.agg #[.int .i64 0, .int .i64 0, .int .i64 0, .int .i64 0, .int .i64 0], .bool false]) (by simp [results, Tryz.results10, go_sem, x0, x1, x2, x3, x4]) rfl ⟨by rw [HF.out], hBE⟩
end Go.Proofs.YtjlhhelikiegdaaGreatDoor
