/-
  Layer 16, walked: the document's Decode.
-/
import Derived.Test.YtjlhhelikiegdaaGreatDoorG06
import Derived.Test.YtjlhhelikiegdaaGreatDoorG19
import Derived.Test.YtjlhhelikiegdaaGreatDoorG24
import Derived.Test.YtjlhhelikiegdaaGreatDoorG41
import Derived.Test.YtjlhhelikiegdaaGreatDoorG42
import Derived.Test.YtjlhhelikiegdaaGreatDoorG44
namespace Go.Proofs.YtjlhhelikiegdaaGreatDoor
open Go.RowKit
theorem arg_rng16 {ps : List (List Int)} (h : parOk ps = true) (i : Int) : 0 ≤ argL ps i 0 ∧ argL ps i 0 ≤ 1114111 := by
 unfold argL
 split
 ·omega
 ·rename_i hi
  have hlt : i.toNat < ps.length := by omega
  have hm : ps.getD i.toNat [] ∈ ps := by
   rw [List.getD_eq_getElem?_getD, List.getElem?_eq_getElem hlt]
   exact List.getElem_mem hlt
  generalize ps.getD i.toNat [] = p at hm
  unfold parOk at h
  simp only [Bool.and_eq_true, List.all_eq_true, decide_eq_true_eq] at h
  have hp := (h.2 p hm).2
  cases p with
  | nil => simp [headI]
  | cons n q =>
    have hn := hp n (List.mem_cons_self ..)
    show 0 ≤ (if n < 0 then (0 : Int) else n) ∧ (if n < 0 then (0 : Int) else n) ≤ 1114111
    split <;> omega
def DecE (x : Ms × Bool) (w : World) (e : Ending) (w' : World) : Prop := e = .returned (.tuple #[.agg #[.int .i64 x.1.btn, .int .i64 x.1.typ, .int .i64 x.1.x, .int .i64 x.1.y, .int .i64 x.1.mods], .bool x.2]) ∧ Below w.heap.size w w'
theorem gtr_run {ev : Operand → Value} {o : Oper} {j : Operand} {x k : Int} {q : Bool} (ho : o.op = .binOp .gtr 3 j (.const (.int .i64 k)) 3) (hx : ev j = .int .i64 x) (hy : ev (.const (.int .i64 k)) = .int .i64 k) (h : decide (k < x) = q) (w : World) : (execOp ev o).run Tryz.prog w = .ok (.value (.bool q)) w := by
 unfold execOp
 simp only [ho, hx, hy]
 rw [← h]
 kernel_rfl
theorem sne_run (E l : List UInt8) (q : Bool) (h : q = true ↔ E ≠ l) (x y : Operand) (w : World) : (do eqGuard .neq 9 x y (.string ⟨E.toArray⟩) (.string ⟨l.toArray⟩); binOp .neq 9 (.string ⟨E.toArray⟩) (.string ⟨l.toArray⟩) : Sem Value).run Tryz.prog w = .ok (.bool q) w := by
 cases q with
 | false =>
   have e : E = l := Classical.byContradiction fun hn => by simpa using h.2 hn
   subst e
   go_simp
 | true =>
   have hn : ¬ E = l := h.1 rfl
   have hne : (⟨E.toArray⟩ : ByteArray) ≠ ⟨l.toArray⟩ := str_ne hn
   go_simp
set_option maxRecDepth 100000 in
set_option maxHeartbeats 16000000 in
theorem rdecode16_any (A : Option Addr) (n c : Nat) (l : List UInt8) (hn : l.length = n) (hlc : n ≤ c) (hl : n ≤ 4294967) (w : World) (hr : Rd w A (bs l)) : Calls Tryz.prog 11 #[.slice A n c] w (DecE (decM l) w) := by
 have HN := Lib.hid hn
 have hB0 : Below w.heap.size w (w.alloc (.cells #[.int .i64 0, .int .i64 0, .int .i64 0, .int .i64 0, .int .i64 0] 23)) := (Below.refl _ w).alloc (Nat.le_refl _) _
 have r0 := Blk.new w 23 #[.int .i64 0, .int .i64 0, .int .i64 0, .int .i64 0, .int .i64 0]
 obtain ⟨w0, hw0⟩ : ∃ W, w.alloc (.cells #[.int .i64 0, .int .i64 0, .int .i64 0, .int .i64 0, .int .i64 0] 23) = W := ⟨_, rfl⟩
 have HTK : Hid (∀ W, Below w.heap.size w W → Calls Tryz.prog 28 #[.slice A n c] W (RTk l W)) := Lib.hid fun W hW => rtakeW_any A n c l W hn hlc hl (hr.below hW)
 have HR : Hid (∀ W, Below w.heap.size w W → Rd W A (bs l)) := Lib.hid fun W hW => hr.below hW
 clear hn hr
 rw [hw0] at hB0 r0
 cases htk : takeS l with
 | none =>
   have HF := Lib.hid (show decM l = (⟨0, 0, 0, 0, 0⟩, false) by unfold decM; rw [htk])
   go_enter Tryz.func11, Tryz.ntmps11
   go_wp2_with fail
   try rw [hw0]
   refine (HTK.out _ hB0).mono ?_
   rintro e w1 ⟨he, hb⟩
   rw [htk] at he
   subst he
   have hB1 := hB0.trans (hb.mono hB0.size)
   have r1 := r0.below hb r0.lt
   clear hb r0 hw0 HTK hB0 htk HR
   unfold zeroS
   have r2 := r1.alloc (.cells #[.int .i64 0, .int .u8 0, .slice none 0 0, .string ⟨#[]⟩, .int .u8 0, .string ⟨#[]⟩] 44)
   have hB2 := hB1.alloc hB1.size (.cells #[.int .i64 0, .int .u8 0, .slice none 0 0, .string ⟨#[]⟩, .int .u8 0, .string ⟨#[]⟩] 44)
   obtain ⟨z0, z1, z2, z3, z4⟩ := Blk.cells5 r2
   have y0 := r2.frozen 0
   have y1 := r2.frozen 1
   have y2 := r2.frozen 2
   have y3 := r2.frozen 3
   have y4 := r2.frozen 4
   have rE := ((((r2.set 0 (.int .i64 0)).set 1 (.int .i64 0)).set 2 (.int .i64 0)).set 3 (.int .i64 0)).set 4 (.int .i64 0)
   obtain ⟨x0, x1, x2, x3, x4⟩ := Blk.cells5 rE
   have hBE := ((((hB2.setCell (p := ⟨w.heap.size, 0, none⟩) (Nat.le_refl _) (.int .i64 0)).setCell (p := ⟨w.heap.size, 1, none⟩) (Nat.le_refl _) (.int .i64 0)).setCell (p := ⟨w.heap.size, 2, none⟩) (Nat.le_refl _) (.int .i64 0)).setCell (p := ⟨w.heap.size, 3, none⟩) (Nat.le_refl _) (.int .i64 0)).setCell (p := ⟨w.heap.size, 4, none⟩) (Nat.le_refl _) (.int .i64 0)
   clear rE
   go_wp2_with fail
   refine bodyPost_ret (v := .tuple #[.agg #[.int .i64 0, .int .i64 0, .int .i64 0, .int .i64 0, .int .i64 0], .bool false]) (by simp [results, Tryz.results11, go_sem, x0, x1, x2, x3, x4]) rfl ⟨by rw [HF.out], hBE⟩
 | some sm =>
   obtain ⟨s, m⟩ := sm
   have hm0 := (takeS_some htk).1
   have hpo := (ok_parts hm0).2.2.1
   have hnp : s.params.length ≤ 4294967296 := by have := (parOk_lens hpo).1; omega
   have hdd : decM l = decS s l := by unfold decM; rw [htk]
   go_enter Tryz.func11, Tryz.ntmps11
   go_wp2_with fail
   try rw [hw0]
   refine (HTK.out _ hB0).mono ?_
   rintro e w1 ⟨he, hb⟩
   rw [htk] at he
   obtain ⟨B, d, rfl, hp⟩ := he
   have hB1 := hB0.trans (hb.mono hB0.size)
   have r1 := r0.below hb r0.lt
   clear hb r0 hw0 HTK hB0 htk hm0
   unfold sqV
   have q2 := Blk.new w1 44 #[.int .i64 s.kind, .int .u8 (s.priv.toNat : Int), .slice B s.params.length d, .string ⟨s.inter.toArray⟩, .int .u8 (s.final.toNat : Int), .string ⟨s.data.toArray⟩]
   have hB2 := hB1.alloc hB1.size (.cells #[.int .i64 s.kind, .int .u8 (s.priv.toNat : Int), .slice B s.params.length d, .string ⟨s.inter.toArray⟩, .int .u8 (s.final.toNat : Int), .string ⟨s.data.toArray⟩] 44)
   have r2 := r1.alloc (.cells #[.int .i64 s.kind, .int .u8 (s.priv.toNat : Int), .slice B s.params.length d, .string ⟨s.inter.toArray⟩, .int .u8 (s.final.toNat : Int), .string ⟨s.data.toArray⟩] 44)
   have p2 := hp.alloc (.cells #[.int .i64 s.kind, .int .u8 (s.priv.toNat : Int), .slice B s.params.length d, .string ⟨s.inter.toArray⟩, .int .u8 (s.final.toNat : Int), .string ⟨s.data.toArray⟩] 44)
   obtain ⟨c0, c1, c2, c3, c4, c5⟩ := Blk.cells6 q2
   by_cases h3 : s.params.length = 3
   case neg =>
    have HF := Lib.hid (show decM l = (⟨0, 0, 0, 0, 0⟩, false) by rw [hdd]; unfold decS; rw [if_pos h3])
    have t3 : ((s.params.length : Int) != 3) = true := bne_iff_ne.2 (by omega)
    clear hdd hpo h3 HR q2 p2 hp r1 hB1
    obtain ⟨z0, z1, z2, z3, z4⟩ := Blk.cells5 r2
    have y0 := r2.frozen 0
    have y1 := r2.frozen 1
    have y2 := r2.frozen 2
    have y3 := r2.frozen 3
    have y4 := r2.frozen 4
    have rE := ((((r2.set 0 (.int .i64 0)).set 1 (.int .i64 0)).set 2 (.int .i64 0)).set 3 (.int .i64 0)).set 4 (.int .i64 0)
    obtain ⟨x0, x1, x2, x3, x4⟩ := Blk.cells5 rE
    have hBE := ((((hB2.setCell (p := ⟨w.heap.size, 0, none⟩) (Nat.le_refl _) (.int .i64 0)).setCell (p := ⟨w.heap.size, 1, none⟩) (Nat.le_refl _) (.int .i64 0)).setCell (p := ⟨w.heap.size, 2, none⟩) (Nat.le_refl _) (.int .i64 0)).setCell (p := ⟨w.heap.size, 3, none⟩) (Nat.le_refl _) (.int .i64 0)).setCell (p := ⟨w.heap.size, 4, none⟩) (Nat.le_refl _) (.int .i64 0)
    clear rE
    go_wp2_with fail
    refine bodyPost_ret (v := .tuple #[.agg #[.int .i64 0, .int .i64 0, .int .i64 0, .int .i64 0, .int .i64 0], .bool false]) (by simp [results, Tryz.results11, go_sem, x0, x1, x2, x3, x4]) rfl ⟨by rw [HF.out], hBE⟩
   obtain ⟨w2, hw2⟩ : ∃ W, w1.alloc (.cells #[.int .i64 s.kind, .int .u8 (s.priv.toNat : Int), .slice B s.params.length d, .string ⟨s.inter.toArray⟩, .int .u8 (s.final.toNat : Int), .string ⟨s.data.toArray⟩] 44) = W := ⟨_, rfl⟩
   rw [hw2] at q2 hB2 r2 p2 c0 c1 c2 c3 c4 c5
   have HA0 : Hid (∀ W, Below w2.heap.size w2 W → Calls Tryz.prog 29 #[.agg #[.int .i64 s.kind, .int .u8 (s.priv.toNat : Int), .slice B s.params.length d, .string ⟨s.inter.toArray⟩, .int .u8 (s.final.toNat : Int), .string ⟨s.data.toArray⟩], .int .i64 0, .int .i64 0] W fun e w' => e = .returned (.int .i64 (argL s.params 0 0)) ∧ Below W.heap.size W w') := Lib.hid fun W hW => rarg_any s B d 0 0 _ W rfl (by decide) (by decide) hnp (p2.below hW)
   have HA1 : Hid (∀ W, Below w2.heap.size w2 W → Calls Tryz.prog 29 #[.agg #[.int .i64 s.kind, .int .u8 (s.priv.toNat : Int), .slice B s.params.length d, .string ⟨s.inter.toArray⟩, .int .u8 (s.final.toNat : Int), .string ⟨s.data.toArray⟩], .int .i64 1, .int .i64 0] W fun e w' => e = .returned (.int .i64 (argL s.params 1 0)) ∧ Below W.heap.size W w') := Lib.hid fun W hW => rarg_any s B d 1 0 _ W rfl (by decide) (by decide) hnp (p2.below hW)
   have HA2 : Hid (∀ W, Below w2.heap.size w2 W → Calls Tryz.prog 29 #[.agg #[.int .i64 s.kind, .int .u8 (s.priv.toNat : Int), .slice B s.params.length d, .string ⟨s.inter.toArray⟩, .int .u8 (s.final.toNat : Int), .string ⟨s.data.toArray⟩], .int .i64 2, .int .i64 0] W fun e w' => e = .returned (.int .i64 (argL s.params 2 0)) ∧ Below W.heap.size W w') := Lib.hid fun W hW => rarg_any s B d 2 0 _ W rfl (by decide) (by decide) hnp (p2.below hW)
   have hnr := arg_rng16 hpo 0
   have hds : decS s l = if 255 < argL s.params 0 0 ∨ mayT (guessM (argL s.params 0 0) (argL s.params 1 0) (argL s.params 2 0) (s.final == 109)) = false ∨ encM 1003 1006 (guessM (argL s.params 0 0) (argL s.params 1 0) (argL s.params 2 0) (s.final == 109)) ≠ l then (⟨0, 0, 0, 0, 0⟩, false) else (guessM (argL s.params 0 0) (argL s.params 1 0) (argL s.params 2 0) (s.final == 109), true) := by
    unfold decS
    rw [if_neg (fun h => h h3)]
   have hfe : (s.final == 109) = ((s.final.toNat : Int) == 109) := by
    by_cases h : s.final = 109
    ·rw [h]; rfl
    ·rw [beq_false_of_ne h, beq_false_of_ne (fun e => h (by apply UInt8.toNat_inj.1; show s.final.toNat = 109; omega))]
   rw [hfe] at hds
   obtain ⟨N, hN⟩ : ∃ N, argL s.params 0 0 = N := ⟨_, rfl⟩
   obtain ⟨X, hX⟩ : ∃ N, argL s.params 1 0 = N := ⟨_, rfl⟩
   obtain ⟨Y, hY⟩ : ∃ N, argL s.params 2 0 = N := ⟨_, rfl⟩
   rw [hN, hX, hY] at hds
   rw [hN] at hnr HA0
   rw [hX] at HA1
   rw [hY] at HA2
   obtain ⟨⟨gb, gt, gx, gy, gm⟩, hg⟩ : ∃ g, guessM N X Y ((s.final.toNat : Int) == 109) = g := ⟨_, rfl⟩
   rw [hg] at hds
   have HG : Hid (∀ W, Calls Tryz.prog 30 #[.int .i64 N, .int .i64 X, .int .i64 Y, .bool ((s.final.toNat : Int) == 109)] W fun e w' => e = .returned (.agg #[.int .i64 gb, .int .i64 gt, .int .i64 gx, .int .i64 gy, .int .i64 gm]) ∧ Below W.heap.size W w') := Lib.hid fun W => rguess16_any N X Y _ ⟨gb, gt, gx, gy, gm⟩ hnr.1 (by omega) hg W
   have hde := hdd.trans hds
   rw [h3] at q2 hw2 c2 HA0 HA1 HA2 ⊢
   clear hN hX hY hg hdd hds hfe hpo hnp h3 hnr hp r1 hB1
   go_wp2_with fail
   all_goals
    try rw [hw2]
    refine (HA0.out _ (Below.refl _ _)).mono ?_
    rintro e w3 ⟨rfl, hb3⟩
    have hB3 := hB2.trans (hb3.mono hB2.size)
    have q3 := q2.below hb3 q2.lt
    have r3 := r2.below hb3 r2.lt
    have HX : Hid (∀ W, Below w3.heap.size w3 W → Calls Tryz.prog 29 #[.agg #[.int .i64 s.kind, .int .u8 (s.priv.toNat : Int), .slice B 3 d, .string ⟨s.inter.toArray⟩, .int .u8 (s.final.toNat : Int), .string ⟨s.data.toArray⟩], .int .i64 1, .int .i64 0] W fun e w' => e = .returned (.int .i64 X) ∧ Below W.heap.size W w') := Lib.hid fun W hW => HA1.out W (hb3.trans (hW.mono hb3.size))
    have HY : Hid (∀ W, Below w3.heap.size w3 W → Calls Tryz.prog 29 #[.agg #[.int .i64 s.kind, .int .u8 (s.priv.toNat : Int), .slice B 3 d, .string ⟨s.inter.toArray⟩, .int .u8 (s.final.toNat : Int), .string ⟨s.data.toArray⟩], .int .i64 2, .int .i64 0] W fun e w' => e = .returned (.int .i64 Y) ∧ Below W.heap.size W w') := Lib.hid fun W hW => HA2.out W (hb3.trans (hW.mono hb3.size))
    clear HA0 HA1 HA2 c0 c1 c2 c3 c4 c5 hb3 q2 r2 hw2 hB2 p2
    have ls : ∀ W, Below w3.heap.size w3 W → Blk W w1.heap.size 44 #[.int .i64 s.kind, .int .u8 (s.priv.toNat : Int), .slice B 3 d, .string ⟨s.inter.toArray⟩, .int .u8 (s.final.toNat : Int), .string ⟨s.data.toArray⟩] := fun W hW => q3.below hW q3.lt
    have hst : ∀ f ∈ ([⟨9, 8, FNew w3 23 #[.int .i64 0, .int .i64 0, .int .i64 0, .int .i64 0, .int .i64 0]⟩] : List Fact), f.ok := List.forall_mem_cons.2 ⟨fnew_ok _ _ _ _ _, fun _ h => by cases h⟩
    go_upto_region 5 with (fail)
    refine wp_region_last (w1 := w3) (K := [⟨9, 8, FNew w3 23 #[.int .i64 0, .int .i64 0, .int .i64 0, .int .i64 0, .int .i64 0]⟩]) (ix := 10) (iz := 10) (R0 := fun _ _ _ => True) (R1 := fun g _ w => Below w3.heap.size w3 w ∧ FNew w3 23 #[.int .i64 gb, .int .i64 gt, .int .i64 gx, .int .i64 gy, .int .i64 gm] (g 8) w) [8] (⟨#[.slice A n c, undef, .pointer (some ⟨w.heap.size, 0, none⟩), .bool false, .pointer (some ⟨w1.heap.size, 0, none⟩), .int .i64 (m : Int), .int .i64 0, .int .i64 N, undef, .tuple #[.agg #[.int .i64 s.kind, .int .u8 (s.priv.toNat : Int), .slice B 3 d, .string ⟨s.inter.toArray⟩, .int .u8 (s.final.toNat : Int), .string ⟨s.data.toArray⟩], .int .i64 (m : Int), .int .i64 0], .slice A n c, .tuple #[.agg #[.int .i64 s.kind, .int .u8 (s.priv.toNat : Int), .slice B 3 d, .string ⟨s.inter.toArray⟩, .int .u8 (s.final.toNat : Int), .string ⟨s.data.toArray⟩], .int .i64 (m : Int), .int .i64 0], .agg #[.int .i64 s.kind, .int .u8 (s.priv.toNat : Int), .slice B 3 d, .string ⟨s.inter.toArray⟩, .int .u8 (s.final.toNat : Int), .string ⟨s.data.toArray⟩], .int .i64 (m : Int), .int .i64 0, .int .i64 0, .bool false, .bool false, .pointer (some ⟨w1.heap.size, 2, none⟩), .slice B 3 d, .int .i64 3, .bool false, .bool false, undef, .agg #[.int .i64 s.kind, .int .u8 (s.priv.toNat : Int), .slice B 3 d, .string ⟨s.inter.toArray⟩, .int .u8 (s.final.toNat : Int), .string ⟨s.data.toArray⟩], .int .i64 N, .int .i64 N, .agg #[.int .i64 s.kind, .int .u8 (s.priv.toNat : Int), .slice B 3 d, .string ⟨s.inter.toArray⟩, .int .u8 (s.final.toNat : Int), .string ⟨s.data.toArray⟩], .int .i64 X, .agg #[.int .i64 s.kind, .int .u8 (s.priv.toNat : Int), .slice B 3 d, .string ⟨s.inter.toArray⟩, .int .u8 (s.final.toNat : Int), .string ⟨s.data.toArray⟩], .int .i64 Y, .pointer (some ⟨w1.heap.size, 4, none⟩), .int .u8 (s.final.toNat : Int), .bool ((s.final.toNat : Int) == 109), .agg #[.int .i64 gb, .int .i64 gt, .int .i64 gx, .int .i64 gy, .int .i64 gm], undef, undef, undef, undef, undef, undef, undef, undef, undef, undef, undef, undef, undef, undef, undef, undef, undef], []⟩) (fun g => ⟨#[.slice A n c, undef, .pointer (some ⟨w.heap.size, 0, none⟩), .bool false, .pointer (some ⟨w1.heap.size, 0, none⟩), .int .i64 (m : Int), .int .i64 0, .int .i64 N, (g 8), .tuple #[.agg #[.int .i64 s.kind, .int .u8 (s.priv.toNat : Int), .slice B 3 d, .string ⟨s.inter.toArray⟩, .int .u8 (s.final.toNat : Int), .string ⟨s.data.toArray⟩], .int .i64 (m : Int), .int .i64 0], .slice A n c, .tuple #[.agg #[.int .i64 s.kind, .int .u8 (s.priv.toNat : Int), .slice B 3 d, .string ⟨s.inter.toArray⟩, .int .u8 (s.final.toNat : Int), .string ⟨s.data.toArray⟩], .int .i64 (m : Int), .int .i64 0], .agg #[.int .i64 s.kind, .int .u8 (s.priv.toNat : Int), .slice B 3 d, .string ⟨s.inter.toArray⟩, .int .u8 (s.final.toNat : Int), .string ⟨s.data.toArray⟩], .int .i64 (m : Int), .int .i64 0, .int .i64 0, .bool false, .bool false, .pointer (some ⟨w1.heap.size, 2, none⟩), .slice B 3 d, .int .i64 3, .bool false, .bool false, undef, .agg #[.int .i64 s.kind, .int .u8 (s.priv.toNat : Int), .slice B 3 d, .string ⟨s.inter.toArray⟩, .int .u8 (s.final.toNat : Int), .string ⟨s.data.toArray⟩], .int .i64 N, .int .i64 N, .agg #[.int .i64 s.kind, .int .u8 (s.priv.toNat : Int), .slice B 3 d, .string ⟨s.inter.toArray⟩, .int .u8 (s.final.toNat : Int), .string ⟨s.data.toArray⟩], .int .i64 X, .agg #[.int .i64 s.kind, .int .u8 (s.priv.toNat : Int), .slice B 3 d, .string ⟨s.inter.toArray⟩, .int .u8 (s.final.toNat : Int), .string ⟨s.data.toArray⟩], .int .i64 Y, .pointer (some ⟨w1.heap.size, 4, none⟩), .int .u8 (s.final.toNat : Int), .bool ((s.final.toNat : Int) == 109), .agg #[.int .i64 gb, .int .i64 gt, .int .i64 gx, .int .i64 gy, .int .i64 gm], undef, undef, undef, undef, undef, undef, undef, undef, undef, undef, undef, undef, undef, undef, undef, undef, undef], []⟩) [.int .i64 N, .agg #[.int .i64 s.kind, .int .u8 (s.priv.toNat : Int), .slice B 3 d, .string ⟨s.inter.toArray⟩, .int .u8 (s.final.toNat : Int), .string ⟨s.data.toArray⟩], .int .i64 X, .agg #[.int .i64 s.kind, .int .u8 (s.priv.toNat : Int), .slice B 3 d, .string ⟨s.inter.toArray⟩, .int .u8 (s.final.toNat : Int), .string ⟨s.data.toArray⟩], .int .i64 Y, .pointer (some ⟨w1.heap.size, 4, none⟩), .int .u8 (s.final.toNat : Int), .bool ((s.final.toNat : Int) == 109), .agg #[.int .i64 gb, .int .i64 gt, .int .i64 gx, .int .i64 gy, .int .i64 gm], undef, undef] (by kernel_rfl) (by kernel_rfl) (by kernel_rfl) (fun g => by kernel_rfl) (by kernel_rfl) (Below.refl _ _).drew (by decide)
     (goes_cons (gkP (fun g => .int .i64 N))
     (goes_cons (gkL hst (fun W hW => ls W hW) Tryz.underlying44 (hah := ahead_path [1] (by kernel_rfl) (by decide)))
     (goes_cons (gkK (fun g => #[.agg #[.int .i64 s.kind, .int .u8 (s.priv.toNat : Int), .slice B 3 d, .string ⟨s.inter.toArray⟩, .int .u8 (s.final.toNat : Int), .string ⟨s.data.toArray⟩], .int .i64 1, .int .i64 0]) hst (fun g W hW hin => HX.out W hW) (hah := ahead_path [2] (by kernel_rfl) (by decide)))
     (goes_cons (gkL hst (fun W hW => ls W hW) Tryz.underlying44 (hah := ahead_path [3] (by kernel_rfl) (by decide)))
     (goes_cons (gkK (fun g => #[.agg #[.int .i64 s.kind, .int .u8 (s.priv.toNat : Int), .slice B 3 d, .string ⟨s.inter.toArray⟩, .int .u8 (s.final.toNat : Int), .string ⟨s.data.toArray⟩], .int .i64 2, .int .i64 0]) hst (fun g W hW hin => HY.out W hW) (hah := ahead_path [4] (by kernel_rfl) (by decide)))
     (goes_cons (gkP (fun g => .pointer (some ⟨w1.heap.size, 4, none⟩)))
     (goes_cons (gkC hst (fun W hW => (ls W hW).cell 4) (hah := ahead_path [6] (by kernel_rfl) (by decide)))
     (goes_cons (gkP (fun g => .bool ((s.final.toNat : Int) == 109)))
     (goes_cons (gkK (fun g => #[.int .i64 N, .int .i64 X, .int .i64 Y, .bool ((s.final.toNat : Int) == 109)]) hst (fun g W hW hin => HG.out W) (hah := ahead_path [8] (by kernel_rfl) (by decide)))
     (goes_cons (goesK_new hst (ahead_path [9] (by kernel_rfl) (by decide)) rfl (by decide) (by decide) 0 rfl (by kernel_rfl) (fun g => by kernel_rfl) rfl (fun g => by kernel_rfl) (fun g w => by kernel_rfl))
     (goes_cons (goesP_put rfl rfl rfl (List.forall_mem_cons.2 ⟨⟨show (9 : Nat) ≠ 10 by decide, [9], by kernel_rfl, show (9 : Nat) ∈ [9] by decide⟩, fun _ h => by cases h⟩) 0 rfl (fun g => by kernel_rfl) rfl rfl (fun g => by kernel_rfl) (fun g => by kernel_rfl) rfl (by kernel_rfl) (by kernel_rfl)) goes_nil))))))))))) ?_
    intro g ws w5 _ _ hR5
    obtain ⟨hW, be, hg, hbe, e5⟩ := hR5
    simp only [hg]
    have hB5 := hB3.trans (hW.mono hB3.size)
    have r5 := r3.below hW r3.lt
    have lg : ∀ W, Below w5.heap.size w5 W → Blk W be 23 #[.int .i64 gb, .int .i64 gt, .int .i64 gx, .int .i64 gy, .int .i64 gm] := fun W hW => e5.below hW e5.lt
    clear ls hst hg hW HX HY HG q3 r3 hB3
    by_cases h255 : 255 < N
    ·have HF := Lib.hid (show decM l = (⟨0, 0, 0, 0, 0⟩, false) by rw [hde, if_pos (.inl h255)])
     have hgt : decide (255 < N) = true := decide_eq_true h255
     clear hde h255
     have hst : ∀ f ∈ ([] : List Fact), f.ok := fun _ h => by cases h
     go_upto_region 6 with (fail)
     refine wp_region_told (w1 := w5) (K := []) (ix := 1000) (R0 := fun _ _ _ => True) (R1 := fun _ _ _ => True) [] (⟨#[.slice A n c, undef, .pointer (some ⟨w.heap.size, 0, none⟩), .bool false, .pointer (some ⟨w1.heap.size, 0, none⟩), .int .i64 (m : Int), .int .i64 0, .int .i64 N, .pointer (some ⟨be, 0, none⟩), .tuple #[.agg #[.int .i64 s.kind, .int .u8 (s.priv.toNat : Int), .slice B 3 d, .string ⟨s.inter.toArray⟩, .int .u8 (s.final.toNat : Int), .string ⟨s.data.toArray⟩], .int .i64 (m : Int), .int .i64 0], .slice A n c, .tuple #[.agg #[.int .i64 s.kind, .int .u8 (s.priv.toNat : Int), .slice B 3 d, .string ⟨s.inter.toArray⟩, .int .u8 (s.final.toNat : Int), .string ⟨s.data.toArray⟩], .int .i64 (m : Int), .int .i64 0], .agg #[.int .i64 s.kind, .int .u8 (s.priv.toNat : Int), .slice B 3 d, .string ⟨s.inter.toArray⟩, .int .u8 (s.final.toNat : Int), .string ⟨s.data.toArray⟩], .int .i64 (m : Int), .int .i64 0, .int .i64 0, .bool false, .bool false, .pointer (some ⟨w1.heap.size, 2, none⟩), .slice B 3 d, .int .i64 3, .bool false, .bool false, undef, .agg #[.int .i64 s.kind, .int .u8 (s.priv.toNat : Int), .slice B 3 d, .string ⟨s.inter.toArray⟩, .int .u8 (s.final.toNat : Int), .string ⟨s.data.toArray⟩], .int .i64 N, .int .i64 N, .agg #[.int .i64 s.kind, .int .u8 (s.priv.toNat : Int), .slice B 3 d, .string ⟨s.inter.toArray⟩, .int .u8 (s.final.toNat : Int), .string ⟨s.data.toArray⟩], .int .i64 X, .agg #[.int .i64 s.kind, .int .u8 (s.priv.toNat : Int), .slice B 3 d, .string ⟨s.inter.toArray⟩, .int .u8 (s.final.toNat : Int), .string ⟨s.data.toArray⟩], .int .i64 Y, .pointer (some ⟨w1.heap.size, 4, none⟩), .int .u8 (s.final.toNat : Int), .bool ((s.final.toNat : Int) == 109), .agg #[.int .i64 gb, .int .i64 gt, .int .i64 gx, .int .i64 gy, .int .i64 gm], .int .i64 N, .bool true, .bool true, undef, undef, undef, .bool true, .bool true, undef, undef, undef, undef, undef, undef, .bool true, undef, undef], []⟩) (fun g => ⟨#[.slice A n c, undef, .pointer (some ⟨w.heap.size, 0, none⟩), .bool false, .pointer (some ⟨w1.heap.size, 0, none⟩), .int .i64 (m : Int), .int .i64 0, .int .i64 N, .pointer (some ⟨be, 0, none⟩), .tuple #[.agg #[.int .i64 s.kind, .int .u8 (s.priv.toNat : Int), .slice B 3 d, .string ⟨s.inter.toArray⟩, .int .u8 (s.final.toNat : Int), .string ⟨s.data.toArray⟩], .int .i64 (m : Int), .int .i64 0], .slice A n c, .tuple #[.agg #[.int .i64 s.kind, .int .u8 (s.priv.toNat : Int), .slice B 3 d, .string ⟨s.inter.toArray⟩, .int .u8 (s.final.toNat : Int), .string ⟨s.data.toArray⟩], .int .i64 (m : Int), .int .i64 0], .agg #[.int .i64 s.kind, .int .u8 (s.priv.toNat : Int), .slice B 3 d, .string ⟨s.inter.toArray⟩, .int .u8 (s.final.toNat : Int), .string ⟨s.data.toArray⟩], .int .i64 (m : Int), .int .i64 0, .int .i64 0, .bool false, .bool false, .pointer (some ⟨w1.heap.size, 2, none⟩), .slice B 3 d, .int .i64 3, .bool false, .bool false, undef, .agg #[.int .i64 s.kind, .int .u8 (s.priv.toNat : Int), .slice B 3 d, .string ⟨s.inter.toArray⟩, .int .u8 (s.final.toNat : Int), .string ⟨s.data.toArray⟩], .int .i64 N, .int .i64 N, .agg #[.int .i64 s.kind, .int .u8 (s.priv.toNat : Int), .slice B 3 d, .string ⟨s.inter.toArray⟩, .int .u8 (s.final.toNat : Int), .string ⟨s.data.toArray⟩], .int .i64 X, .agg #[.int .i64 s.kind, .int .u8 (s.priv.toNat : Int), .slice B 3 d, .string ⟨s.inter.toArray⟩, .int .u8 (s.final.toNat : Int), .string ⟨s.data.toArray⟩], .int .i64 Y, .pointer (some ⟨w1.heap.size, 4, none⟩), .int .u8 (s.final.toNat : Int), .bool ((s.final.toNat : Int) == 109), .agg #[.int .i64 gb, .int .i64 gt, .int .i64 gx, .int .i64 gy, .int .i64 gm], .int .i64 N, .bool true, .bool true, undef, undef, undef, .bool true, .bool true, undef, undef, undef, undef, undef, undef, .bool true, undef, undef], []⟩) [.int .i64 N, .bool true, .bool true, undef, undef, undef, .bool true, .bool true, undef, undef, undef, undef, undef, undef, .bool true] (by kernel_rfl) (by kernel_rfl) (by kernel_rfl) (fun g => by kernel_rfl) (by kernel_rfl) (Below.refl _ _).drew (by decide) (by kernel_rfl)
      (goes_cons (gkP (fun _ => .int .i64 N))
      (goes_cons (gkP (fun _ => .bool true) (h := (fun g w => gtr_run rfl rfl rfl hgt w)))
      (goes_cons (gkP (fun _ => .bool true))
      (goes_cons gkO
      (goes_cons gkO
      (goes_cons gkO
      (goes_cons (gkP (fun _ => .bool true))
      (goes_cons (gkP (fun _ => .bool true))
      (goes_cons gkO
      (goes_cons gkO
      (goes_cons gkO
      (goes_cons gkO
      (goes_cons gkO
      (goes_cons gkO
      (goes_cons (gkP (fun _ => .bool true)) goes_nil))))))))))))))) ?_
     intro g W hW _
     have hB6 := hB5.trans (hW.mono hB5.size)
     have r6 := r5.below hW r5.lt
     have g6 := lg W hW
     clear hst lg
     obtain ⟨z0, z1, z2, z3, z4⟩ := Blk.cells5 r6
     have y0 := r6.frozen 0
     have y1 := r6.frozen 1
     have y2 := r6.frozen 2
     have y3 := r6.frozen 3
     have y4 := r6.frozen 4
     have rE := ((((r6.set 0 (.int .i64 0)).set 1 (.int .i64 0)).set 2 (.int .i64 0)).set 3 (.int .i64 0)).set 4 (.int .i64 0)
     obtain ⟨x0, x1, x2, x3, x4⟩ := Blk.cells5 rE
     have hBE := ((((hB6.setCell (p := ⟨w.heap.size, 0, none⟩) (Nat.le_refl _) (.int .i64 0)).setCell (p := ⟨w.heap.size, 1, none⟩) (Nat.le_refl _) (.int .i64 0)).setCell (p := ⟨w.heap.size, 2, none⟩) (Nat.le_refl _) (.int .i64 0)).setCell (p := ⟨w.heap.size, 3, none⟩) (Nat.le_refl _) (.int .i64 0)).setCell (p := ⟨w.heap.size, 4, none⟩) (Nat.le_refl _) (.int .i64 0)
     clear rE
     go_wp2_with fail
     refine bodyPost_ret (v := .tuple #[.agg #[.int .i64 0, .int .i64 0, .int .i64 0, .int .i64 0, .int .i64 0], .bool false]) (by simp [results, Tryz.results11, go_sem, x0, x1, x2, x3, x4]) rfl ⟨by rw [HF.out], hBE⟩
    have hgt : decide (255 < N) = false := decide_eq_false h255
    obtain ⟨p, hpm⟩ : ∃ p, mayT ⟨gb, gt, gx, gy, gm⟩ = p := ⟨_, rfl⟩
    have HM : Hid (∀ W, Calls Tryz.prog 14 #[.agg #[.int .i64 gb, .int .i64 gt, .int .i64 gx, .int .i64 gy, .int .i64 gm]] W fun e w' => e = .returned (.bool p) ∧ Below W.heap.size W w') := Lib.hid fun W => by
     have := rmay15_any ⟨gb, gt, gx, gy, gm⟩ W
     rw [hpm] at this
     exact this
    cases p with
    | false =>
      have HF := Lib.hid (show decM l = (⟨0, 0, 0, 0, 0⟩, false) by rw [hde, if_pos (.inr (.inl hpm))])
      clear hde hpm h255
      have hst : ∀ f ∈ ([] : List Fact), f.ok := fun _ h => by cases h
      go_upto_region 6 with (fail)
      refine wp_region_told (w1 := w5) (K := []) (ix := 1000) (R0 := fun _ _ _ => True) (R1 := fun _ _ _ => True) [] (⟨#[.slice A n c, undef, .pointer (some ⟨w.heap.size, 0, none⟩), .bool false, .pointer (some ⟨w1.heap.size, 0, none⟩), .int .i64 (m : Int), .int .i64 0, .int .i64 N, .pointer (some ⟨be, 0, none⟩), .tuple #[.agg #[.int .i64 s.kind, .int .u8 (s.priv.toNat : Int), .slice B 3 d, .string ⟨s.inter.toArray⟩, .int .u8 (s.final.toNat : Int), .string ⟨s.data.toArray⟩], .int .i64 (m : Int), .int .i64 0], .slice A n c, .tuple #[.agg #[.int .i64 s.kind, .int .u8 (s.priv.toNat : Int), .slice B 3 d, .string ⟨s.inter.toArray⟩, .int .u8 (s.final.toNat : Int), .string ⟨s.data.toArray⟩], .int .i64 (m : Int), .int .i64 0], .agg #[.int .i64 s.kind, .int .u8 (s.priv.toNat : Int), .slice B 3 d, .string ⟨s.inter.toArray⟩, .int .u8 (s.final.toNat : Int), .string ⟨s.data.toArray⟩], .int .i64 (m : Int), .int .i64 0, .int .i64 0, .bool false, .bool false, .pointer (some ⟨w1.heap.size, 2, none⟩), .slice B 3 d, .int .i64 3, .bool false, .bool false, undef, .agg #[.int .i64 s.kind, .int .u8 (s.priv.toNat : Int), .slice B 3 d, .string ⟨s.inter.toArray⟩, .int .u8 (s.final.toNat : Int), .string ⟨s.data.toArray⟩], .int .i64 N, .int .i64 N, .agg #[.int .i64 s.kind, .int .u8 (s.priv.toNat : Int), .slice B 3 d, .string ⟨s.inter.toArray⟩, .int .u8 (s.final.toNat : Int), .string ⟨s.data.toArray⟩], .int .i64 X, .agg #[.int .i64 s.kind, .int .u8 (s.priv.toNat : Int), .slice B 3 d, .string ⟨s.inter.toArray⟩, .int .u8 (s.final.toNat : Int), .string ⟨s.data.toArray⟩], .int .i64 Y, .pointer (some ⟨w1.heap.size, 4, none⟩), .int .u8 (s.final.toNat : Int), .bool ((s.final.toNat : Int) == 109), .agg #[.int .i64 gb, .int .i64 gt, .int .i64 gx, .int .i64 gy, .int .i64 gm], .int .i64 N, .bool false, .bool false, .agg #[.int .i64 gb, .int .i64 gt, .int .i64 gx, .int .i64 gy, .int .i64 gm], .bool false, .bool true, .bool true, .bool true, undef, undef, undef, undef, undef, undef, .bool true, undef, undef], []⟩) (fun g => ⟨#[.slice A n c, undef, .pointer (some ⟨w.heap.size, 0, none⟩), .bool false, .pointer (some ⟨w1.heap.size, 0, none⟩), .int .i64 (m : Int), .int .i64 0, .int .i64 N, .pointer (some ⟨be, 0, none⟩), .tuple #[.agg #[.int .i64 s.kind, .int .u8 (s.priv.toNat : Int), .slice B 3 d, .string ⟨s.inter.toArray⟩, .int .u8 (s.final.toNat : Int), .string ⟨s.data.toArray⟩], .int .i64 (m : Int), .int .i64 0], .slice A n c, .tuple #[.agg #[.int .i64 s.kind, .int .u8 (s.priv.toNat : Int), .slice B 3 d, .string ⟨s.inter.toArray⟩, .int .u8 (s.final.toNat : Int), .string ⟨s.data.toArray⟩], .int .i64 (m : Int), .int .i64 0], .agg #[.int .i64 s.kind, .int .u8 (s.priv.toNat : Int), .slice B 3 d, .string ⟨s.inter.toArray⟩, .int .u8 (s.final.toNat : Int), .string ⟨s.data.toArray⟩], .int .i64 (m : Int), .int .i64 0, .int .i64 0, .bool false, .bool false, .pointer (some ⟨w1.heap.size, 2, none⟩), .slice B 3 d, .int .i64 3, .bool false, .bool false, undef, .agg #[.int .i64 s.kind, .int .u8 (s.priv.toNat : Int), .slice B 3 d, .string ⟨s.inter.toArray⟩, .int .u8 (s.final.toNat : Int), .string ⟨s.data.toArray⟩], .int .i64 N, .int .i64 N, .agg #[.int .i64 s.kind, .int .u8 (s.priv.toNat : Int), .slice B 3 d, .string ⟨s.inter.toArray⟩, .int .u8 (s.final.toNat : Int), .string ⟨s.data.toArray⟩], .int .i64 X, .agg #[.int .i64 s.kind, .int .u8 (s.priv.toNat : Int), .slice B 3 d, .string ⟨s.inter.toArray⟩, .int .u8 (s.final.toNat : Int), .string ⟨s.data.toArray⟩], .int .i64 Y, .pointer (some ⟨w1.heap.size, 4, none⟩), .int .u8 (s.final.toNat : Int), .bool ((s.final.toNat : Int) == 109), .agg #[.int .i64 gb, .int .i64 gt, .int .i64 gx, .int .i64 gy, .int .i64 gm], .int .i64 N, .bool false, .bool false, .agg #[.int .i64 gb, .int .i64 gt, .int .i64 gx, .int .i64 gy, .int .i64 gm], .bool false, .bool true, .bool true, .bool true, undef, undef, undef, undef, undef, undef, .bool true, undef, undef], []⟩) [.int .i64 N, .bool false, .bool false, .agg #[.int .i64 gb, .int .i64 gt, .int .i64 gx, .int .i64 gy, .int .i64 gm], .bool false, .bool true, .bool true, .bool true, undef, undef, undef, undef, undef, undef, .bool true] (by kernel_rfl) (by kernel_rfl) (by kernel_rfl) (fun g => by kernel_rfl) (by kernel_rfl) (Below.refl _ _).drew (by decide) (by kernel_rfl)
       (goes_cons (gkP (fun _ => .int .i64 N))
       (goes_cons (gkP (fun _ => .bool false) (h := (fun g w => gtr_run rfl rfl rfl hgt w)))
       (goes_cons (gkP (fun _ => .bool false))
       (goes_cons (gkL hst (fun W hW => lg W hW) Tryz.underlying23)
       (goes_cons (gkK (fun g => #[.agg #[.int .i64 gb, .int .i64 gt, .int .i64 gx, .int .i64 gy, .int .i64 gm]]) hst (fun g W hW hin => HM.out W))
       (goes_cons (gkP (fun _ => .bool true))
       (goes_cons (gkP (fun _ => .bool true))
       (goes_cons (gkP (fun _ => .bool true))
       (goes_cons gkO
       (goes_cons gkO
       (goes_cons gkO
       (goes_cons gkO
       (goes_cons gkO
       (goes_cons gkO
       (goes_cons (gkP (fun _ => .bool true)) goes_nil))))))))))))))) ?_
      intro g W hW _
      have hB6 := hB5.trans (hW.mono hB5.size)
      have r6 := r5.below hW r5.lt
      have g6 := lg W hW
      clear hst lg
      obtain ⟨z0, z1, z2, z3, z4⟩ := Blk.cells5 r6
      have y0 := r6.frozen 0
      have y1 := r6.frozen 1
      have y2 := r6.frozen 2
      have y3 := r6.frozen 3
      have y4 := r6.frozen 4
      have rE := ((((r6.set 0 (.int .i64 0)).set 1 (.int .i64 0)).set 2 (.int .i64 0)).set 3 (.int .i64 0)).set 4 (.int .i64 0)
      obtain ⟨x0, x1, x2, x3, x4⟩ := Blk.cells5 rE
      have hBE := ((((hB6.setCell (p := ⟨w.heap.size, 0, none⟩) (Nat.le_refl _) (.int .i64 0)).setCell (p := ⟨w.heap.size, 1, none⟩) (Nat.le_refl _) (.int .i64 0)).setCell (p := ⟨w.heap.size, 2, none⟩) (Nat.le_refl _) (.int .i64 0)).setCell (p := ⟨w.heap.size, 3, none⟩) (Nat.le_refl _) (.int .i64 0)).setCell (p := ⟨w.heap.size, 4, none⟩) (Nat.le_refl _) (.int .i64 0)
      clear rE
      go_wp2_with fail
      refine bodyPost_ret (v := .tuple #[.agg #[.int .i64 0, .int .i64 0, .int .i64 0, .int .i64 0, .int .i64 0], .bool false]) (by simp [results, Tryz.results11, go_sem, x0, x1, x2, x3, x4]) rfl ⟨by rw [HF.out], hBE⟩
    | true =>
      obtain ⟨E, hE⟩ : ∃ E, encM 1003 1006 ⟨gb, gt, gx, gy, gm⟩ = E := ⟨_, rfl⟩
      have HE : Hid (∀ W, Calls Tryz.prog 7 #[.int .i64 1003, .int .i64 1006, .agg #[.int .i64 gb, .int .i64 gt, .int .i64 gx, .int .i64 gy, .int .i64 gm]] W (Out E W)) := Lib.hid fun W => rencode16_any 1003 1006 gb gt gx gy gm E hE W
      rw [hE] at hde
      by_cases hel : E = l
      ·have HF := Lib.hid (show decM l = (⟨gb, gt, gx, gy, gm⟩, true) by rw [hde, if_neg]; exact fun h => h.elim (fun h => h255 h) (fun h => h.elim (fun h => by rw [hpm] at h; cases h) (fun h => h hel)))
       obtain ⟨q, hq⟩ : ∃ q, q = false := ⟨_, rfl⟩
       have HNE := Lib.hid (sne_run E l q (by rw [hq]; simp [hel]))
       subst hq
       clear hde hpm h255 hE hel
       have hst : ∀ f ∈ ([⟨9, 44, FB E⟩] : List Fact), f.ok := List.forall_mem_cons.2 ⟨fb_ok _ _ _, fun _ h => by cases h⟩
       go_upto_region 6 with (fail)
       refine wp_region_told (w1 := w5) (K := [⟨9, 44, FB E⟩]) (ix := 1000) (R0 := fun _ _ _ => True) (R1 := fun _ _ _ => True) [44] (⟨#[.slice A n c, undef, .pointer (some ⟨w.heap.size, 0, none⟩), .bool false, .pointer (some ⟨w1.heap.size, 0, none⟩), .int .i64 (m : Int), .int .i64 0, .int .i64 N, .pointer (some ⟨be, 0, none⟩), .tuple #[.agg #[.int .i64 s.kind, .int .u8 (s.priv.toNat : Int), .slice B 3 d, .string ⟨s.inter.toArray⟩, .int .u8 (s.final.toNat : Int), .string ⟨s.data.toArray⟩], .int .i64 (m : Int), .int .i64 0], .slice A n c, .tuple #[.agg #[.int .i64 s.kind, .int .u8 (s.priv.toNat : Int), .slice B 3 d, .string ⟨s.inter.toArray⟩, .int .u8 (s.final.toNat : Int), .string ⟨s.data.toArray⟩], .int .i64 (m : Int), .int .i64 0], .agg #[.int .i64 s.kind, .int .u8 (s.priv.toNat : Int), .slice B 3 d, .string ⟨s.inter.toArray⟩, .int .u8 (s.final.toNat : Int), .string ⟨s.data.toArray⟩], .int .i64 (m : Int), .int .i64 0, .int .i64 0, .bool false, .bool false, .pointer (some ⟨w1.heap.size, 2, none⟩), .slice B 3 d, .int .i64 3, .bool false, .bool false, undef, .agg #[.int .i64 s.kind, .int .u8 (s.priv.toNat : Int), .slice B 3 d, .string ⟨s.inter.toArray⟩, .int .u8 (s.final.toNat : Int), .string ⟨s.data.toArray⟩], .int .i64 N, .int .i64 N, .agg #[.int .i64 s.kind, .int .u8 (s.priv.toNat : Int), .slice B 3 d, .string ⟨s.inter.toArray⟩, .int .u8 (s.final.toNat : Int), .string ⟨s.data.toArray⟩], .int .i64 X, .agg #[.int .i64 s.kind, .int .u8 (s.priv.toNat : Int), .slice B 3 d, .string ⟨s.inter.toArray⟩, .int .u8 (s.final.toNat : Int), .string ⟨s.data.toArray⟩], .int .i64 Y, .pointer (some ⟨w1.heap.size, 4, none⟩), .int .u8 (s.final.toNat : Int), .bool ((s.final.toNat : Int) == 109), .agg #[.int .i64 gb, .int .i64 gt, .int .i64 gx, .int .i64 gy, .int .i64 gm], .int .i64 N, .bool false, .bool false, .agg #[.int .i64 gb, .int .i64 gt, .int .i64 gx, .int .i64 gy, .int .i64 gm], .bool true, .bool false, .bool false, .bool false, .agg #[.int .i64 gb, .int .i64 gt, .int .i64 gx, .int .i64 gy, .int .i64 gm], undef, .string ⟨E.toArray⟩, .slice A n c, .string ⟨l.toArray⟩, .bool false, .bool false, undef, undef], []⟩) (fun g => ⟨#[.slice A n c, undef, .pointer (some ⟨w.heap.size, 0, none⟩), .bool false, .pointer (some ⟨w1.heap.size, 0, none⟩), .int .i64 (m : Int), .int .i64 0, .int .i64 N, .pointer (some ⟨be, 0, none⟩), .tuple #[.agg #[.int .i64 s.kind, .int .u8 (s.priv.toNat : Int), .slice B 3 d, .string ⟨s.inter.toArray⟩, .int .u8 (s.final.toNat : Int), .string ⟨s.data.toArray⟩], .int .i64 (m : Int), .int .i64 0], .slice A n c, .tuple #[.agg #[.int .i64 s.kind, .int .u8 (s.priv.toNat : Int), .slice B 3 d, .string ⟨s.inter.toArray⟩, .int .u8 (s.final.toNat : Int), .string ⟨s.data.toArray⟩], .int .i64 (m : Int), .int .i64 0], .agg #[.int .i64 s.kind, .int .u8 (s.priv.toNat : Int), .slice B 3 d, .string ⟨s.inter.toArray⟩, .int .u8 (s.final.toNat : Int), .string ⟨s.data.toArray⟩], .int .i64 (m : Int), .int .i64 0, .int .i64 0, .bool false, .bool false, .pointer (some ⟨w1.heap.size, 2, none⟩), .slice B 3 d, .int .i64 3, .bool false, .bool false, undef, .agg #[.int .i64 s.kind, .int .u8 (s.priv.toNat : Int), .slice B 3 d, .string ⟨s.inter.toArray⟩, .int .u8 (s.final.toNat : Int), .string ⟨s.data.toArray⟩], .int .i64 N, .int .i64 N, .agg #[.int .i64 s.kind, .int .u8 (s.priv.toNat : Int), .slice B 3 d, .string ⟨s.inter.toArray⟩, .int .u8 (s.final.toNat : Int), .string ⟨s.data.toArray⟩], .int .i64 X, .agg #[.int .i64 s.kind, .int .u8 (s.priv.toNat : Int), .slice B 3 d, .string ⟨s.inter.toArray⟩, .int .u8 (s.final.toNat : Int), .string ⟨s.data.toArray⟩], .int .i64 Y, .pointer (some ⟨w1.heap.size, 4, none⟩), .int .u8 (s.final.toNat : Int), .bool ((s.final.toNat : Int) == 109), .agg #[.int .i64 gb, .int .i64 gt, .int .i64 gx, .int .i64 gy, .int .i64 gm], .int .i64 N, .bool false, .bool false, .agg #[.int .i64 gb, .int .i64 gt, .int .i64 gx, .int .i64 gy, .int .i64 gm], .bool true, .bool false, .bool false, .bool false, .agg #[.int .i64 gb, .int .i64 gt, .int .i64 gx, .int .i64 gy, .int .i64 gm], (g 44), .string ⟨E.toArray⟩, .slice A n c, .string ⟨l.toArray⟩, .bool false, .bool false, undef, undef], []⟩) [.int .i64 N, .bool false, .bool false, .agg #[.int .i64 gb, .int .i64 gt, .int .i64 gx, .int .i64 gy, .int .i64 gm], .bool true, .bool false, .bool false, .bool false, .agg #[.int .i64 gb, .int .i64 gt, .int .i64 gx, .int .i64 gy, .int .i64 gm], undef, .string ⟨E.toArray⟩, .slice A n c, .string ⟨l.toArray⟩, .bool false, .bool false] (by kernel_rfl) (by kernel_rfl) (by kernel_rfl) (fun g => by kernel_rfl) (by kernel_rfl) (Below.refl _ _).drew (by decide) (by kernel_rfl)
        (goes_cons (gkP (fun _ => .int .i64 N))
        (goes_cons (gkP (fun _ => .bool false) (h := (fun g w => gtr_run rfl rfl rfl hgt w)))
        (goes_cons (gkP (fun _ => .bool false))
        (goes_cons (gkL hst (fun W hW => lg W hW) Tryz.underlying23)
        (goes_cons (gkK (fun g => #[.agg #[.int .i64 gb, .int .i64 gt, .int .i64 gx, .int .i64 gy, .int .i64 gm]]) hst (fun g W hW hin => HM.out W))
        (goes_cons (gkP (fun _ => .bool false))
        (goes_cons (gkP (fun _ => .bool false))
        (goes_cons (gkP (fun _ => .bool false))
        (goes_cons (gkL hst (fun W hW => lg W hW) Tryz.underlying23)
        (goes_cons (gkG (fun g => #[.int .i64 1003, .int .i64 1006, .agg #[.int .i64 gb, .int .i64 gt, .int .i64 gx, .int .i64 gy, .int .i64 gm]]) hst 0 (fun g W hW hin => fb_out (HE.out W)))
        (goes_cons (goesK_str 0 rfl (by kernel_rfl) Tryz.underlying25 Tryz.underlying5 Tryz.underlying9 hst (ahead_none (by decide)) rfl (by decide) (by decide) (by kernel_rfl) (fun g => by kernel_rfl) rfl (fun g => by kernel_rfl) rfl (fun g => by kernel_rfl))
        (goes_cons (gkP (fun _ => .slice A n c))
        (goes_cons (goesK_conv (c := c) HN.out (fun W hW => HR.out W (hB5.trans (hW.mono hB5.size))) Tryz.underlying25 Tryz.underlying5 Tryz.underlying9 hst (ahead_none (by decide)) rfl (by decide) (by decide) (by kernel_rfl) (fun g => by kernel_rfl) rfl (fun g => by kernel_rfl) rfl (fun g => by kernel_rfl))
        (goes_cons (gkB (.bool false) (.string ⟨E.toArray⟩) (.string ⟨l.toArray⟩) (HNE.out _ _))
        (goes_cons (gkP (fun _ => .bool false)) goes_nil))))))))))))))) ?_
       intro g W hW _
       have hB6 := hB5.trans (hW.mono hB5.size)
       have r6 := r5.below hW r5.lt
       have g6 := lg W hW
       generalize g 44 = v44
       clear hst lg
       obtain ⟨z0, z1, z2, z3, z4⟩ := Blk.cells5 r6
       obtain ⟨a0, a1, a2, a3, a4⟩ := Blk.cells5 g6
       have y0 := r6.frozen 0
       have y1 := r6.frozen 1
       have y2 := r6.frozen 2
       have y3 := r6.frozen 3
       have y4 := r6.frozen 4
       have rE := ((((r6.set 0 (.int .i64 gb)).set 1 (.int .i64 gt)).set 2 (.int .i64 gx)).set 3 (.int .i64 gy)).set 4 (.int .i64 gm)
       obtain ⟨x0, x1, x2, x3, x4⟩ := Blk.cells5 rE
       have hBE := ((((hB6.setCell (p := ⟨w.heap.size, 0, none⟩) (Nat.le_refl _) (.int .i64 gb)).setCell (p := ⟨w.heap.size, 1, none⟩) (Nat.le_refl _) (.int .i64 gt)).setCell (p := ⟨w.heap.size, 2, none⟩) (Nat.le_refl _) (.int .i64 gx)).setCell (p := ⟨w.heap.size, 3, none⟩) (Nat.le_refl _) (.int .i64 gy)).setCell (p := ⟨w.heap.size, 4, none⟩) (Nat.le_refl _) (.int .i64 gm)
       clear rE
       go_wp2_with fail
       refine bodyPost_ret (v := .tuple #[.agg #[.int .i64 gb, .int .i64 gt, .int .i64 gx, .int .i64 gy, .int .i64 gm], .bool true]) (by simp [results, Tryz.results11, go_sem, x0, x1, x2, x3, x4]) rfl ⟨by rw [HF.out], hBE⟩
      ·have HF := Lib.hid (show decM l = (⟨0, 0, 0, 0, 0⟩, false) by rw [hde, if_pos (.inr (.inr hel))])
       obtain ⟨q, hq⟩ : ∃ q, q = true := ⟨_, rfl⟩
       have HNE := Lib.hid (sne_run E l q (by rw [hq]; simp [hel]))
       subst hq
       clear hde hpm h255 hE hel
       have hst : ∀ f ∈ ([⟨9, 44, FB E⟩] : List Fact), f.ok := List.forall_mem_cons.2 ⟨fb_ok _ _ _, fun _ h => by cases h⟩
       go_upto_region 6 with (fail)
       refine wp_region_told (w1 := w5) (K := [⟨9, 44, FB E⟩]) (ix := 1000) (R0 := fun _ _ _ => True) (R1 := fun _ _ _ => True) [44] (⟨#[.slice A n c, undef, .pointer (some ⟨w.heap.size, 0, none⟩), .bool false, .pointer (some ⟨w1.heap.size, 0, none⟩), .int .i64 (m : Int), .int .i64 0, .int .i64 N, .pointer (some ⟨be, 0, none⟩), .tuple #[.agg #[.int .i64 s.kind, .int .u8 (s.priv.toNat : Int), .slice B 3 d, .string ⟨s.inter.toArray⟩, .int .u8 (s.final.toNat : Int), .string ⟨s.data.toArray⟩], .int .i64 (m : Int), .int .i64 0], .slice A n c, .tuple #[.agg #[.int .i64 s.kind, .int .u8 (s.priv.toNat : Int), .slice B 3 d, .string ⟨s.inter.toArray⟩, .int .u8 (s.final.toNat : Int), .string ⟨s.data.toArray⟩], .int .i64 (m : Int), .int .i64 0], .agg #[.int .i64 s.kind, .int .u8 (s.priv.toNat : Int), .slice B 3 d, .string ⟨s.inter.toArray⟩, .int .u8 (s.final.toNat : Int), .string ⟨s.data.toArray⟩], .int .i64 (m : Int), .int .i64 0, .int .i64 0, .bool false, .bool false, .pointer (some ⟨w1.heap.size, 2, none⟩), .slice B 3 d, .int .i64 3, .bool false, .bool false, undef, .agg #[.int .i64 s.kind, .int .u8 (s.priv.toNat : Int), .slice B 3 d, .string ⟨s.inter.toArray⟩, .int .u8 (s.final.toNat : Int), .string ⟨s.data.toArray⟩], .int .i64 N, .int .i64 N, .agg #[.int .i64 s.kind, .int .u8 (s.priv.toNat : Int), .slice B 3 d, .string ⟨s.inter.toArray⟩, .int .u8 (s.final.toNat : Int), .string ⟨s.data.toArray⟩], .int .i64 X, .agg #[.int .i64 s.kind, .int .u8 (s.priv.toNat : Int), .slice B 3 d, .string ⟨s.inter.toArray⟩, .int .u8 (s.final.toNat : Int), .string ⟨s.data.toArray⟩], .int .i64 Y, .pointer (some ⟨w1.heap.size, 4, none⟩), .int .u8 (s.final.toNat : Int), .bool ((s.final.toNat : Int) == 109), .agg #[.int .i64 gb, .int .i64 gt, .int .i64 gx, .int .i64 gy, .int .i64 gm], .int .i64 N, .bool false, .bool false, .agg #[.int .i64 gb, .int .i64 gt, .int .i64 gx, .int .i64 gy, .int .i64 gm], .bool true, .bool false, .bool false, .bool false, .agg #[.int .i64 gb, .int .i64 gt, .int .i64 gx, .int .i64 gy, .int .i64 gm], undef, .string ⟨E.toArray⟩, .slice A n c, .string ⟨l.toArray⟩, .bool true, .bool true, undef, undef], []⟩) (fun g => ⟨#[.slice A n c, undef, .pointer (some ⟨w.heap.size, 0, none⟩), .bool false, .pointer (some ⟨w1.heap.size, 0, none⟩), .int .i64 (m : Int), .int .i64 0, .int .i64 N, .pointer (some ⟨be, 0, none⟩), .tuple #[.agg #[.int .i64 s.kind, .int .u8 (s.priv.toNat : Int), .slice B 3 d, .string ⟨s.inter.toArray⟩, .int .u8 (s.final.toNat : Int), .string ⟨s.data.toArray⟩], .int .i64 (m : Int), .int .i64 0], .slice A n c, .tuple #[.agg #[.int .i64 s.kind, .int .u8 (s.priv.toNat : Int), .slice B 3 d, .string ⟨s.inter.toArray⟩, .int .u8 (s.final.toNat : Int), .string ⟨s.data.toArray⟩], .int .i64 (m : Int), .int .i64 0], .agg #[.int .i64 s.kind, .int .u8 (s.priv.toNat : Int), .slice B 3 d, .string ⟨s.inter.toArray⟩, .int .u8 (s.final.toNat : Int), .string ⟨s.data.toArray⟩], .int .i64 (m : Int), .int .i64 0, .int .i64 0, .bool false, .bool false, .pointer (some ⟨w1.heap.size, 2, none⟩), .slice B 3 d, .int .i64 3, .bool false, .bool false, undef, .agg #[.int .i64 s.kind, .int .u8 (s.priv.toNat : Int), .slice B 3 d, .string ⟨s.inter.toArray⟩, .int .u8 (s.final.toNat : Int), .string ⟨s.data.toArray⟩], .int .i64 N, .int .i64 N, .agg #[.int .i64 s.kind, .int .u8 (s.priv.toNat : Int), .slice B 3 d, .string ⟨s.inter.toArray⟩, .int .u8 (s.final.toNat : Int), .string ⟨s.data.toArray⟩], .int .i64 X, .agg #[.int .i64 s.kind, .int .u8 (s.priv.toNat : Int), .slice B 3 d, .string ⟨s.inter.toArray⟩, .int .u8 (s.final.toNat : Int), .string ⟨s.data.toArray⟩], .int .i64 Y, .pointer (some ⟨w1.heap.size, 4, none⟩), .int .u8 (s.final.toNat : Int), .bool ((s.final.toNat : Int) == 109), .agg #[.int .i64 gb, .int .i64 gt, .int .i64 gx, .int .i64 gy, .int .i64 gm], .int .i64 N, .bool false, .bool false, .agg #[.int .i64 gb, .int .i64 gt, .int .i64 gx, .int .i64 gy, .int .i64 gm], .bool true, .bool false, .bool false, .bool false, .agg #[.int .i64 gb, .int .i64 gt, .int .i64 gx, .int .i64 gy, .int .i64 gm], (g 44), .string ⟨E.toArray⟩, .slice A n c, .string ⟨l.toArray⟩, .bool true, .bool true, undef, undef], []⟩) [.int .i64 N, .bool false, .bool false, .agg #[.int .i64 gb, .int .i64 gt, .int .i64 gx, .int .i64 gy, .int .i64 gm], .bool true, .bool false, .bool false, .bool false, .agg #[.int .i64 gb, .int .i64 gt, .int .i64 gx, .int .i64 gy, .int .i64 gm], undef, .string ⟨E.toArray⟩, .slice A n c, .string ⟨l.toArray⟩, .bool true, .bool true] (by kernel_rfl) (by kernel_rfl) (by kernel_rfl) (fun g => by kernel_rfl) (by kernel_rfl) (Below.refl _ _).drew (by decide) (by kernel_rfl)
        (goes_cons (gkP (fun _ => .int .i64 N))
        (goes_cons (gkP (fun _ => .bool false) (h := (fun g w => gtr_run rfl rfl rfl hgt w)))
        (goes_cons (gkP (fun _ => .bool false))
        (goes_cons (gkL hst (fun W hW => lg W hW) Tryz.underlying23)
        (goes_cons (gkK (fun g => #[.agg #[.int .i64 gb, .int .i64 gt, .int .i64 gx, .int .i64 gy, .int .i64 gm]]) hst (fun g W hW hin => HM.out W))
        (goes_cons (gkP (fun _ => .bool false))
        (goes_cons (gkP (fun _ => .bool false))
        (goes_cons (gkP (fun _ => .bool false))
        (goes_cons (gkL hst (fun W hW => lg W hW) Tryz.underlying23)
        (goes_cons (gkG (fun g => #[.int .i64 1003, .int .i64 1006, .agg #[.int .i64 gb, .int .i64 gt, .int .i64 gx, .int .i64 gy, .int .i64 gm]]) hst 0 (fun g W hW hin => fb_out (HE.out W)))
        (goes_cons (goesK_str 0 rfl (by kernel_rfl) Tryz.underlying25 Tryz.underlying5 Tryz.underlying9 hst (ahead_none (by decide)) rfl (by decide) (by decide) (by kernel_rfl) (fun g => by kernel_rfl) rfl (fun g => by kernel_rfl) rfl (fun g => by kernel_rfl))
        (goes_cons (gkP (fun _ => .slice A n c))
        (goes_cons (goesK_conv (c := c) HN.out (fun W hW => HR.out W (hB5.trans (hW.mono hB5.size))) Tryz.underlying25 Tryz.underlying5 Tryz.underlying9 hst (ahead_none (by decide)) rfl (by decide) (by decide) (by kernel_rfl) (fun g => by kernel_rfl) rfl (fun g => by kernel_rfl) rfl (fun g => by kernel_rfl))
        (goes_cons (gkB (.bool true) (.string ⟨E.toArray⟩) (.string ⟨l.toArray⟩) (HNE.out _ _))
        (goes_cons (gkP (fun _ => .bool true)) goes_nil))))))))))))))) ?_
       intro g W hW _
       have hB6 := hB5.trans (hW.mono hB5.size)
       have r6 := r5.below hW r5.lt
       have g6 := lg W hW
       generalize g 44 = v44
       clear hst lg
       obtain ⟨z0, z1, z2, z3, z4⟩ := Blk.cells5 r6
       have y0 := r6.frozen 0
       have y1 := r6.frozen 1
       have y2 := r6.frozen 2
       have y3 := r6.frozen 3
       have y4 := r6.frozen 4
       have rE := ((((r6.set 0 (.int .i64 0)).set 1 (.int .i64 0)).set 2 (.int .i64 0)).set 3 (.int .i64 0)).set 4 (.int .i64 0)
       obtain ⟨x0, x1, x2, x3, x4⟩ := Blk.cells5 rE
       have hBE := ((((hB6.setCell (p := ⟨w.heap.size, 0, none⟩) (Nat.le_refl _) (.int .i64 0)).setCell (p := ⟨w.heap.size, 1, none⟩) (Nat.le_refl _) (.int .i64 0)).setCell (p := ⟨w.heap.size, 2, none⟩) (Nat.le_refl _) (.int .i64 0)).setCell (p := ⟨w.heap.size, 3, none⟩) (Nat.le_refl _) (.int .i64 0)).setCell (p := ⟨w.heap.size, 4, none⟩) (Nat.le_refl _) (.int .i64 0)
       clear rE
       go_wp2_with fail
       refine bodyPost_ret (v := .tuple #[.agg #[.int .i64 0, .int .i64 0, .int .i64 0, .int .i64 0, .int .i64 0], .bool false]) (by simp [results, Tryz.results11, go_sem, x0, x1, x2, x3, x4]) rfl ⟨by rw [HF.out], hBE⟩
end Go.Proofs.YtjlhhelikiegdaaGreatDoor
