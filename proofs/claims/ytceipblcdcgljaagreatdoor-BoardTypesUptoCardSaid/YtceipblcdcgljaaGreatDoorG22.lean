/-
  Stage 11, the landed legacy: a plain key. Stage 11, the landed legacy: the deferred call, which puts the escape byte ahead. Stage 11, the landed legacy: letters and numbers. Stage 11, the landed legacy: a text's key.
-/
import Derived.Test.YtceipblcdcgljaaGreatDoorG05
import Derived.Test.YtceipblcdcgljaaGreatDoorG08
import Derived.Test.YtceipblcdcgljaaGreatDoorG09
import Derived.Test.YtceipblcdcgljaaGreatDoorG10
import Derived.Test.YtceipblcdcgljaaGreatDoorG15
import Derived.Test.YtceipblcdcgljaaGreatDoorG17
import Derived.Deep.Cut
import Derived.Defers
import Derived.Recover
namespace Go.Proofs.YtceipblcdcgljaaGreatDoor
open Go.RowKit
theorem Blk.wp_getg {P : Program} {ops : Array Oper} {rest : List Oper} {op : Oper} {a : Act} {w : World} {g : Nat} {t : TypeId} {cs : Array Value} {td : TypeDesc} {Q : Exit → Act → World → Prop} (h : Blk w g t cs) (hu : P.underlying t = some td) (hr : td.isRow = true) (hi : (P.info? t).map (·.size) = some cs.size) (hgd : Region.wanted op (yielded ops a.tmps) = true) (x : Operand) (ho : op.op = .load t x) (hx : a.eval x = .pointer (some ⟨g, 0, none⟩))
 (hK : wpList P ops Q rest (a.put op.dst (.agg cs)) w) : wpList P ops Q (op :: rest) a w := by
 unfold wpList
 rw [if_pos hgd]
 exact .inl (wp_load_mid t x ho g 0 hx cs.toList td h.range hu hr (by rw [hi, Array.length_toList]) hK)
theorem goes_cell {P : Program} {S : World → Prop} {aF : Act} {o : Oper} {t : TypeId} {x : Operand} {a : Addr} {v : Value} (ho : o.op = .load t x) (hx : aF.eval x = .pointer (some a)) (hk : ∀ w, S w → w.cell? a = some v) (hag : ∀ w, (isAgg t).run P w = .ok false w) : Goes P S o aF v :=
 goes_val fun w hS => by
  unfold execOp
  simp only [ho, hx, Instr.loadAt, Instr.sureAddr, Sem.run_bind, Sem.run_pure, Result.andThen_ok, run_loadVar_one hag (hk w hS)]
theorem goes_off {P : Program} {ops : Array Oper} {S : World → Prop} {aF : Act} {o : Oper} {d : Tmp} (hd : o.dst = some d) (ht : aF.tmps[d]? = some undef) (hw : Region.wanted o (yielded ops aF.tmps) = false) :
 ∃ v, (∀ d, o.dst = some d → aF.tmps[d]? = some v) ∧ (if Region.wanted o (yielded ops aF.tmps) = true then Goes P S o aF v else v = undef) :=
 ⟨undef, fun d' hd' => by rw [hd] at hd'; cases hd'; exact ht, by rw [if_neg (by rw [hw]; decide)]⟩
theorem lout_at {w w1 : World} {t : TypeId} {g : Nat} (hg : w1.heap.size = g) (hb : Below w.heap.size w w1) : Out [13, 10] w (.returned (.slice (some ⟨g, 0, none⟩) 2 2)) (w1.alloc (.cells #[.int .u8 13, .int .u8 10] t)) := by
 subst hg
 exact ⟨_, _, rfl, Rd.block (heap_alloc_new w1 _) rfl, hb.alloc hb.size _⟩
theorem plain_tab (m : Mo) (s1 c4 : Bool) : plainG m 9 s1 c4 = if s1 = true then seqB 1 90 [] else [9] := if_pos rfl
theorem plain_enter (m : Mo) (s1 c4 : Bool) : plainG m 13 s1 c4 = if m.line = true then [13, 10] else [13] := rfl
theorem plain_esc (m : Mo) (s1 c4 : Bool) : plainG m 27 s1 c4 = [27] := rfl
theorem plain_erase (m : Mo) (s1 c4 : Bool) : plainG m 127 s1 c4 = if (m.back != c4) = true then [8] else [127] := rfl
theorem ev_code {w : World} {g : Nat} {t : TypeId} {m : Mo} {k : Ky} {e : En} {o c : Int} (hc : k.code = c) (h : Blk w g t (evC m k e o)) : w.cell? ⟨g, 10, none⟩ = some (.int .i64 c) := hc ▸ (ev_key h).1
theorem ev_line {w : World} {g : Nat} {t : TypeId} {m : Mo} {k : Ky} {e : En} {o : Int} {b : Bool} (hc : m.line = b) (h : Blk w g t (evC m k e o)) : w.cell? ⟨g, 6, none⟩ = some (.bool b) := hc ▸ h.cell 6
theorem ev_back {w : World} {g : Nat} {t : TypeId} {m : Mo} {k : Ky} {e : En} {o : Int} {b : Bool} (hc : m.back = b) (h : Blk w g t (evC m k e o)) : w.cell? ⟨g, 2, none⟩ = some (.bool b) := hc ▸ h.cell 2
set_option maxRecDepth 100000 in
set_option maxHeartbeats 8000000 in
theorem lplain_tab (m : Mo) (k : Ky) (e : En) (o : Int) (hc : k.code = 9) (q c4 : Bool) (hq : (bits .and .i64 o 1 != 0) = q) (w : World) (ht : Tab w) :
 Calls Tryz.prog 116 #[.agg (evC m k e o)] w (Out (plainG m 9 q c4) w) := by
 have hB : Below w.heap.size w (w.alloc (.cells (evC m k e o) 106)) := (Below.refl _ _).alloc (Nat.le_refl _) _
 have k0 := Blk.new w 106 (evC m k e o)
 have HH : Hid (∀ W, Calls Tryz.prog 80 #[.agg (evC m k e o), .int .i64 1] W fun x w' => x = .returned (.bool q) ∧ Below W.heap.size W w') := Lib.hid fun W => phas_any m k e o 1 q hq W
 have HN : Hid (∀ W, Calls Tryz.prog 114 #[.int .u8 0, .int .u8 90, .slice none 0 0] W (NumQ 90 [] 0 W)) := Lib.hid fun W => lnum_any 90 (by decide) (by decide) [] 0 rfl (by decide) none 0 W (Rd.nil _ _)
 have HP : Hid (∀ A c W, Tab W → RdP W A [] → Calls Tryz.prog 139 #[.agg #[.int .i64 1, .int .u8 0, .slice A 0 c, .string ⟨#[]⟩, .int .u8 90, .string ⟨#[]⟩]] W (OutC (putS (sqN 1 90 [])) W)) := Lib.hid fun A c W hW hr => lput_any (l := []) rfl (by decide) (by decide) (by decide +kernel) A c W hW hr
 have HG := Lib.hid (plain_tab m q c4)
 have hsq : seqB 1 90 [] = putS (sqN 1 90 []) := seqB_is (by decide +kernel)
 obtain ⟨R, hR⟩ : ∃ R, plainG m 9 q c4 = R := ⟨_, rfl⟩
 rw [hR, hsq] at HG
 rw [hR]
 clear hR hsq hq
 have HT := Lib.hid ht
 clear ht
 have a10 := ev_code hc k0
 go_enter Tryz.func116, Tryz.ntmps116
 go_wp2_with (with_reducible refine Blk.wp_getg k0 Tryz.underlying106 rfl (by kernel_rfl) rfl (.tmp 1) rfl rfl ?_)
 refine (HH.out _).mono ?_
 rintro e w3 ⟨rfl, hb3⟩
 have hB3 := hB.trans (hb3.mono hB.size)
 have k3 := k0.below hb3 k0.lt
 clear k0 hB hb3 HH a10
 have a10 := ev_code hc k3
 cases q with
 | true =>
   have HE := Lib.hid (HG.out.trans (if_pos rfl))
   clear HG
   go_wp2_with fail
   refine (HN.out _).mono ?_
   rintro e w4 ⟨A4, c4, rfl, hr4, hb4⟩
   have hB4 := hB3.trans (hb4.mono hB3.size)
   go_wp2_with fail
   refine (HP.out A4 c4 _ (HT.out.below hB4) hr4).mono ?_
   rintro e w5 ⟨A5, c5, rfl, _, hr5, hb5⟩
   go_wp2_with fail
   go_ret
   exact out_is HE.out ⟨A5, c5, rfl, hr5, hB4.trans (hb5.mono hB4.size)⟩
 | false =>
   have HE := Lib.hid (HG.out.trans (if_neg (by decide)))
   clear HG
   go_upto_region 6 with (fail)
   refine wp_region_goes (S := fun W => Below (w3).heap.size (w3) W) (by kernel_rfl) (by kernel_rfl) (by kernel_rfl) ⟨#[.agg (evC m k e o), .pointer (some ⟨w.heap.size, 0, none⟩), .slice none 0 0, .int .i64 9, .pointer (some ⟨w.heap.size, 10, none⟩), .pointer (some ⟨w.heap.size, 10, none⟩), .int .i64 9, .bool false, .int .i64 9, .bool true, .bool true, .agg (evC m k e o), .bool false, .bool false, undef, undef, .bool false, .int .i64 9, .bool false, .bool false, undef, undef, undef, .bool false, undef, .bool false, .int .i64 9, .bool false, .bool false, undef, undef, undef, undef, undef, undef, .bool false, undef, undef, undef, undef], []⟩ (near_of [.int .i64 9, .bool false, .bool false, undef, undef, undef, undef, undef, undef, .bool false, .bool false] (by kernel_rfl)) (Below.refl _ _).drew (goesAll_of
    (all_cons (goes_at (.int .i64 9) rfl (by kernel_rfl) (by kernel_rfl) (goes_val (fun w _ => by kernel_rfl)))
    (all_cons (goes_at (.bool false) rfl (by kernel_rfl) (by kernel_rfl) (goes_val (fun w _ => by go_simp)))
    (all_cons (goes_at (.bool false) rfl (by kernel_rfl) (by kernel_rfl) (goes_val (fun w _ => by kernel_rfl)))
    (all_cons (goes_off rfl (by kernel_rfl) (by kernel_rfl))
    (all_cons (goes_off rfl (by kernel_rfl) (by kernel_rfl))
    (all_cons (goes_off rfl (by kernel_rfl) (by kernel_rfl))
    (all_cons (goes_off rfl (by kernel_rfl) (by kernel_rfl))
    (all_cons (goes_off rfl (by kernel_rfl) (by kernel_rfl))
    (all_cons (goes_off rfl (by kernel_rfl) (by kernel_rfl))
    (all_cons (goes_at (.bool false) rfl (by kernel_rfl) (by kernel_rfl) (goes_val (fun w _ => by kernel_rfl)))
    (all_cons (goes_at (.bool false) rfl (by kernel_rfl) (by kernel_rfl) (goes_val (fun w _ => by kernel_rfl))) all_nil)))))))))))) ?_
   intro w5 hb5
   have hB5 := hB3.trans (hb5.mono hB3.size)
   go_wp2_with fail
   go_ret
   exact out_is HE.out (out_one 9 (by decide) (by decide) hB5)
set_option maxRecDepth 100000 in
set_option maxHeartbeats 8000000 in
theorem lplain_enter (m : Mo) (k : Ky) (e : En) (o : Int) (hc : k.code = 13) (s1 c4 : Bool) (w : World) :
 Calls Tryz.prog 116 #[.agg (evC m k e o)] w (Out (plainG m 13 s1 c4) w) := by
 have hB : Below w.heap.size w (w.alloc (.cells (evC m k e o) 106)) := (Below.refl _ _).alloc (Nat.le_refl _) _
 have k0 := Blk.new w 106 (evC m k e o)
 have HG := Lib.hid (plain_enter m s1 c4)
 obtain ⟨R, hR⟩ : ∃ R, plainG m 13 s1 c4 = R := ⟨_, rfl⟩
 rw [hR] at HG
 rw [hR]
 clear hR
 have a10 := ev_code hc k0
 cases hl : m.line with
 | true =>
   have HE := Lib.hid (HG.out.trans (if_pos hl))
   have a6 := ev_line hl k0
   clear HG hl
   go_enter Tryz.func116, Tryz.ntmps116
   go_wp2_with fail
   go_ret
   exact out_is HE.out (lout_at (by simp) hB)
 | false =>
   have HE := Lib.hid (HG.out.trans (if_neg (by rw [hl]; decide)))
   have a6 := ev_line hl k0
   clear HG hl
   go_enter Tryz.func116, Tryz.ntmps116
   go_upto_region 6 with (fail)
   refine wp_region_goes (S := fun W => Below (w.alloc (.cells (evC m k e o) 106)).heap.size (w.alloc (.cells (evC m k e o) 106)) W) (by kernel_rfl) (by kernel_rfl) (by kernel_rfl) ⟨#[.agg (evC m k e o), .pointer (some ⟨w.heap.size, 0, none⟩), .slice none 0 0, .int .i64 13, .pointer (some ⟨w.heap.size, 10, none⟩), .pointer (some ⟨w.heap.size, 10, none⟩), .int .i64 13, .bool false, .int .i64 13, .bool false, .bool false, undef, undef, .bool false, undef, undef, .bool false, .int .i64 13, .bool true, .bool true, .pointer (some ⟨w.heap.size, 0, none⟩), .pointer (some ⟨w.heap.size, 6, none⟩), .bool false, .bool false, undef, .bool false, .int .i64 13, .bool false, .bool false, undef, undef, undef, undef, undef, undef, .bool false, undef, undef, undef, undef], []⟩ (near_of [.int .i64 13, .bool false, .bool false, undef, undef, undef, undef, undef, undef, .bool false, .bool false] (by kernel_rfl)) (Below.refl _ _).drew (goesAll_of
    (all_cons (goes_at (.int .i64 13) rfl (by kernel_rfl) (by kernel_rfl) (goes_val (fun w _ => by kernel_rfl)))
    (all_cons (goes_at (.bool false) rfl (by kernel_rfl) (by kernel_rfl) (goes_val (fun w _ => by go_simp)))
    (all_cons (goes_at (.bool false) rfl (by kernel_rfl) (by kernel_rfl) (goes_val (fun w _ => by kernel_rfl)))
    (all_cons (goes_off rfl (by kernel_rfl) (by kernel_rfl))
    (all_cons (goes_off rfl (by kernel_rfl) (by kernel_rfl))
    (all_cons (goes_off rfl (by kernel_rfl) (by kernel_rfl))
    (all_cons (goes_off rfl (by kernel_rfl) (by kernel_rfl))
    (all_cons (goes_off rfl (by kernel_rfl) (by kernel_rfl))
    (all_cons (goes_off rfl (by kernel_rfl) (by kernel_rfl))
    (all_cons (goes_at (.bool false) rfl (by kernel_rfl) (by kernel_rfl) (goes_val (fun w _ => by kernel_rfl)))
    (all_cons (goes_at (.bool false) rfl (by kernel_rfl) (by kernel_rfl) (goes_val (fun w _ => by kernel_rfl))) all_nil)))))))))))) ?_
   intro w5 hb5
   have hB5 := hB.trans (hb5.mono hB.size)
   go_wp2_with fail
   go_ret
   exact out_is HE.out (out_one 13 (by decide) (by decide) hB5)
set_option maxRecDepth 100000 in
set_option maxHeartbeats 8000000 in
theorem lplain_esc (m : Mo) (k : Ky) (e : En) (o : Int) (hc : k.code = 27) (s1 c4 : Bool) (w : World) :
 Calls Tryz.prog 116 #[.agg (evC m k e o)] w (Out (plainG m 27 s1 c4) w) := by
 have hB : Below w.heap.size w (w.alloc (.cells (evC m k e o) 106)) := (Below.refl _ _).alloc (Nat.le_refl _) _
 have k0 := Blk.new w 106 (evC m k e o)
 rw [plain_esc]
 have a10 := ev_code hc k0
 go_enter Tryz.func116, Tryz.ntmps116
 go_upto_region 6 with (fail)
 refine wp_region_goes (S := fun W => Below (w.alloc (.cells (evC m k e o) 106)).heap.size (w.alloc (.cells (evC m k e o) 106)) W) (by kernel_rfl) (by kernel_rfl) (by kernel_rfl) ⟨#[.agg (evC m k e o), .pointer (some ⟨w.heap.size, 0, none⟩), .slice none 0 0, .int .i64 27, .pointer (some ⟨w.heap.size, 10, none⟩), .pointer (some ⟨w.heap.size, 10, none⟩), .int .i64 27, .bool false, .int .i64 27, .bool false, .bool false, undef, undef, .bool false, undef, undef, .bool false, .int .i64 27, .bool false, .bool false, undef, undef, undef, .bool false, undef, .bool false, .int .i64 27, .bool false, .bool false, undef, undef, undef, undef, undef, undef, .bool false, undef, undef, undef, undef], []⟩ (near_of [.int .i64 27, .bool false, .bool false, undef, undef, undef, undef, undef, undef, .bool false, .bool false] (by kernel_rfl)) (Below.refl _ _).drew (goesAll_of
  (all_cons (goes_at (.int .i64 27) rfl (by kernel_rfl) (by kernel_rfl) (goes_val (fun w _ => by kernel_rfl)))
  (all_cons (goes_at (.bool false) rfl (by kernel_rfl) (by kernel_rfl) (goes_val (fun w _ => by go_simp)))
  (all_cons (goes_at (.bool false) rfl (by kernel_rfl) (by kernel_rfl) (goes_val (fun w _ => by kernel_rfl)))
  (all_cons (goes_off rfl (by kernel_rfl) (by kernel_rfl))
  (all_cons (goes_off rfl (by kernel_rfl) (by kernel_rfl))
  (all_cons (goes_off rfl (by kernel_rfl) (by kernel_rfl))
  (all_cons (goes_off rfl (by kernel_rfl) (by kernel_rfl))
  (all_cons (goes_off rfl (by kernel_rfl) (by kernel_rfl))
  (all_cons (goes_off rfl (by kernel_rfl) (by kernel_rfl))
  (all_cons (goes_at (.bool false) rfl (by kernel_rfl) (by kernel_rfl) (goes_val (fun w _ => by kernel_rfl)))
  (all_cons (goes_at (.bool false) rfl (by kernel_rfl) (by kernel_rfl) (goes_val (fun w _ => by kernel_rfl))) all_nil)))))))))))) ?_
 intro w5 hb5
 have hB5 := hB.trans (hb5.mono hB.size)
 go_wp2_with fail
 go_ret
 exact out_one 27 (by decide) (by decide) hB5
set_option maxRecDepth 100000 in
set_option maxHeartbeats 8000000 in
theorem lplain_erase (m : Mo) (k : Ky) (e : En) (o : Int) (hc : k.code = 127) (s1 q : Bool) (hq : (bits .and .i64 o 4 != 0) = q) (w : World) :
 Calls Tryz.prog 116 #[.agg (evC m k e o)] w (Out (plainG m 127 s1 q) w) := by
 have hB : Below w.heap.size w (w.alloc (.cells (evC m k e o) 106)) := (Below.refl _ _).alloc (Nat.le_refl _) _
 have k0 := Blk.new w 106 (evC m k e o)
 have HH : Hid (∀ W, Calls Tryz.prog 80 #[.agg (evC m k e o), .int .i64 4] W fun x w' => x = .returned (.bool q) ∧ Below W.heap.size W w') := Lib.hid fun W => phas_any m k e o 4 q hq W
 have HG := Lib.hid (plain_erase m s1 q)
 obtain ⟨R, hR⟩ : ∃ R, plainG m 127 s1 q = R := ⟨_, rfl⟩
 rw [hR] at HG
 rw [hR]
 clear hR hq
 have a10 := ev_code hc k0
 have st : ∀ W W', Below (w.alloc (.cells (evC m k e o) 106)).heap.size (w.alloc (.cells (evC m k e o) 106)) W → Below W.heap.size W W' → Below (w.alloc (.cells (evC m k e o) 106)).heap.size (w.alloc (.cells (evC m k e o) 106)) W' := fun W W' h h' => h.trans (h'.mono h.size)
 rcases Bool.eq_false_or_eq_true m.back with hbk | hbk <;> rcases Bool.eq_false_or_eq_true q with rfl | rfl
 ·have HE := Lib.hid (HG.out.trans (if_neg (by rw [hbk]; decide)))
  clear HG
  go_enter Tryz.func116, Tryz.ntmps116
  go_upto_region 6 with (fail)
  refine wp_region_goes (S := fun W => Below (w.alloc (.cells (evC m k e o) 106)).heap.size (w.alloc (.cells (evC m k e o) 106)) W) (by kernel_rfl) (by kernel_rfl) (by kernel_rfl) ⟨#[.agg (evC m k e o), .pointer (some ⟨w.heap.size, 0, none⟩), .slice none 0 0, .int .i64 127, .pointer (some ⟨w.heap.size, 10, none⟩), .pointer (some ⟨w.heap.size, 10, none⟩), .int .i64 127, .bool false, .int .i64 127, .bool false, .bool false, undef, undef, .bool false, undef, undef, .bool false, .int .i64 127, .bool false, .bool false, undef, undef, undef, .bool false, undef, .bool false, .int .i64 127, .bool true, .bool true, .pointer (some ⟨w.heap.size, 0, none⟩), .pointer (some ⟨w.heap.size, 2, none⟩), .bool true, .agg (evC m k e o), .bool true, .bool false, .bool false, undef, undef, undef, undef], []⟩ (near_of [.int .i64 127, .bool true, .bool true, .pointer (some ⟨w.heap.size, 0, none⟩), .pointer (some ⟨w.heap.size, 2, none⟩), .bool true, .agg (evC m k e o), .bool true, .bool false, .bool false, .bool false] (by kernel_rfl)) (Below.refl _ _).drew (goesAll_of
   (all_cons (goes_at (.int .i64 127) rfl (by kernel_rfl) (by kernel_rfl) (goes_val (fun w _ => by kernel_rfl)))
   (all_cons (goes_at (.bool true) rfl (by kernel_rfl) (by kernel_rfl) (goes_val (fun w _ => by go_simp)))
   (all_cons (goes_at (.bool true) rfl (by kernel_rfl) (by kernel_rfl) (goes_val (fun w _ => by kernel_rfl)))
   (all_cons (goes_at (.pointer (some ⟨w.heap.size, 0, none⟩)) rfl (by kernel_rfl) (by kernel_rfl) (goes_val (fun w _ => by kernel_rfl)))
   (all_cons (goes_at (.pointer (some ⟨w.heap.size, 2, none⟩)) rfl (by kernel_rfl) (by kernel_rfl) (goes_val (fun w _ => by kernel_rfl)))
   (all_cons (goes_at (.bool true) rfl (by kernel_rfl) (by kernel_rfl) (goes_cell rfl (by kernel_rfl) (fun W hW => ev_back hbk (k0.below hW k0.lt)) (fun w => by kernel_rfl)))
   (all_cons (goes_at (.agg (evC m k e o)) rfl (by kernel_rfl) (by kernel_rfl) (goes_load rfl (by kernel_rfl) (fun W hW => k0.below hW k0.lt) Tryz.underlying106 rfl (by kernel_rfl)))
   (all_cons (goes_at (.bool true) rfl (by kernel_rfl) (by kernel_rfl) (goes_call (fun w => by kernel_rfl) (fun W hW => HH.out W) st))
   (all_cons (goes_at (.bool false) rfl (by kernel_rfl) (by kernel_rfl) (goes_val (fun w _ => by kernel_rfl)))
   (all_cons (goes_at (.bool false) rfl (by kernel_rfl) (by kernel_rfl) (goes_val (fun w _ => by kernel_rfl)))
   (all_cons (goes_at (.bool false) rfl (by kernel_rfl) (by kernel_rfl) (goes_val (fun w _ => by kernel_rfl))) all_nil)))))))))))) ?_
  intro w3 hb3
  have hB3 := hB.trans (hb3.mono hB.size)
  go_wp2_with fail
  go_ret
  exact out_is HE.out (out_one 127 (by decide) (by decide) hB3)
 ·have HE := Lib.hid (HG.out.trans (if_pos (by rw [hbk]; rfl)))
  clear HG
  go_enter Tryz.func116, Tryz.ntmps116
  go_upto_region 6 with (fail)
  refine wp_region_goes (S := fun W => Below (w.alloc (.cells (evC m k e o) 106)).heap.size (w.alloc (.cells (evC m k e o) 106)) W) (by kernel_rfl) (by kernel_rfl) (by kernel_rfl) ⟨#[.agg (evC m k e o), .pointer (some ⟨w.heap.size, 0, none⟩), .slice none 0 0, .int .i64 127, .pointer (some ⟨w.heap.size, 10, none⟩), .pointer (some ⟨w.heap.size, 10, none⟩), .int .i64 127, .bool false, .int .i64 127, .bool false, .bool false, undef, undef, .bool false, undef, undef, .bool false, .int .i64 127, .bool false, .bool false, undef, undef, undef, .bool false, undef, .bool true, .int .i64 127, .bool true, .bool true, .pointer (some ⟨w.heap.size, 0, none⟩), .pointer (some ⟨w.heap.size, 2, none⟩), .bool true, .agg (evC m k e o), .bool false, .bool true, .bool true, undef, undef, undef, undef], []⟩ (near_of [.int .i64 127, .bool true, .bool true, .pointer (some ⟨w.heap.size, 0, none⟩), .pointer (some ⟨w.heap.size, 2, none⟩), .bool true, .agg (evC m k e o), .bool false, .bool true, .bool true, .bool true] (by kernel_rfl)) (Below.refl _ _).drew (goesAll_of
   (all_cons (goes_at (.int .i64 127) rfl (by kernel_rfl) (by kernel_rfl) (goes_val (fun w _ => by kernel_rfl)))
   (all_cons (goes_at (.bool true) rfl (by kernel_rfl) (by kernel_rfl) (goes_val (fun w _ => by go_simp)))
   (all_cons (goes_at (.bool true) rfl (by kernel_rfl) (by kernel_rfl) (goes_val (fun w _ => by kernel_rfl)))
   (all_cons (goes_at (.pointer (some ⟨w.heap.size, 0, none⟩)) rfl (by kernel_rfl) (by kernel_rfl) (goes_val (fun w _ => by kernel_rfl)))
   (all_cons (goes_at (.pointer (some ⟨w.heap.size, 2, none⟩)) rfl (by kernel_rfl) (by kernel_rfl) (goes_val (fun w _ => by kernel_rfl)))
   (all_cons (goes_at (.bool true) rfl (by kernel_rfl) (by kernel_rfl) (goes_cell rfl (by kernel_rfl) (fun W hW => ev_back hbk (k0.below hW k0.lt)) (fun w => by kernel_rfl)))
   (all_cons (goes_at (.agg (evC m k e o)) rfl (by kernel_rfl) (by kernel_rfl) (goes_load rfl (by kernel_rfl) (fun W hW => k0.below hW k0.lt) Tryz.underlying106 rfl (by kernel_rfl)))
   (all_cons (goes_at (.bool false) rfl (by kernel_rfl) (by kernel_rfl) (goes_call (fun w => by kernel_rfl) (fun W hW => HH.out W) st))
   (all_cons (goes_at (.bool true) rfl (by kernel_rfl) (by kernel_rfl) (goes_val (fun w _ => by kernel_rfl)))
   (all_cons (goes_at (.bool true) rfl (by kernel_rfl) (by kernel_rfl) (goes_val (fun w _ => by kernel_rfl)))
   (all_cons (goes_at (.bool true) rfl (by kernel_rfl) (by kernel_rfl) (goes_val (fun w _ => by kernel_rfl))) all_nil)))))))))))) ?_
  intro w3 hb3
  have hB3 := hB.trans (hb3.mono hB.size)
  go_wp2_with fail
  go_ret
  exact out_is HE.out (out_one 8 (by decide) (by decide) hB3)
 ·have HE := Lib.hid (HG.out.trans (if_pos (by rw [hbk]; rfl)))
  clear HG
  go_enter Tryz.func116, Tryz.ntmps116
  go_upto_region 6 with (fail)
  refine wp_region_goes (S := fun W => Below (w.alloc (.cells (evC m k e o) 106)).heap.size (w.alloc (.cells (evC m k e o) 106)) W) (by kernel_rfl) (by kernel_rfl) (by kernel_rfl) ⟨#[.agg (evC m k e o), .pointer (some ⟨w.heap.size, 0, none⟩), .slice none 0 0, .int .i64 127, .pointer (some ⟨w.heap.size, 10, none⟩), .pointer (some ⟨w.heap.size, 10, none⟩), .int .i64 127, .bool false, .int .i64 127, .bool false, .bool false, undef, undef, .bool false, undef, undef, .bool false, .int .i64 127, .bool false, .bool false, undef, undef, undef, .bool false, undef, .bool true, .int .i64 127, .bool true, .bool true, .pointer (some ⟨w.heap.size, 0, none⟩), .pointer (some ⟨w.heap.size, 2, none⟩), .bool false, .agg (evC m k e o), .bool true, .bool true, .bool true, undef, undef, undef, undef], []⟩ (near_of [.int .i64 127, .bool true, .bool true, .pointer (some ⟨w.heap.size, 0, none⟩), .pointer (some ⟨w.heap.size, 2, none⟩), .bool false, .agg (evC m k e o), .bool true, .bool true, .bool true, .bool true] (by kernel_rfl)) (Below.refl _ _).drew (goesAll_of
   (all_cons (goes_at (.int .i64 127) rfl (by kernel_rfl) (by kernel_rfl) (goes_val (fun w _ => by kernel_rfl)))
   (all_cons (goes_at (.bool true) rfl (by kernel_rfl) (by kernel_rfl) (goes_val (fun w _ => by go_simp)))
   (all_cons (goes_at (.bool true) rfl (by kernel_rfl) (by kernel_rfl) (goes_val (fun w _ => by kernel_rfl)))
   (all_cons (goes_at (.pointer (some ⟨w.heap.size, 0, none⟩)) rfl (by kernel_rfl) (by kernel_rfl) (goes_val (fun w _ => by kernel_rfl)))
   (all_cons (goes_at (.pointer (some ⟨w.heap.size, 2, none⟩)) rfl (by kernel_rfl) (by kernel_rfl) (goes_val (fun w _ => by kernel_rfl)))
   (all_cons (goes_at (.bool false) rfl (by kernel_rfl) (by kernel_rfl) (goes_cell rfl (by kernel_rfl) (fun W hW => ev_back hbk (k0.below hW k0.lt)) (fun w => by kernel_rfl)))
   (all_cons (goes_at (.agg (evC m k e o)) rfl (by kernel_rfl) (by kernel_rfl) (goes_load rfl (by kernel_rfl) (fun W hW => k0.below hW k0.lt) Tryz.underlying106 rfl (by kernel_rfl)))
   (all_cons (goes_at (.bool true) rfl (by kernel_rfl) (by kernel_rfl) (goes_call (fun w => by kernel_rfl) (fun W hW => HH.out W) st))
   (all_cons (goes_at (.bool true) rfl (by kernel_rfl) (by kernel_rfl) (goes_val (fun w _ => by kernel_rfl)))
   (all_cons (goes_at (.bool true) rfl (by kernel_rfl) (by kernel_rfl) (goes_val (fun w _ => by kernel_rfl)))
   (all_cons (goes_at (.bool true) rfl (by kernel_rfl) (by kernel_rfl) (goes_val (fun w _ => by kernel_rfl))) all_nil)))))))))))) ?_
  intro w3 hb3
  have hB3 := hB.trans (hb3.mono hB.size)
  go_wp2_with fail
  go_ret
  exact out_is HE.out (out_one 8 (by decide) (by decide) hB3)
 ·have HE := Lib.hid (HG.out.trans (if_neg (by rw [hbk]; decide)))
  clear HG
  go_enter Tryz.func116, Tryz.ntmps116
  go_upto_region 6 with (fail)
  refine wp_region_goes (S := fun W => Below (w.alloc (.cells (evC m k e o) 106)).heap.size (w.alloc (.cells (evC m k e o) 106)) W) (by kernel_rfl) (by kernel_rfl) (by kernel_rfl) ⟨#[.agg (evC m k e o), .pointer (some ⟨w.heap.size, 0, none⟩), .slice none 0 0, .int .i64 127, .pointer (some ⟨w.heap.size, 10, none⟩), .pointer (some ⟨w.heap.size, 10, none⟩), .int .i64 127, .bool false, .int .i64 127, .bool false, .bool false, undef, undef, .bool false, undef, undef, .bool false, .int .i64 127, .bool false, .bool false, undef, undef, undef, .bool false, undef, .bool false, .int .i64 127, .bool true, .bool true, .pointer (some ⟨w.heap.size, 0, none⟩), .pointer (some ⟨w.heap.size, 2, none⟩), .bool false, .agg (evC m k e o), .bool false, .bool false, .bool false, undef, undef, undef, undef], []⟩ (near_of [.int .i64 127, .bool true, .bool true, .pointer (some ⟨w.heap.size, 0, none⟩), .pointer (some ⟨w.heap.size, 2, none⟩), .bool false, .agg (evC m k e o), .bool false, .bool false, .bool false, .bool false] (by kernel_rfl)) (Below.refl _ _).drew (goesAll_of
   (all_cons (goes_at (.int .i64 127) rfl (by kernel_rfl) (by kernel_rfl) (goes_val (fun w _ => by kernel_rfl)))
   (all_cons (goes_at (.bool true) rfl (by kernel_rfl) (by kernel_rfl) (goes_val (fun w _ => by go_simp)))
   (all_cons (goes_at (.bool true) rfl (by kernel_rfl) (by kernel_rfl) (goes_val (fun w _ => by kernel_rfl)))
   (all_cons (goes_at (.pointer (some ⟨w.heap.size, 0, none⟩)) rfl (by kernel_rfl) (by kernel_rfl) (goes_val (fun w _ => by kernel_rfl)))
   (all_cons (goes_at (.pointer (some ⟨w.heap.size, 2, none⟩)) rfl (by kernel_rfl) (by kernel_rfl) (goes_val (fun w _ => by kernel_rfl)))
   (all_cons (goes_at (.bool false) rfl (by kernel_rfl) (by kernel_rfl) (goes_cell rfl (by kernel_rfl) (fun W hW => ev_back hbk (k0.below hW k0.lt)) (fun w => by kernel_rfl)))
   (all_cons (goes_at (.agg (evC m k e o)) rfl (by kernel_rfl) (by kernel_rfl) (goes_load rfl (by kernel_rfl) (fun W hW => k0.below hW k0.lt) Tryz.underlying106 rfl (by kernel_rfl)))
   (all_cons (goes_at (.bool false) rfl (by kernel_rfl) (by kernel_rfl) (goes_call (fun w => by kernel_rfl) (fun W hW => HH.out W) st))
   (all_cons (goes_at (.bool false) rfl (by kernel_rfl) (by kernel_rfl) (goes_val (fun w _ => by kernel_rfl)))
   (all_cons (goes_at (.bool false) rfl (by kernel_rfl) (by kernel_rfl) (goes_val (fun w _ => by kernel_rfl)))
   (all_cons (goes_at (.bool false) rfl (by kernel_rfl) (by kernel_rfl) (goes_val (fun w _ => by kernel_rfl))) all_nil)))))))))))) ?_
  intro w3 hb3
  have hB3 := hB.trans (hb3.mono hB.size)
  go_wp2_with fail
  go_ret
  exact out_is HE.out (out_one 127 (by decide) (by decide) hB3)
theorem lplain_any (m : Mo) (k : Ky) (e : En) (o : Int) (hc : k.code = 9 ∨ k.code = 13 ∨ k.code = 27 ∨ k.code = 127) (s1 c4 : Bool) (h1 : (bits .and .i64 o 1 != 0) = s1) (h4 : (bits .and .i64 o 4 != 0) = c4) (w : World) (ht : Tab w) :
 Calls Tryz.prog 116 #[.agg (evC m k e o)] w (Out (plainG m k.code s1 c4) w) := by
 rcases hc with hc | hc | hc | hc
 ·rw [hc]; exact lplain_tab m k e o hc s1 c4 h1 w ht
 ·rw [hc]; exact lplain_enter m k e o hc s1 c4 w
 ·rw [hc]; exact lplain_esc m k e o hc s1 c4 w
 ·rw [hc]; exact lplain_erase m k e o hc s1 c4 h4 w
set_option maxRecDepth 100000 in
set_option maxHeartbeats 8000000 in
theorem lclo_no (f e r : Nat) (v : Value) (w : World) (hf : Blk w f 109 #[v, .bool false]) :
 CallsD Tryz.prog 79 #[.pointer (some ⟨f, 0, none⟩), .pointer (some ⟨e, 0, none⟩), .pointer (some ⟨r, 0, none⟩)] .returning w fun x u w' => u = .returning ∧ (x = .returned (.tuple #[]) ∧ w' = w) := by
 have c1 := hf.cell 1
 go_enter_d Tryz.func79, Tryz.ntmps79
 go_wp2_with fail
 go_end0
 exact ⟨rfl, rfl⟩
set_option maxRecDepth 100000 in
set_option maxHeartbeats 8000000 in
theorem lclo_off (f g r : Nat) (v : Value) (m : Mo) (k : Ky) (e : En) (o : Int) (hq : (bits .and .i64 o 2 != 0) = false) (w : World) (hf : Blk w f 109 #[v, .bool true]) (hg : Blk w g 106 (evC m k e o)) :
 CallsD Tryz.prog 79 #[.pointer (some ⟨f, 0, none⟩), .pointer (some ⟨g, 0, none⟩), .pointer (some ⟨r, 0, none⟩)] .returning w fun x u w' => u = .returning ∧ (x = .returned (.tuple #[]) ∧ Below w.heap.size w w') := by
 have c1 := hf.cell 1
 have HH : Hid (∀ W, Calls Tryz.prog 80 #[.agg (evC m k e o), .int .i64 2] W fun x w' => x = .returned (.bool false) ∧ Below W.heap.size W w') := Lib.hid fun W => phas_any m k e o 2 false hq W
 clear hq
 go_enter_d Tryz.func79, Tryz.ntmps79
 go_wp2_with (with_reducible refine Blk.wp_getg hg Tryz.underlying106 rfl (by kernel_rfl) rfl (.tmp 1) rfl rfl ?_)
 refine (HH.out _).mono ?_
 rintro x w1 ⟨rfl, hb1⟩
 go_wp2_with fail
 go_end0
 exact ⟨rfl, hb1⟩
theorem own_esc (w : World) (B : Nat) (hB : B ≤ w.heap.size) : Own (w.alloc (.cells #[.int .u8 27] 5)) B 5 1 (.slice (some ⟨w.heap.size, 0, none⟩) 1 1) 1 [.int .u8 27] := own_lit _ B _ _ _ hB (heap_alloc_new w _)
set_option maxRecDepth 100000 in
set_option maxHeartbeats 8000000 in
theorem lclo_on (f g r B : Nat) (v : Value) (m : Mo) (k : Ky) (e : En) (o : Int) (hq : (bits .and .i64 o 2 != 0) = true) (A : Option Addr) (L : List UInt8) (n c : Nat) (hn : L.length = n) (hl : n ≤ 17179869184) (a w : World) (hf : Blk w f 109 #[v, .bool true]) (hg : Blk w g 106 (evC m k e o)) (hr : Blk w r 27 #[.slice A n c]) (hL : Rd w A (bs L)) (hB : Below B a w) (hrB : B ≤ r) :
 CallsD Tryz.prog 79 #[.pointer (some ⟨f, 0, none⟩), .pointer (some ⟨g, 0, none⟩), .pointer (some ⟨r, 0, none⟩)] .returning w fun x u w' => u = .returning ∧ (x = .returned (.tuple #[]) ∧ ∃ A' c', Blk w' r 27 #[.slice A' (n + 1) c'] ∧ Rd w' A' (bs (27 :: L)) ∧ Below B a w') := by
 have c1 := hf.cell 1
 have HN := Lib.hid hn
 have HH : Hid (∀ W, Calls Tryz.prog 80 #[.agg (evC m k e o), .int .i64 2] W fun x w' => x = .returned (.bool true) ∧ Below W.heap.size W w') := Lib.hid fun W => phas_any m k e o 2 true hq W
 obtain ⟨i0, hi, hz0, hz1, hz2⟩ : ∃ i, Tryz.prog.info? 5 = some i ∧ i.zero = some (.int .u8 0) ∧ i.size = 1 ∧ i.bytes = 1 := ⟨_, rfl, rfl, rfl, rfl⟩
 clear hq hn
 have hsz : B ≤ w.heap.size := by have := hr.lt; omega
 go_enter_d Tryz.func79, Tryz.ntmps79
 go_wp2_with (with_reducible refine Blk.wp_getg hg Tryz.underlying106 rfl (by kernel_rfl) rfl (.tmp 1) rfl rfl ?_)
 refine (HH.out _).mono ?_
 rintro x w1 ⟨rfl, hb1⟩
 have hB1 := hB.trans (hb1.mono hsz)
 have r1 := (hr.below hb1 hr.lt).alloc (.cells #[.int .u8 27] 5)
 have l1 := (hL.below hb1).alloc (.cells #[.int .u8 27] 5)
 have hrs := hr.lt
 have hb1s := hb1.size
 have hown := own_esc w1 (r + 1) (by omega)
 have hs2 : B ≤ w1.heap.size := by omega
 have hB2 := hB1.alloc hs2 (.cells #[.int .u8 27] 5)
 have c2 : (w1.alloc (.cells #[.int .u8 27] 5)).cell? ⟨r, 0, none⟩ = some (.slice A n c) := r1.cell 0
 have h63 : 1 + n ≤ maxLen := by simp only [maxLen]; omega
 have hlim : (1 + n) * 1 ≤ 140737488355328 := by omega
 have hbs : r + 1 ≤ (w1.alloc (.cells #[.int .u8 27] 5)).heap.size := r1.lt
 clear hf hg hr hL hB hB1 hb1 hrs hb1s hsz c1
 go_wp2_with (first | (at_builtin; refine list_app _ rfl (.tmp 9) (.tmp 10) 27 rfl (r + 1) 5 i0 _ 1 1 Tryz.underlying27 hi hz0 hz1 hz2 rfl Nat.one_pos _ _ _ rfl hown _ n c (bs L) rfl (by rw [bs_length, HN.out]; omega) l1 (bs_one L) h63 hlim hbs ?_; intro v4 w4 hown4 hg4; have r4 := r1.grown hg4 (fun e => by have := (hown.lt r e).1; omega); have f4 := r4.frozen 0; have c4 : w4.cell? ⟨r, 0, none⟩ = some (.slice A n c) := r4.cell 0; obtain ⟨A4, cc4, rfl, hr4⟩ := hown4.form))
 go_end0
 have hB4 : Below B a w4 := hB2.grown hg4 (by omega) (fun g hg => by have := (hown.lt g hg).1; omega)
 refine ⟨rfl, A4, cc4, ?_, ?_, hB4.setCell (p := ⟨r, 0, none⟩) hrB _⟩
 ·rw [Nat.add_comm n 1]
  exact r4.set 0 _
 ·have h5 := (hown4.keep (w' := w4.setCell ⟨r, 0, none⟩ (.slice A4 (1 + n) cc4)) fun k hk => heap_setCell_other w4 ⟨r, 0, none⟩ k _ (by have := (hown4.lt k hk).1; show k ≠ r; omega)).rd
  exact h5
theorem fin_fin : ∀ k : Fin 111, (lookE (57344 + (k.1 : Int))).kind = 3 → (lookE (57344 + (k.1 : Int))).fin ≤ 83 := by decide +kernel
theorem fin_83 {c : Int} (h : (lookE c).kind = 3) : (lookE c).fin ≤ 83 := by
 by_cases hc : c < 57344 ∨ 57455 ≤ c
 ·rw [look_out hc] at h ⊢
  show (0 : Int) ≤ 83
  decide
 ·obtain ⟨k, rfl⟩ : ∃ k : Fin 111, c = 57344 + k.1 := ⟨⟨(c - 57344).toNat, by omega⟩, by simp; omega⟩
  exact fin_fin k h
set_option maxRecDepth 100000 in
set_option maxHeartbeats 8000000 in
theorem lletter_any (m : Mo) (k : Ky) (e : En) (o : Int) (h3 : e.kind ≠ 4) (f0 : 65 ≤ e.fin) (f1 : e.fin ≤ 83) (o0 : 0 ≤ o) (o1 : o < 8) (w : World) (ht : Tab w) :
 Calls Tryz.prog 117 #[.agg (evC m k e o)] w (OutC (putS (funcQ m e o)) w) := by
 have hB : Below w.heap.size w (w.alloc (.cells (evC m k e o) 106)) := (Below.refl _ _).alloc (Nat.le_refl _) _
 have k0 := Blk.new w 106 (evC m k e o)
 obtain ⟨_, a17, _⟩ := ev_ent k0
 have a21 := ev_old k0
 have a0 := (ev_mo k0).1
 have hq : funcQ m e o = if 0 < o then sqN 1 e.fin [1, 1 + o] else if (m.cursor || decide (80 ≤ e.fin)) = true then sqN 2 e.fin [] else sqN 1 e.fin [] := if_neg h3
 obtain ⟨F, hF⟩ : ∃ F, e.fin = F := ⟨_, rfl⟩
 rw [hF] at f0 f1 a17 hq
 obtain ⟨Q, hQ⟩ : ∃ Q, funcQ m e o = Q := ⟨_, rfl⟩
 rw [hQ] at hq ⊢
 have HQ := Lib.hid hq
 clear hq hQ h3 hF
 have HT := Lib.hid ht
 clear ht
 by_cases ho : o = 0
 ·subst ho
  have HQ := Lib.hid (HQ.out.trans (if_neg (by decide)))
  obtain ⟨cu, hcu⟩ : ∃ c, m.cursor = c := ⟨_, rfl⟩
  rw [hcu] at a0 HQ
  clear hcu
  have g1 : F < 256 := by omega
  have HS : Hid (∀ W, Tab W → Calls Tryz.prog 140 #[.int .u8 F] W (OutC (putS (sqN 2 F [])) W)) := Lib.hid fun W hW => lsingle_any F (by omega) (by omega) W hW
  cases cu with
  | true =>
    have HE := Lib.hid (HQ.out.trans (if_pos rfl))
    clear HQ
    go_enter Tryz.func117, Tryz.ntmps117
    go_wp2_with fail
    refine (HS.out _ (HT.out.below hB)).mono ?_
    rintro e w1 ⟨A1, c1, rfl, hc1, hr1, hb1⟩
    go_wp2_with fail
    go_ret
    exact outC_is (congrArg putS HE.out) ⟨A1, c1, rfl, hc1, hr1, hB.trans (hb1.mono hB.size)⟩
  | false =>
    by_cases h80 : 80 ≤ F
    ·have HE := Lib.hid (HQ.out.trans (if_pos (by rw [Bool.false_or, decide_eq_true h80])))
     clear HQ
     go_enter Tryz.func117, Tryz.ntmps117
     go_wp2_with fail
     refine (HS.out _ (HT.out.below hB)).mono ?_
     rintro e w1 ⟨A1, c1, rfl, hc1, hr1, hb1⟩
     go_wp2_with fail
     go_ret
     exact outC_is (congrArg putS HE.out) ⟨A1, c1, rfl, hc1, hr1, hB.trans (hb1.mono hB.size)⟩
    ·have HE := Lib.hid (HQ.out.trans (if_neg (by rw [Bool.false_or, decide_eq_false h80]; decide)))
     have hmay : mayS (sqN 1 F []) = 0 := may_csi (by omega) (by omega) (by simp) (by simp)
     have HN : Hid (∀ A c W, Rd W A (is_ []) → Calls Tryz.prog 114 #[.int .u8 0, .int .u8 F, .slice A 0 c] W (NumQ F [] 0 W)) := Lib.hid fun A c W hr => lnum_any F (by omega) (by omega) [] 0 rfl (by decide) A c W hr
     have HP : Hid (∀ A c W, Tab W → RdP W A [] → Calls Tryz.prog 139 #[.agg #[.int .i64 1, .int .u8 0, .slice A 0 c, .string ⟨#[]⟩, .int .u8 F, .string ⟨#[]⟩]] W (OutC (putS (sqN 1 F [])) W)) := Lib.hid fun A c W hW hr => lput_any (l := []) rfl (by omega) (by omega) hmay A c W hW hr
     clear HQ HS hmay
     go_enter Tryz.func117, Tryz.ntmps117
     go_wp2_with fail
     refine (HN.out none 0 _ (Rd.nil _ _)).mono ?_
     rintro e w4 ⟨A4, c4, rfl, hr4, hb4⟩
     have hB4 := hB.trans (hb4.mono hB.size)
     go_wp2_with fail
     refine (HP.out A4 c4 _ (HT.out.below hB4) hr4).mono ?_
     rintro e w5 ⟨A5, c5, rfl, hc5, hr5, hb5⟩
     go_wp2_with fail
     go_ret
     exact outC_is (congrArg putS HE.out) ⟨A5, c5, rfl, hc5, hr5, hB4.trans (hb5.mono hB4.size)⟩
 ·have tn : (o != 0) = true := by simp [bne, ho]
  obtain ⟨P, hP⟩ : ∃ P, 1 + o = P := ⟨_, rfl⟩
  have hpar : paramN o = P := by unfold paramN; rw [if_neg (by omega)]; omega
  have HPR : Hid (∀ W, Calls Tryz.prog 76 #[.int .i64 o] W fun e w' => e = .returned (.int .i64 P) ∧ Below W.heap.size W w') := Lib.hid fun W => by rw [← hpar]; exact pparam_any o W
  have HE := Lib.hid (HQ.out.trans (if_pos (by omega)))
  rw [hP] at HE
  have hmay : mayS (sqN 1 F [1, P]) = 0 := may_csi (by omega) (by omega) (by simp) (by simp; omega)
  have HN : Hid (∀ A c W, Rd W A (is_ [1, P]) → Calls Tryz.prog 114 #[.int .u8 0, .int .u8 F, .slice A 2 c] W (NumQ F [1, P] 2 W)) := Lib.hid fun A c W hr => lnum_any F (by omega) (by omega) [1, P] 2 rfl (by decide) A c W hr
  have HP : Hid (∀ A c W, Tab W → RdP W A [[1], [P]] → Calls Tryz.prog 139 #[.agg #[.int .i64 1, .int .u8 0, .slice A 2 c, .string ⟨#[]⟩, .int .u8 F, .string ⟨#[]⟩]] W (OutC (putS (sqN 1 F [1, P])) W)) := Lib.hid fun A c W hW hr => lput_any (l := [1, P]) rfl (by omega) (by omega) hmay A c W hW hr
  have g1 : F < 256 := by omega
  clear HQ hpar hmay hP a0
  go_enter Tryz.func117, Tryz.ntmps117
  go_wp2_with fail
  refine (HPR.out _).mono ?_
  rintro e w3 ⟨rfl, hb3⟩
  have hB3 := hB.trans (hb3.mono hB.size)
  clear HPR hb3 hB a17 a21 k0
  have hB4 := hB3.alloc hB3.size (.cells #[.int .i64 1, .int .i64 P] 3)
  have r4 : Rd (w3.alloc (.cells #[.int .i64 1, .int .i64 P] 3)) (some ⟨w3.heap.size, 0, none⟩) (is_ [1, P]) := Rd.block (heap_alloc_new w3 _) rfl
  go_wp2_with fail
  refine (HN.out _ 2 _ r4).mono ?_
  rintro e w5 ⟨A5, c5, rfl, hr5, hb5⟩
  have hB5 := hB4.trans (hb5.mono hB4.size)
  go_wp2_with fail
  refine (HP.out A5 c5 _ (HT.out.below hB5) hr5).mono ?_
  rintro e w6 ⟨A6, c6, rfl, hc6, hr6, hb6⟩
  go_wp2_with fail
  go_ret
  exact outC_is (congrArg putS HE.out) ⟨A6, c6, rfl, hc6, hr6, hB5.trans (hb6.mono hB5.size)⟩
set_option maxRecDepth 100000 in
set_option maxHeartbeats 8000000 in
theorem lnumber_any (m : Mo) (k : Ky) (e : En) (o : Int) (h4 : e.kind = 4) (f0 : 1 ≤ e.num) (f1 : e.num ≤ 100) (o0 : 0 ≤ o) (o1 : o < 8) (w : World) (ht : Tab w) :
 Calls Tryz.prog 118 #[.agg (evC m k e o)] w (OutC (putS (funcQ m e o)) w) := by
 have hB : Below w.heap.size w (w.alloc (.cells (evC m k e o) 106)) := (Below.refl _ _).alloc (Nat.le_refl _) _
 have k0 := Blk.new w 106 (evC m k e o)
 obtain ⟨_, _, a18, _⟩ := ev_ent k0
 have a21 := ev_old k0
 have hq : funcQ m e o = if o = 0 then sqN 1 126 [e.num] else sqN 1 126 [e.num, 1 + o] := if_pos h4
 obtain ⟨N, hN⟩ : ∃ N, e.num = N := ⟨_, rfl⟩
 rw [hN] at f0 f1 a18 hq
 obtain ⟨Q, hQ⟩ : ∃ Q, funcQ m e o = Q := ⟨_, rfl⟩
 rw [hQ] at hq ⊢
 have HQ := Lib.hid hq
 clear hq hQ h4 hN
 have HT := Lib.hid ht
 clear ht
 have hB1 := hB.alloc hB.size (.cells #[.int .i64 N] 3)
 have k1 := k0.alloc (.cells #[.int .i64 N] 3)
 have hown := own_lit ((w.alloc (.cells (evC m k e o) 106)).alloc (.cells #[.int .i64 N] 3)) w.heap.size 3 (w.heap.size + 1) (.int .i64 N) (Nat.le_succ _) (by have := heap_alloc_new (w.alloc (.cells (evC m k e o) 106)) (.cells #[.int .i64 N] 3); simpa using this)
 have b21 := ev_old k1
 by_cases ho : o = 0
 ·subst ho
  have HE := Lib.hid (HQ.out.trans (if_pos rfl))
  have hmay : mayS (sqN 1 126 [N]) = 0 := may_csi (by decide) (by decide) (by simp) (by simp; omega)
  have HN : Hid (∀ A c W, Rd W A (is_ [N]) → Calls Tryz.prog 114 #[.int .u8 0, .int .u8 126, .slice A 1 c] W (NumQ 126 [N] 1 W)) := Lib.hid fun A c W hr => lnum_any 126 (by omega) (by omega) [N] 1 rfl (by decide) A c W hr
  have HP : Hid (∀ A c W, Tab W → RdP W A [[N]] → Calls Tryz.prog 139 #[.agg #[.int .i64 1, .int .u8 0, .slice A 1 c, .string ⟨#[]⟩, .int .u8 126, .string ⟨#[]⟩]] W (OutC (putS (sqN 1 126 [N])) W)) := Lib.hid fun A c W hW hr => lput_any (l := [N]) rfl (by omega) (by omega) hmay A c W hW hr
  clear HQ hmay
  have r4 : Rd _ (some ⟨w.heap.size + 1, 0, none⟩) (is_ [N]) := hown.rd
  go_enter Tryz.func118, Tryz.ntmps118
  go_wp2_with fail
  refine (HN.out _ 1 _ r4).mono ?_
  rintro e w5 ⟨A5, c5, rfl, hr5, hb5⟩
  have hB5 := hB1.trans (hb5.mono hB1.size)
  go_wp2_with fail
  refine (HP.out A5 c5 _ (HT.out.below hB5) hr5).mono ?_
  rintro e w6 ⟨A6, c6, rfl, hc6, hr6, hb6⟩
  go_wp2_with fail
  go_ret
  exact outC_is (congrArg putS HE.out) ⟨A6, c6, rfl, hc6, hr6, hB5.trans (hb6.mono hB5.size)⟩
 ·obtain ⟨i0, hi, hz0, hz1, hz2⟩ : ∃ i, Tryz.prog.info? 3 = some i ∧ i.zero = some (.int .i64 0) ∧ i.size = 1 ∧ i.bytes = 8 := ⟨_, rfl, rfl, rfl, rfl⟩
  have tn : (o != 0) = true := by simp [bne, ho]
  obtain ⟨P, hP⟩ : ∃ P, 1 + o = P := ⟨_, rfl⟩
  have hpar : paramN o = P := by unfold paramN; rw [if_neg (by omega)]; omega
  have HPR : Hid (∀ W, Calls Tryz.prog 76 #[.int .i64 o] W fun e w' => e = .returned (.int .i64 P) ∧ Below W.heap.size W w') := Lib.hid fun W => by rw [← hpar]; exact pparam_any o W
  have HE := Lib.hid (HQ.out.trans (if_neg ho))
  rw [hP] at HE
  have hmay : mayS (sqN 1 126 [N, P]) = 0 := may_csi (by decide) (by decide) (by simp) (by simp; omega)
  have HN : Hid (∀ A c W, Rd W A (is_ [N, P]) → Calls Tryz.prog 114 #[.int .u8 0, .int .u8 126, .slice A 2 c] W (NumQ 126 [N, P] 2 W)) := Lib.hid fun A c W hr => lnum_any 126 (by omega) (by omega) [N, P] 2 rfl (by decide) A c W hr
  have HP : Hid (∀ A c W, Tab W → RdP W A [[N], [P]] → Calls Tryz.prog 139 #[.agg #[.int .i64 1, .int .u8 0, .slice A 2 c, .string ⟨#[]⟩, .int .u8 126, .string ⟨#[]⟩]] W (OutC (putS (sqN 1 126 [N, P])) W)) := Lib.hid fun A c W hW hr => lput_any (l := [N, P]) rfl (by omega) (by omega) hmay A c W hW hr
  clear HQ hpar hmay hP
  go_enter Tryz.func118, Tryz.ntmps118
  go_wp2_with fail
  refine (HPR.out _).mono ?_
  rintro e w3 ⟨rfl, hb3⟩
  have hB3 := hB1.trans (hb3.mono hB1.size)
  have o3 := hown.behind hb3
  clear HPR hb3 hB hB1 a18 a21 b21 k0 k1 hown
  have p1 := o3.alloc (.cells #[.int .i64 P] 3)
  have p3 := hB3.alloc hB3.size (.cells #[.int .i64 P] 3)
  have pr : Rd (w3.alloc (.cells #[.int .i64 P] 3)) (some ⟨w3.heap.size, 0, none⟩) [.int .i64 P] := Rd.block (heap_alloc_new w3 _) (by simp)
  have ps := p3.size
  have p6 : 1 + 1 ≤ maxLen := by decide
  have p7 : (1 + 1) * 8 ≤ 140737488355328 := by decide
  have p8 : ∀ u ∈ [Value.int IntKind.i64 P], u.oneCell' = true := fun u hu => by rw [List.mem_singleton] at hu; subst hu; rfl
  go_wp2_with (at_builtin; refine list_app _ rfl (.tmp 11) (.tmp 15) 57 rfl w.heap.size 3 i0 _ 1 8 Tryz.underlying57 hi hz0 hz1 hz2 rfl Nat.one_pos _ _ _ rfl p1 _ 1 1 [.int .i64 P] rfl rfl pr p8 p6 p7 ps ?_; intro v4 w4 o4 hg)
  have hB4 := p3.grown hg ps (fun g hg => (p1.lt g hg).1)
  obtain ⟨A4, c4, rfl, hr4⟩ := o4.form
  have hr4 : Rd w4 A4 (is_ [N, P]) := hr4
  refine (HN.out A4 c4 _ hr4).mono ?_
  rintro e w5 ⟨A5, c5, rfl, hr5, hb5⟩
  have hB5 := hB4.trans (hb5.mono hB4.size)
  go_wp2_with fail
  refine (HP.out A5 c5 _ (HT.out.below hB5) hr5).mono ?_
  rintro e w6 ⟨A6, c6, rfl, hc6, hr6, hb6⟩
  go_wp2_with fail
  go_ret
  exact outC_is (congrArg putS HE.out) ⟨A6, c6, rfl, hc6, hr6, hB5.trans (hb6.mono hB5.size)⟩
set_option maxRecDepth 100000 in
set_option maxHeartbeats 8000000 in
theorem ltext_any (m : Mo) (k : Ky) (e : En) (o : Int) (q : Bool) (hq : (bits .and .i64 o 4 != 0) = q) (hk : okK k) (hs : k.text.size ≤ 4294967296) (w : World) (hz : Siz w) :
 Calls Tryz.prog 115 #[.agg (evC m k e o)] w (Out (shownG k.code k.shift (hasN k.mods 1) q k.text.data.toList) w) := by
 have hB : Below w.heap.size w (w.alloc (.cells (evC m k e o) 106)) := (Below.refl _ _).alloc (Nat.le_refl _) _
 have k0 := Blk.new w 106 (evC m k e o)
 have HH : Hid (∀ W, Calls Tryz.prog 80 #[.agg (evC m k e o), .int .i64 4] W fun x w' => x = .returned (.bool q) ∧ Below W.heap.size W w') := Lib.hid fun W => phas_any m k e o 4 q hq W
 have HSH : Hid (∀ W, Calls Tryz.prog 104 #[.agg #[.int .i64 k.code, .int .i64 k.mods, .int .i64 k.typ, .int .i64 k.shift, .int .i64 k.base, .string k.text]] W fun e w' => e = .returned (.int .i64 (shownC k.code k.shift (hasN k.mods 1))) ∧ Below W.heap.size W w') := Lib.hid fun W => by rw [← shownK_eq]; exact pshown_any k hk W
 obtain ⟨X, hX⟩ : ∃ X, shownC k.code k.shift (hasN k.mods 1) = X := ⟨_, rfl⟩
 have hXr : in10 X := by
  rw [← hX]
  unfold shownC
  have h1 := hk.code
  have h2 := hk.shift
  unfold in10 at *
  split
  ·exact h1
  ·split
   ·exact h2
   ·split <;> omega
 obtain ⟨R, hR⟩ : ∃ R, shownG k.code k.shift (hasN k.mods 1) q k.text.data.toList = R := ⟨_, rfl⟩
 have HG := Lib.hid (show R = if q = false ∧ k.text.data.toList ≠ [] then k.text.data.toList else if (q && (foldN X).2) = true then [byt (foldN X).1] else putL X by rw [← hR]; unfold shownG; rw [hX])
 rw [hR]
 rw [hX] at HSH
 clear hk hX hR hq
 obtain ⟨⟨G, b⟩, hF⟩ : ∃ G, foldN X = G := ⟨_, rfl⟩
 have HF : Hid (∀ W, Calls Tryz.prog 138 #[.int .i64 X] W fun e w' => e = .returned (.tuple #[.int .i64 G, .bool b]) ∧ Below W.heap.size W w') := Lib.hid fun W => by
  have := pfold_any X W hXr
  rwa [hF] at this
 have hrng := (fold_rng X).1
 rw [hF] at hrng HG
 simp only at hrng HG
 clear hF hXr
 have HZ := Lib.hid hz
 clear hz
 have hm : k.text.size ≤ maxLen := by simp only [maxLen]; omega
 obtain ⟨a10, a11, a12, a13, a14, a15⟩ := ev_key k0
 go_enter Tryz.func115, Tryz.ntmps115
 go_wp2_with fail
 refine (HSH.out _).mono ?_
 rintro e w2 ⟨rfl, hb2⟩
 have hB2 := hB.trans (hb2.mono hB.size)
 have k2 := k0.below hb2 k0.lt
 clear k0 hB hb2 a10 a11 a12 a13 a14 a15
 go_wp2_with (with_reducible refine Blk.wp_get k2 Tryz.underlying106 rfl (by kernel_rfl) rfl (.tmp 1) rfl rfl ?_)
 refine (HH.out _).mono ?_
 rintro e w3 ⟨rfl, hb3⟩
 have hB3 := hB2.trans (hb3.mono hB2.size)
 have k3 := k2.below hb3 k2.lt
 clear k2 hB2 hb3
 obtain ⟨a10, a11, a12, a13, a14, a15⟩ := ev_key k3
 cases q with
 | false =>
   by_cases hne : k.text.data.toList = []
   ·have te : k.text = ⟨#[]⟩ := by apply ByteArray.ext; simpa using hne
    have HE := Lib.hid (HG.out.trans ((if_neg (fun h => h.2 hne)).trans (if_neg (by simp))))
    rw [te] at a15
    clear HG hm hs te hne
    go_wp2_with fail
    refine (Put_any X _ (HZ.out.below' hB3)).mono ?_
    rintro e w9 ⟨A, c, rfl, hr9, hb9⟩
    go_wp2_with fail
    go_ret
    exact out_is HE.out ⟨A, c, rfl, hr9, hB3.trans (hb9.mono hB3.size)⟩
   ·have HE := Lib.hid (HG.out.trans (if_pos ⟨rfl, hne⟩))
    obtain ⟨text, htx⟩ : ∃ t, k.text = t := ⟨_, rfl⟩
    rw [htx] at a15 hne hm HE hs
    have tl : text.toList.isEmpty = false := text_full hne
    clear HG hne htx
    have hs1 := hB3.size
    go_wp2_with (first | ((with_reducible refine list_conv _ rfl (.tmp 26) 9 27 rfl w.heap.size 5 text ?_ Tryz.underlying9 Tryz.underlying27 Tryz.underlying5 hm hs1 ?_); rfl; intro v2 w4 hown2 hg2))
    go_ret
    exact out_is HE.out (out_own hown2 (hB3.trans ((below_none hg2).mono hB3.size)))
 | true =>
   cases b with
   | true =>
     obtain ⟨f0, f1⟩ := hrng rfl
     have g1 : G < 256 := by omega
     have HE := Lib.hid (HG.out.trans ((if_neg (fun h => by cases h.1)).trans (if_pos rfl)))
     clear HG hrng
     go_wp2_with fail
     refine (HF.out _).mono ?_
     rintro e w4 ⟨rfl, hb4⟩
     have hB4 := hB3.trans (hb4.mono hB3.size)
     clear hB3 hb4 k3 a10 a11 a12 a13 a14 a15
     have hw8 : IntKind.u8.wrap G = G := IntWalk.u8_in G ⟨f0, by omega⟩
     go_wp2_with fail
     go_ret
     exact out_is HE.out (out_one G f0 g1 hB4)
   | false =>
     have HE := Lib.hid (HG.out.trans ((if_neg (fun h => by cases h.1)).trans (if_neg (by simp))))
     clear HG hrng
     go_wp2_with fail
     refine (HF.out _).mono ?_
     rintro e w4 ⟨rfl, hb4⟩
     have hB4 := hB3.trans (hb4.mono hB3.size)
     clear hB3 hb4 k3 a10 a11 a12 a13 a14 a15
     go_wp2_with fail
     refine (Put_any X _ (HZ.out.below' hB4)).mono ?_
     rintro e w9 ⟨A, c, rfl, hr9, hb9⟩
     go_wp2_with fail
     go_ret
     exact out_is HE.out ⟨A, c, rfl, hr9, hB4.trans (hb9.mono hB4.size)⟩
end Go.Proofs.YtceipblcdcgljaaGreatDoor
