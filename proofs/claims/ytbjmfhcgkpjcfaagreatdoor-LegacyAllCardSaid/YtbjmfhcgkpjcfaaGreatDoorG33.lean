/-
  Stage 11, the landed legacy: a plain key.
-/
import Derived.Test.YtbjmfhcgkpjcfaaGreatDoorG07
import Derived.Test.YtbjmfhcgkpjcfaaGreatDoorG20
import Derived.Test.YtbjmfhcgkpjcfaaGreatDoorG30
import Derived.Deep.Cut
namespace Go.Proofs.YtbjmfhcgkpjcfaaGreatDoor
open Go.RowKit

theorem Blk.wp_getg {P : Program} {ops : Array Oper} {rest : List Oper} {op : Oper} {a : Act} {w : World} {g : Nat} {t : TypeId} {cs : Array Value} {td : TypeDesc} {Q : Exit → Act → World → Prop} (h : Blk w g t cs) (hu : P.underlying t = some td) (hr : td.isRow = true) (hi : (P.info? t).map (·.size) = some cs.size) (hgd : Region.wanted op (yielded ops a.tmps) = true) (x : Operand) (ho : op.op = .load t x) (hx : a.eval x = .pointer (some ⟨g, 0, none⟩))
    (hK : wpList P ops Q rest (a.put op.dst (.agg cs)) w) : wpList P ops Q (op :: rest) a w := by
  unfold wpList
  rw [if_pos hgd]
  exact .inl (wp_load_mid t x ho g 0 hx cs.toList td h.range hu hr (by rw [hi, Array.length_toList]) hK)
theorem goes_cell {P : Program} {S : World → Prop} {aF : Act} {o : Oper} {t : TypeId} {x : Operand} {a : Addr} {v : Value} (ho : o.op = .load t x) (hx : aF.eval x = .pointer (some a)) (hk : ∀ w, S w → w.cell? a = some v) (hag : ∀ w, (isAgg t).run P w = .ok false w) : Goes P S o aF v :=
  goes_val fun w hS => by
    unfold execOp
    simp only [ho, hx, Instr.loadAt, Instr.sureAddr, Sem.run_bind, Sem.run_pure, Result.andThen_ok, run_loadVar_one hag (hk w hS)]
theorem goes_off {P : Program} {ops : Array Oper} {S : World → Prop} {aF : Act} {o : Oper} {d : Tmp} (hd : o.dst = some d) (ht : aF.tmps[d]? = some undef) (hw : Region.wanted o (yielded ops aF.tmps) = false) :
    ∃ v, (∀ d, o.dst = some d → aF.tmps[d]? = some v) ∧ (if Region.wanted o (yielded ops aF.tmps) = true then Goes P S o aF v else v = undef) :=
  ⟨undef, fun d' hd' => by rw [hd] at hd'; cases hd'; exact ht, by rw [if_neg (by rw [hw]; decide)]⟩
theorem lout_at {w w1 : World} {t : TypeId} {g : Nat} (hg : w1.heap.size = g) (hb : Below w.heap.size w w1) : Out [13, 10] w (.returned (.slice (some ⟨g, 0, none⟩) 2 2)) (w1.alloc (.cells #[.int .u8 13, .int .u8 10] t)) := by
  subst hg
  exact ⟨_, _, rfl, Rd.block (heap_alloc_new w1 _) rfl, hb.alloc hb.size _⟩
theorem lone_at {w w1 : World} {t : TypeId} {g : Nat} (hg : w1.heap.size = g) (x : Int) (h0 : 0 ≤ x) (h1 : x < 256) (hb : Below w.heap.size w w1) : Out [byt x] w (.returned (.slice (some ⟨g, 0, none⟩) 1 1)) (w1.alloc (.cells #[.int .u8 x] t)) := by
  subst hg
  exact out_one x h0 h1 hb
theorem lout_two {w w1 : World} {t : TypeId} (hb : Below w.heap.size w w1) : Out [13, 10] w (.returned (.slice (some ⟨w1.heap.size, 0, none⟩) 2 2)) (w1.alloc (.cells #[.int .u8 13, .int .u8 10] t)) :=
  ⟨_, _, rfl, Rd.block (heap_alloc_new w1 _) rfl, hb.alloc hb.size _⟩
theorem plain_tab (m : Mo) (s1 c4 : Bool) : plainG m 9 s1 c4 = if s1 = true then seqB 1 90 [] else [9] := if_pos rfl
theorem plain_enter (m : Mo) (s1 c4 : Bool) : plainG m 13 s1 c4 = if m.line = true then [13, 10] else [13] := rfl
theorem plain_esc (m : Mo) (s1 c4 : Bool) : plainG m 27 s1 c4 = [27] := rfl
theorem plain_erase (m : Mo) (s1 c4 : Bool) : plainG m 127 s1 c4 = if (m.back != c4) = true then [8] else [127] := rfl
theorem ev_code {w : World} {g : Nat} {t : TypeId} {m : Mo} {k : Ky} {e : En} {o c : Int} (hc : k.code = c) (h : Blk w g t (evC m k e o)) : w.cell? ⟨g, 10, none⟩ = some (.int .i64 c) := hc ▸ (ev_key h).1
theorem ev_line {w : World} {g : Nat} {t : TypeId} {m : Mo} {k : Ky} {e : En} {o : Int} {b : Bool} (hc : m.line = b) (h : Blk w g t (evC m k e o)) : w.cell? ⟨g, 6, none⟩ = some (.bool b) := hc ▸ h.cell 6
theorem ev_back {w : World} {g : Nat} {t : TypeId} {m : Mo} {k : Ky} {e : En} {o : Int} {b : Bool} (hc : m.back = b) (h : Blk w g t (evC m k e o)) : w.cell? ⟨g, 2, none⟩ = some (.bool b) := hc ▸ h.cell 2
set_option maxRecDepth 100000 in
set_option maxHeartbeats 8000000 in
theorem lplain_tab (m : Mo) (k : Ky) (e : En) (o : Int) (hc : k.code = 9) (q c4 : Bool) (hq : (bits .and .i64 o 1 != 0) = q) (w : World) (ht : Tab w) :
    Calls Tryz.prog 29 #[.agg (evC m k e o)] w (Out (plainG m 9 q c4) w) := by
  have hB : Below w.heap.size w (w.alloc (.cells (evC m k e o) 37)) := (Below.refl _ _).alloc (Nat.le_refl _) _
  have k0 := Blk.new w 37 (evC m k e o)
  have HH : Hid (∀ W, Calls Tryz.prog 13 #[.agg (evC m k e o), .int .i64 1] W fun x w' => x = .returned (.bool q) ∧ Below W.heap.size W w') := Lib.hid fun W => phas_any m k e o 1 q hq W
  have HN : Hid (∀ W, Calls Tryz.prog 51 #[.int .u8 0, .int .u8 90, .slice none 0 0] W (NumQ 90 [] 0 W)) := Lib.hid fun W => lnum_any 90 (by decide) (by decide) [] 0 rfl (by decide) none 0 W (Rd.nil _ _)
  have HP : Hid (∀ A c W, Tab W → RdP W A [] → Calls Tryz.prog 50 #[.agg #[.int .i64 1, .int .u8 0, .slice A 0 c, .string ⟨#[]⟩, .int .u8 90, .string ⟨#[]⟩]] W (OutC (putS (sqN 1 90 [])) W)) := Lib.hid fun A c W hW hr => lput_any (l := []) rfl (by decide) (by decide) (by decide +kernel) A c W hW hr
  have HG := Lib.hid (plain_tab m q c4)
  have hsq : seqB 1 90 [] = putS (sqN 1 90 []) := seqB_is (by decide +kernel)
  obtain ⟨R, hR⟩ : ∃ R, plainG m 9 q c4 = R := ⟨_, rfl⟩
  rw [hR, hsq] at HG
  rw [hR]
  clear hR hsq hq
  have HT := Lib.hid ht
  clear ht
  have a10 := ev_code hc k0
  go_enter Tryz.func29, Tryz.ntmps29
  go_wp2_with (with_reducible refine Blk.wp_getg k0 Tryz.underlying37 rfl (by kernel_rfl) rfl (.tmp 1) rfl rfl ?_)
  refine (HH.out _).mono ?_
  rintro e w3 ⟨rfl, hb3⟩
  have hB3 := hB.trans (hb3.mono hB.size)
  have k3 := k0.below hb3 k0.lt
  clear k0 hB hb3 HH a10
  have a10 := ev_code hc k3
  cases q with
  | true =>
    have HE := Lib.hid (HG.out.trans (if_pos rfl))
    clear HG
    go_wp2_with fail
    refine (HN.out _).mono ?_
    rintro e w4 ⟨A4, c4, rfl, hr4, hb4⟩
    have hB4 := hB3.trans (hb4.mono hB3.size)
    go_wp2_with fail
    refine (HP.out A4 c4 _ (HT.out.below hB4) hr4).mono ?_
    rintro e w5 ⟨A5, c5, rfl, _, hr5, hb5⟩
    go_wp2_with fail
    go_ret
    exact out_is HE.out ⟨A5, c5, rfl, hr5, hB4.trans (hb5.mono hB4.size)⟩
  | false =>
    have HE := Lib.hid (HG.out.trans (if_neg (by decide)))
    clear HG
    go_upto_region 6 with (fail)
    refine wp_region_goes (S := fun W => Below (w3).heap.size (w3) W) (by kernel_rfl) (by kernel_rfl) (by kernel_rfl) ⟨#[.agg (evC m k e o), .pointer (some ⟨w.heap.size, 0, none⟩), .slice none 0 0, .int .i64 9, .pointer (some ⟨w.heap.size, 10, none⟩), .pointer (some ⟨w.heap.size, 10, none⟩), .int .i64 9, .bool false, .int .i64 9, .bool true, .bool true, .agg (evC m k e o), .bool false, .bool false, undef, undef, .bool false, .int .i64 9, .bool false, .bool false, undef, undef, undef, .bool false, undef, .bool false, .int .i64 9, .bool false, .bool false, undef, undef, undef, undef, undef, undef, .bool false, undef, undef, undef, undef], []⟩ (near_of [.int .i64 9, .bool false, .bool false, undef, undef, undef, undef, undef, undef, .bool false, .bool false] (by kernel_rfl)) (Below.refl _ _).drew (goesAll_of
      (all_cons (goes_at (.int .i64 9) rfl (by kernel_rfl) (by kernel_rfl) (goes_val (fun w _ => by kernel_rfl))) 
      (all_cons (goes_at (.bool false) rfl (by kernel_rfl) (by kernel_rfl) (goes_val (fun w _ => by go_simp))) 
      (all_cons (goes_at (.bool false) rfl (by kernel_rfl) (by kernel_rfl) (goes_val (fun w _ => by kernel_rfl))) 
      (all_cons (goes_off rfl (by kernel_rfl) (by kernel_rfl)) 
      (all_cons (goes_off rfl (by kernel_rfl) (by kernel_rfl)) 
      (all_cons (goes_off rfl (by kernel_rfl) (by kernel_rfl)) 
      (all_cons (goes_off rfl (by kernel_rfl) (by kernel_rfl)) 
      (all_cons (goes_off rfl (by kernel_rfl) (by kernel_rfl)) 
      (all_cons (goes_off rfl (by kernel_rfl) (by kernel_rfl)) 
      (all_cons (goes_at (.bool false) rfl (by kernel_rfl) (by kernel_rfl) (goes_val (fun w _ => by kernel_rfl))) 
      (all_cons (goes_at (.bool false) rfl (by kernel_rfl) (by kernel_rfl) (goes_val (fun w _ => by kernel_rfl))) all_nil)))))))))))) ?_
    intro w5 hb5
    have hB5 := hB3.trans (hb5.mono hB3.size)
    go_wp2_with fail
    go_ret
    exact out_is HE.out (out_one 9 (by decide) (by decide) hB5)
set_option maxRecDepth 100000 in
set_option maxHeartbeats 8000000 in
theorem lplain_enter (m : Mo) (k : Ky) (e : En) (o : Int) (hc : k.code = 13) (s1 c4 : Bool) (w : World) :
    Calls Tryz.prog 29 #[.agg (evC m k e o)] w (Out (plainG m 13 s1 c4) w) := by
  have hB : Below w.heap.size w (w.alloc (.cells (evC m k e o) 37)) := (Below.refl _ _).alloc (Nat.le_refl _) _
  have k0 := Blk.new w 37 (evC m k e o)
  have HG := Lib.hid (plain_enter m s1 c4)
  obtain ⟨R, hR⟩ : ∃ R, plainG m 13 s1 c4 = R := ⟨_, rfl⟩
  rw [hR] at HG
  rw [hR]
  clear hR
  have a10 := ev_code hc k0
  cases hl : m.line with
  | true =>
    have HE := Lib.hid (HG.out.trans (if_pos hl))
    have a6 := ev_line hl k0
    clear HG hl
    go_enter Tryz.func29, Tryz.ntmps29
    go_wp2_with fail
    go_ret
    exact out_is HE.out (lout_at (by simp) hB)
  | false =>
    have HE := Lib.hid (HG.out.trans (if_neg (by rw [hl]; decide)))
    have a6 := ev_line hl k0
    clear HG hl
    go_enter Tryz.func29, Tryz.ntmps29
    go_upto_region 6 with (fail)
    refine wp_region_goes (S := fun W => Below (w.alloc (.cells (evC m k e o) 37)).heap.size (w.alloc (.cells (evC m k e o) 37)) W) (by kernel_rfl) (by kernel_rfl) (by kernel_rfl) ⟨#[.agg (evC m k e o), .pointer (some ⟨w.heap.size, 0, none⟩), .slice none 0 0, .int .i64 13, .pointer (some ⟨w.heap.size, 10, none⟩), .pointer (some ⟨w.heap.size, 10, none⟩), .int .i64 13, .bool false, .int .i64 13, .bool false, .bool false, undef, undef, .bool false, undef, undef, .bool false, .int .i64 13, .bool true, .bool true, .pointer (some ⟨w.heap.size, 0, none⟩), .pointer (some ⟨w.heap.size, 6, none⟩), .bool false, .bool false, undef, .bool false, .int .i64 13, .bool false, .bool false, undef, undef, undef, undef, undef, undef, .bool false, undef, undef, undef, undef], []⟩ (near_of [.int .i64 13, .bool false, .bool false, undef, undef, undef, undef, undef, undef, .bool false, .bool false] (by kernel_rfl)) (Below.refl _ _).drew (goesAll_of
      (all_cons (goes_at (.int .i64 13) rfl (by kernel_rfl) (by kernel_rfl) (goes_val (fun w _ => by kernel_rfl))) 
      (all_cons (goes_at (.bool false) rfl (by kernel_rfl) (by kernel_rfl) (goes_val (fun w _ => by go_simp))) 
      (all_cons (goes_at (.bool false) rfl (by kernel_rfl) (by kernel_rfl) (goes_val (fun w _ => by kernel_rfl))) 
      (all_cons (goes_off rfl (by kernel_rfl) (by kernel_rfl)) 
      (all_cons (goes_off rfl (by kernel_rfl) (by kernel_rfl)) 
      (all_cons (goes_off rfl (by kernel_rfl) (by kernel_rfl)) 
      (all_cons (goes_off rfl (by kernel_rfl) (by kernel_rfl)) 
      (all_cons (goes_off rfl (by kernel_rfl) (by kernel_rfl)) 
      (all_cons (goes_off rfl (by kernel_rfl) (by kernel_rfl)) 
      (all_cons (goes_at (.bool false) rfl (by kernel_rfl) (by kernel_rfl) (goes_val (fun w _ => by kernel_rfl))) 
      (all_cons (goes_at (.bool false) rfl (by kernel_rfl) (by kernel_rfl) (goes_val (fun w _ => by kernel_rfl))) all_nil)))))))))))) ?_
    intro w5 hb5
    have hB5 := hB.trans (hb5.mono hB.size)
    go_wp2_with fail
    go_ret
    exact out_is HE.out (out_one 13 (by decide) (by decide) hB5)
set_option maxRecDepth 100000 in
set_option maxHeartbeats 8000000 in
theorem lplain_esc (m : Mo) (k : Ky) (e : En) (o : Int) (hc : k.code = 27) (s1 c4 : Bool) (w : World) :
    Calls Tryz.prog 29 #[.agg (evC m k e o)] w (Out (plainG m 27 s1 c4) w) := by
  have hB : Below w.heap.size w (w.alloc (.cells (evC m k e o) 37)) := (Below.refl _ _).alloc (Nat.le_refl _) _
  have k0 := Blk.new w 37 (evC m k e o)
  rw [plain_esc]
  have a10 := ev_code hc k0
  go_enter Tryz.func29, Tryz.ntmps29
  go_upto_region 6 with (fail)
  refine wp_region_goes (S := fun W => Below (w.alloc (.cells (evC m k e o) 37)).heap.size (w.alloc (.cells (evC m k e o) 37)) W) (by kernel_rfl) (by kernel_rfl) (by kernel_rfl) ⟨#[.agg (evC m k e o), .pointer (some ⟨w.heap.size, 0, none⟩), .slice none 0 0, .int .i64 27, .pointer (some ⟨w.heap.size, 10, none⟩), .pointer (some ⟨w.heap.size, 10, none⟩), .int .i64 27, .bool false, .int .i64 27, .bool false, .bool false, undef, undef, .bool false, undef, undef, .bool false, .int .i64 27, .bool false, .bool false, undef, undef, undef, .bool false, undef, .bool false, .int .i64 27, .bool false, .bool false, undef, undef, undef, undef, undef, undef, .bool false, undef, undef, undef, undef], []⟩ (near_of [.int .i64 27, .bool false, .bool false, undef, undef, undef, undef, undef, undef, .bool false, .bool false] (by kernel_rfl)) (Below.refl _ _).drew (goesAll_of
    (all_cons (goes_at (.int .i64 27) rfl (by kernel_rfl) (by kernel_rfl) (goes_val (fun w _ => by kernel_rfl))) 
    (all_cons (goes_at (.bool false) rfl (by kernel_rfl) (by kernel_rfl) (goes_val (fun w _ => by go_simp))) 
    (all_cons (goes_at (.bool false) rfl (by kernel_rfl) (by kernel_rfl) (goes_val (fun w _ => by kernel_rfl))) 
    (all_cons (goes_off rfl (by kernel_rfl) (by kernel_rfl)) 
    (all_cons (goes_off rfl (by kernel_rfl) (by kernel_rfl)) 
    (all_cons (goes_off rfl (by kernel_rfl) (by kernel_rfl)) 
    (all_cons (goes_off rfl (by kernel_rfl) (by kernel_rfl)) 
    (all_cons (goes_off rfl (by kernel_rfl) (by kernel_rfl)) 
    (all_cons (goes_off rfl (by kernel_rfl) (by kernel_rfl)) 
    (all_cons (goes_at (.bool false) rfl (by kernel_rfl) (by kernel_rfl) (goes_val (fun w _ => by kernel_rfl))) 
    (all_cons (goes_at (.bool false) rfl (by kernel_rfl) (by kernel_rfl) (goes_val (fun w _ => by kernel_rfl))) all_nil)))))))))))) ?_
  intro w5 hb5
  have hB5 := hB.trans (hb5.mono hB.size)
  go_wp2_with fail
  go_ret
  exact out_one 27 (by decide) (by decide) hB5
set_option maxRecDepth 100000 in
set_option maxHeartbeats 8000000 in
theorem lplain_erase (m : Mo) (k : Ky) (e : En) (o : Int) (hc : k.code = 127) (s1 q : Bool) (hq : (bits .and .i64 o 4 != 0) = q) (w : World) :
    Calls Tryz.prog 29 #[.agg (evC m k e o)] w (Out (plainG m 127 s1 q) w) := by
  have hB : Below w.heap.size w (w.alloc (.cells (evC m k e o) 37)) := (Below.refl _ _).alloc (Nat.le_refl _) _
  have k0 := Blk.new w 37 (evC m k e o)
  have HH : Hid (∀ W, Calls Tryz.prog 13 #[.agg (evC m k e o), .int .i64 4] W fun x w' => x = .returned (.bool q) ∧ Below W.heap.size W w') := Lib.hid fun W => phas_any m k e o 4 q hq W
  have HG := Lib.hid (plain_erase m s1 q)
  obtain ⟨R, hR⟩ : ∃ R, plainG m 127 s1 q = R := ⟨_, rfl⟩
  rw [hR] at HG
  rw [hR]
  clear hR hq
  have a10 := ev_code hc k0
  have st : ∀ W W', Below (w.alloc (.cells (evC m k e o) 37)).heap.size (w.alloc (.cells (evC m k e o) 37)) W → Below W.heap.size W W' → Below (w.alloc (.cells (evC m k e o) 37)).heap.size (w.alloc (.cells (evC m k e o) 37)) W' := fun W W' h h' => h.trans (h'.mono h.size)
  rcases Bool.eq_false_or_eq_true m.back with hbk | hbk <;> rcases Bool.eq_false_or_eq_true q with rfl | rfl
  · have HE := Lib.hid (HG.out.trans (if_neg (by rw [hbk]; decide)))
    clear HG
    go_enter Tryz.func29, Tryz.ntmps29
    go_upto_region 6 with (fail)
    refine wp_region_goes (S := fun W => Below (w.alloc (.cells (evC m k e o) 37)).heap.size (w.alloc (.cells (evC m k e o) 37)) W) (by kernel_rfl) (by kernel_rfl) (by kernel_rfl) ⟨#[.agg (evC m k e o), .pointer (some ⟨w.heap.size, 0, none⟩), .slice none 0 0, .int .i64 127, .pointer (some ⟨w.heap.size, 10, none⟩), .pointer (some ⟨w.heap.size, 10, none⟩), .int .i64 127, .bool false, .int .i64 127, .bool false, .bool false, undef, undef, .bool false, undef, undef, .bool false, .int .i64 127, .bool false, .bool false, undef, undef, undef, .bool false, undef, .bool false, .int .i64 127, .bool true, .bool true, .pointer (some ⟨w.heap.size, 0, none⟩), .pointer (some ⟨w.heap.size, 2, none⟩), .bool true, .agg (evC m k e o), .bool true, .bool false, .bool false, undef, undef, undef, undef], []⟩ (near_of [.int .i64 127, .bool true, .bool true, .pointer (some ⟨w.heap.size, 0, none⟩), .pointer (some ⟨w.heap.size, 2, none⟩), .bool true, .agg (evC m k e o), .bool true, .bool false, .bool false, .bool false] (by kernel_rfl)) (Below.refl _ _).drew (goesAll_of
      (all_cons (goes_at (.int .i64 127) rfl (by kernel_rfl) (by kernel_rfl) (goes_val (fun w _ => by kernel_rfl))) 
      (all_cons (goes_at (.bool true) rfl (by kernel_rfl) (by kernel_rfl) (goes_val (fun w _ => by go_simp))) 
      (all_cons (goes_at (.bool true) rfl (by kernel_rfl) (by kernel_rfl) (goes_val (fun w _ => by kernel_rfl))) 
      (all_cons (goes_at (.pointer (some ⟨w.heap.size, 0, none⟩)) rfl (by kernel_rfl) (by kernel_rfl) (goes_val (fun w _ => by kernel_rfl))) 
      (all_cons (goes_at (.pointer (some ⟨w.heap.size, 2, none⟩)) rfl (by kernel_rfl) (by kernel_rfl) (goes_val (fun w _ => by kernel_rfl))) 
      (all_cons (goes_at (.bool true) rfl (by kernel_rfl) (by kernel_rfl) (goes_cell rfl (by kernel_rfl) (fun W hW => ev_back hbk (k0.below hW k0.lt)) (fun w => by kernel_rfl))) 
      (all_cons (goes_at (.agg (evC m k e o)) rfl (by kernel_rfl) (by kernel_rfl) (goes_load rfl (by kernel_rfl) (fun W hW => k0.below hW k0.lt) Tryz.underlying37 rfl (by kernel_rfl))) 
      (all_cons (goes_at (.bool true) rfl (by kernel_rfl) (by kernel_rfl) (goes_call (fun w => by kernel_rfl) (fun W hW => HH.out W) st)) 
      (all_cons (goes_at (.bool false) rfl (by kernel_rfl) (by kernel_rfl) (goes_val (fun w _ => by kernel_rfl))) 
      (all_cons (goes_at (.bool false) rfl (by kernel_rfl) (by kernel_rfl) (goes_val (fun w _ => by kernel_rfl))) 
      (all_cons (goes_at (.bool false) rfl (by kernel_rfl) (by kernel_rfl) (goes_val (fun w _ => by kernel_rfl))) all_nil)))))))))))) ?_
    intro w3 hb3
    have hB3 := hB.trans (hb3.mono hB.size)
    go_wp2_with fail
    go_ret
    exact out_is HE.out (out_one 127 (by decide) (by decide) hB3)
  · have HE := Lib.hid (HG.out.trans (if_pos (by rw [hbk]; rfl)))
    clear HG
    go_enter Tryz.func29, Tryz.ntmps29
    go_upto_region 6 with (fail)
    refine wp_region_goes (S := fun W => Below (w.alloc (.cells (evC m k e o) 37)).heap.size (w.alloc (.cells (evC m k e o) 37)) W) (by kernel_rfl) (by kernel_rfl) (by kernel_rfl) ⟨#[.agg (evC m k e o), .pointer (some ⟨w.heap.size, 0, none⟩), .slice none 0 0, .int .i64 127, .pointer (some ⟨w.heap.size, 10, none⟩), .pointer (some ⟨w.heap.size, 10, none⟩), .int .i64 127, .bool false, .int .i64 127, .bool false, .bool false, undef, undef, .bool false, undef, undef, .bool false, .int .i64 127, .bool false, .bool false, undef, undef, undef, .bool false, undef, .bool true, .int .i64 127, .bool true, .bool true, .pointer (some ⟨w.heap.size, 0, none⟩), .pointer (some ⟨w.heap.size, 2, none⟩), .bool true, .agg (evC m k e o), .bool false, .bool true, .bool true, undef, undef, undef, undef], []⟩ (near_of [.int .i64 127, .bool true, .bool true, .pointer (some ⟨w.heap.size, 0, none⟩), .pointer (some ⟨w.heap.size, 2, none⟩), .bool true, .agg (evC m k e o), .bool false, .bool true, .bool true, .bool true] (by kernel_rfl)) (Below.refl _ _).drew (goesAll_of
      (all_cons (goes_at (.int .i64 127) rfl (by kernel_rfl) (by kernel_rfl) (goes_val (fun w _ => by kernel_rfl))) 
      (all_cons (goes_at (.bool true) rfl (by kernel_rfl) (by kernel_rfl) (goes_val (fun w _ => by go_simp))) 
      (all_cons (goes_at (.bool true) rfl (by kernel_rfl) (by kernel_rfl) (goes_val (fun w _ => by kernel_rfl))) 
      (all_cons (goes_at (.pointer (some ⟨w.heap.size, 0, none⟩)) rfl (by kernel_rfl) (by kernel_rfl) (goes_val (fun w _ => by kernel_rfl))) 
      (all_cons (goes_at (.pointer (some ⟨w.heap.size, 2, none⟩)) rfl (by kernel_rfl) (by kernel_rfl) (goes_val (fun w _ => by kernel_rfl))) 
      (all_cons (goes_at (.bool true) rfl (by kernel_rfl) (by kernel_rfl) (goes_cell rfl (by kernel_rfl) (fun W hW => ev_back hbk (k0.below hW k0.lt)) (fun w => by kernel_rfl))) 
      (all_cons (goes_at (.agg (evC m k e o)) rfl (by kernel_rfl) (by kernel_rfl) (goes_load rfl (by kernel_rfl) (fun W hW => k0.below hW k0.lt) Tryz.underlying37 rfl (by kernel_rfl))) 
      (all_cons (goes_at (.bool false) rfl (by kernel_rfl) (by kernel_rfl) (goes_call (fun w => by kernel_rfl) (fun W hW => HH.out W) st)) 
      (all_cons (goes_at (.bool true) rfl (by kernel_rfl) (by kernel_rfl) (goes_val (fun w _ => by kernel_rfl))) 
      (all_cons (goes_at (.bool true) rfl (by kernel_rfl) (by kernel_rfl) (goes_val (fun w _ => by kernel_rfl))) 
      (all_cons (goes_at (.bool true) rfl (by kernel_rfl) (by kernel_rfl) (goes_val (fun w _ => by kernel_rfl))) all_nil)))))))))))) ?_
    intro w3 hb3
    have hB3 := hB.trans (hb3.mono hB.size)
    go_wp2_with fail
    go_ret
    exact out_is HE.out (out_one 8 (by decide) (by decide) hB3)
  · have HE := Lib.hid (HG.out.trans (if_pos (by rw [hbk]; rfl)))
    clear HG
    go_enter Tryz.func29, Tryz.ntmps29
    go_upto_region 6 with (fail)
    refine wp_region_goes (S := fun W => Below (w.alloc (.cells (evC m k e o) 37)).heap.size (w.alloc (.cells (evC m k e o) 37)) W) (by kernel_rfl) (by kernel_rfl) (by kernel_rfl) ⟨#[.agg (evC m k e o), .pointer (some ⟨w.heap.size, 0, none⟩), .slice none 0 0, .int .i64 127, .pointer (some ⟨w.heap.size, 10, none⟩), .pointer (some ⟨w.heap.size, 10, none⟩), .int .i64 127, .bool false, .int .i64 127, .bool false, .bool false, undef, undef, .bool false, undef, undef, .bool false, .int .i64 127, .bool false, .bool false, undef, undef, undef, .bool false, undef, .bool true, .int .i64 127, .bool true, .bool true, .pointer (some ⟨w.heap.size, 0, none⟩), .pointer (some ⟨w.heap.size, 2, none⟩), .bool false, .agg (evC m k e o), .bool true, .bool true, .bool true, undef, undef, undef, undef], []⟩ (near_of [.int .i64 127, .bool true, .bool true, .pointer (some ⟨w.heap.size, 0, none⟩), .pointer (some ⟨w.heap.size, 2, none⟩), .bool false, .agg (evC m k e o), .bool true, .bool true, .bool true, .bool true] (by kernel_rfl)) (Below.refl _ _).drew (goesAll_of
      (all_cons (goes_at (.int .i64 127) rfl (by kernel_rfl) (by kernel_rfl) (goes_val (fun w _ => by kernel_rfl))) 
      (all_cons (goes_at (.bool true) rfl (by kernel_rfl) (by kernel_rfl) (goes_val (fun w _ => by go_simp))) 
      (all_cons (goes_at (.bool true) rfl (by kernel_rfl) (by kernel_rfl) (goes_val (fun w _ => by kernel_rfl))) 
      (all_cons (goes_at (.pointer (some ⟨w.heap.size, 0, none⟩)) rfl (by kernel_rfl) (by kernel_rfl) (goes_val (fun w _ => by kernel_rfl))) 
      (all_cons (goes_at (.pointer (some ⟨w.heap.size, 2, none⟩)) rfl (by kernel_rfl) (by kernel_rfl) (goes_val (fun w _ => by kernel_rfl))) 
      (all_cons (goes_at (.bool false) rfl (by kernel_rfl) (by kernel_rfl) (goes_cell rfl (by kernel_rfl) (fun W hW => ev_back hbk (k0.below hW k0.lt)) (fun w => by kernel_rfl))) 
      (all_cons (goes_at (.agg (evC m k e o)) rfl (by kernel_rfl) (by kernel_rfl) (goes_load rfl (by kernel_rfl) (fun W hW => k0.below hW k0.lt) Tryz.underlying37 rfl (by kernel_rfl))) 
      (all_cons (goes_at (.bool true) rfl (by kernel_rfl) (by kernel_rfl) (goes_call (fun w => by kernel_rfl) (fun W hW => HH.out W) st)) 
      (all_cons (goes_at (.bool true) rfl (by kernel_rfl) (by kernel_rfl) (goes_val (fun w _ => by kernel_rfl))) 
      (all_cons (goes_at (.bool true) rfl (by kernel_rfl) (by kernel_rfl) (goes_val (fun w _ => by kernel_rfl))) 
      (all_cons (goes_at (.bool true) rfl (by kernel_rfl) (by kernel_rfl) (goes_val (fun w _ => by kernel_rfl))) all_nil)))))))))))) ?_
    intro w3 hb3
    have hB3 := hB.trans (hb3.mono hB.size)
    go_wp2_with fail
    go_ret
    exact out_is HE.out (out_one 8 (by decide) (by decide) hB3)
  · have HE := Lib.hid (HG.out.trans (if_neg (by rw [hbk]; decide)))
    clear HG
    go_enter Tryz.func29, Tryz.ntmps29
    go_upto_region 6 with (fail)
    refine wp_region_goes (S := fun W => Below (w.alloc (.cells (evC m k e o) 37)).heap.size (w.alloc (.cells (evC m k e o) 37)) W) (by kernel_rfl) (by kernel_rfl) (by kernel_rfl) ⟨#[.agg (evC m k e o), .pointer (some ⟨w.heap.size, 0, none⟩), .slice none 0 0, .int .i64 127, .pointer (some ⟨w.heap.size, 10, none⟩), .pointer (some ⟨w.heap.size, 10, none⟩), .int .i64 127, .bool false, .int .i64 127, .bool false, .bool false, undef, undef, .bool false, undef, undef, .bool false, .int .i64 127, .bool false, .bool false, undef, undef, undef, .bool false, undef, .bool false, .int .i64 127, .bool true, .bool true, .pointer (some ⟨w.heap.size, 0, none⟩), .pointer (some ⟨w.heap.size, 2, none⟩), .bool false, .agg (evC m k e o), .bool false, .bool false, .bool false, undef, undef, undef, undef], []⟩ (near_of [.int .i64 127, .bool true, .bool true, .pointer (some ⟨w.heap.size, 0, none⟩), .pointer (some ⟨w.heap.size, 2, none⟩), .bool false, .agg (evC m k e o), .bool false, .bool false, .bool false, .bool false] (by kernel_rfl)) (Below.refl _ _).drew (goesAll_of
      (all_cons (goes_at (.int .i64 127) rfl (by kernel_rfl) (by kernel_rfl) (goes_val (fun w _ => by kernel_rfl))) 
      (all_cons (goes_at (.bool true) rfl (by kernel_rfl) (by kernel_rfl) (goes_val (fun w _ => by go_simp))) 
      (all_cons (goes_at (.bool true) rfl (by kernel_rfl) (by kernel_rfl) (goes_val (fun w _ => by kernel_rfl))) 
      (all_cons (goes_at (.pointer (some ⟨w.heap.size, 0, none⟩)) rfl (by kernel_rfl) (by kernel_rfl) (goes_val (fun w _ => by kernel_rfl))) 
      (all_cons (goes_at (.pointer (some ⟨w.heap.size, 2, none⟩)) rfl (by kernel_rfl) (by kernel_rfl) (goes_val (fun w _ => by kernel_rfl))) 
      (all_cons (goes_at (.bool false) rfl (by kernel_rfl) (by kernel_rfl) (goes_cell rfl (by kernel_rfl) (fun W hW => ev_back hbk (k0.below hW k0.lt)) (fun w => by kernel_rfl))) 
      (all_cons (goes_at (.agg (evC m k e o)) rfl (by kernel_rfl) (by kernel_rfl) (goes_load rfl (by kernel_rfl) (fun W hW => k0.below hW k0.lt) Tryz.underlying37 rfl (by kernel_rfl))) 
      (all_cons (goes_at (.bool false) rfl (by kernel_rfl) (by kernel_rfl) (goes_call (fun w => by kernel_rfl) (fun W hW => HH.out W) st)) 
      (all_cons (goes_at (.bool false) rfl (by kernel_rfl) (by kernel_rfl) (goes_val (fun w _ => by kernel_rfl))) 
      (all_cons (goes_at (.bool false) rfl (by kernel_rfl) (by kernel_rfl) (goes_val (fun w _ => by kernel_rfl))) 
      (all_cons (goes_at (.bool false) rfl (by kernel_rfl) (by kernel_rfl) (goes_val (fun w _ => by kernel_rfl))) all_nil)))))))))))) ?_
    intro w3 hb3
    have hB3 := hB.trans (hb3.mono hB.size)
    go_wp2_with fail
    go_ret
    exact out_is HE.out (out_one 127 (by decide) (by decide) hB3)
/-- A plain key, whatever it is. -/
theorem lplain_any (m : Mo) (k : Ky) (e : En) (o : Int) (hc : k.code = 9 ∨ k.code = 13 ∨ k.code = 27 ∨ k.code = 127) (s1 c4 : Bool) (h1 : (bits .and .i64 o 1 != 0) = s1) (h4 : (bits .and .i64 o 4 != 0) = c4) (w : World) (ht : Tab w) :
    Calls Tryz.prog 29 #[.agg (evC m k e o)] w (Out (plainG m k.code s1 c4) w) := by
  rcases hc with hc | hc | hc | hc
  · rw [hc]; exact lplain_tab m k e o hc s1 c4 h1 w ht
  · rw [hc]; exact lplain_enter m k e o hc s1 c4 w
  · rw [hc]; exact lplain_esc m k e o hc s1 c4 w
  · rw [hc]; exact lplain_erase m k e o hc s1 c4 h4 w
end Go.Proofs.YtbjmfhcgkpjcfaaGreatDoor
