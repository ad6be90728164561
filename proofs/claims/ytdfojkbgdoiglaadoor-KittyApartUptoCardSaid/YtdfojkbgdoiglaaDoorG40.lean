/-
  Layer 13, the laws' walks over the bundle: KittyApart.
-/
import Derived.Test.YtdfojkbgdoiglaaDoorG10
import Derived.Test.YtdfojkbgdoiglaaDoorG15
import Derived.Test.YtdfojkbgdoiglaaDoorG21
import Derived.Test.YtdfojkbgdoiglaaDoorG27
import Derived.Test.YtdfojkbgdoiglaaDoorG34
import Derived.Test.YtdfojkbgdoiglaaDoorG37
import Derived.Test.YtdfojkbgdoiglaaDoorG38
namespace Go.Proofs.YtdfojkbgdoiglaaDoor
open Go.RowKit
variable {Inv : World → Prop}
theorem bool_two (b : Bool) : b = false ∨ b = true := by cases b <;> simp
def sq0 (ps : List (List Int)) : Sq := ⟨0, 0, ps, [], 0, []⟩
def FAlt (x y : Int) (v : Value) (w : World) : Prop := ∃ A c, v = .slice A 1 c ∧ RdP w A [[x, y]]
def FSq (x y : Int) (v : Value) (w : World) : Prop := ∃ A c, v = .agg #[.int .i64 0, .int .u8 0, .slice A 1 c, .string ⟨#[]⟩, .int .u8 0, .string ⟨#[]⟩] ∧ RdP w A [[x, y]]
theorem falt_ok (i : Nat) (d : Tmp) (x y : Int) : (⟨i, d, FAlt x y⟩ : Fact).ok := fun _ _ _ ⟨A, c, e, h⟩ hb => ⟨A, c, e, h.below hb⟩
theorem fsq_ok (i : Nat) (d : Tmp) (x y : Int) : (⟨i, d, FSq x y⟩ : Fact).ok := fun _ _ _ ⟨A, c, e, h⟩ hb => ⟨A, c, e, h.below hb⟩
theorem falt_out {x y : Int} {P : Program} {w : World} {f : FuncId} {args : Array Value} (h : Calls P f args w (AltE x y w)) : Calls P f args w fun e w' => ∃ v, e = .returned v ∧ FAlt x y v w' ∧ Below w.heap.size w w' :=
 h.mono fun _ _ ⟨A, c, he, hr, hb⟩ => ⟨_, he, ⟨A, c, rfl, hr⟩, hb⟩
theorem build_q (A : Option Addr) (c : Nat) (w : World) : (Instr.build 32 #[(2, .slice A 1 c)]).run Tryd.prog w = .ok (.agg #[.int .i64 0, .int .u8 0, .slice A 1 c, .string ⟨#[]⟩, .int .u8 0, .string ⟨#[]⟩]) w := by kernel_rfl
theorem build_at13 {ev : Operand → Value} {o : Oper} {x : Operand} {A : Option Addr} {c : Nat} (ho : o.op = .build 32 #[(2, x)]) (hx : ev x = .slice A 1 c) (w : World) : (execOp ev o).run Tryd.prog w = .ok (.value (.agg #[.int .i64 0, .int .u8 0, .slice A 1 c, .string ⟨#[]⟩, .int .u8 0, .string ⟨#[]⟩])) w := by
 unfold execOp
 simp only [ho, List.map_toArray, List.map_cons, List.map_nil, hx, Sem.run_bind, build_q, Result.andThen_ok, Sem.run_pure]
theorem same_q {x y x' y' : Int} {q : Bool} (hq : decide (x = x' ∧ y = y') = q) {v v' : Value} (w : World) (h : FSq x y v w) (h' : FSq x' y' v' w) : Calls Tryd.prog 9 #[v, v'] w fun e w' => e = .returned (.bool q) ∧ Below w.heap.size w w' := by
 obtain ⟨A, c, rfl, hr⟩ := h
 obtain ⟨A', c', rfl, hr'⟩ := h'
 have hs : sameB (sq0 [[x, y]]) (sq0 [[x', y']]) = q := by
  rw [← hq]
  unfold sameB sq0
  simp
 exact rsame_any (sq0 [[x, y]]) (sq0 [[x', y']]) A A' c c' q w hs (by show (1 : Nat) ≤ _; decide) (by show (1 : Nat) ≤ _; decide) (fun p hp => by rw [List.mem_singleton.1 hp]; show (2 : Nat) ≤ _; decide) (fun p hp => by rw [List.mem_singleton.1 hp]; show (2 : Nat) ≤ _; decide) hr hr'
set_option maxRecDepth 100000 in
set_option maxHeartbeats 32000000 in
theorem kittyApart_no (H : KitC Inv) (flags : Int) (_l0 : 0 ≤ flags) (_l1 : flags ≤ 255) (k : Ky) (_hk : okK k) (hs : k.text.size ≤ 4294967296) (j : Ky) (_gk : okK j) (_gs : j.text.size ≤ 4294967296) (h : mayK k = false) (w : World) (hv : Inv w) : Calls Tryd.prog 3 #[.int .u8 flags, kyV k, kyV j] w fun e w' => e = .returned (.bool true) ∧ Below w.heap.size w w' := by
 have HM : Hid (∀ W, Calls Tryd.prog 7 #[kyV k] W fun e w' => e = .returned (.bool false) ∧ Below W.heap.size W w') := Lib.hid fun W => by rw [← h]; exact rmay10_any k hs W
 clear h hs _gs
 simp only [kyV] at HM ⊢
 obtain ⟨code, mods, typ, shift, base, text⟩ := k
 obtain ⟨code', mods', typ', shift', base', text'⟩ := j
 have hB := ((Below.refl w.heap.size w).alloc (Nat.le_refl _) (.cells #[.int .i64 code, .int .i64 mods, .int .i64 typ, .int .i64 shift, .int .i64 base, .string text] 23)).alloc (by simp) (.cells #[.int .i64 code', .int .i64 mods', .int .i64 typ', .int .i64 shift', .int .i64 base', .string text'] 23)
 have k0 := (Blk.new w 23 #[.int .i64 code, .int .i64 mods, .int .i64 typ, .int .i64 shift, .int .i64 base, .string text]).alloc (.cells #[.int .i64 code', .int .i64 mods', .int .i64 typ', .int .i64 shift', .int .i64 base', .string text'] 23)
 have j0 := Blk.new (w.alloc (.cells #[.int .i64 code, .int .i64 mods, .int .i64 typ, .int .i64 shift, .int .i64 base, .string text] 23)) 23 #[.int .i64 code', .int .i64 mods', .int .i64 typ', .int .i64 shift', .int .i64 base', .string text']
 rw [World.size_alloc] at j0
 have hv0 := H.invB hv hB
 simp only at HM
 obtain ⟨a0, a1, a2, a3, a4, a5⟩ := Blk.cells6 k0
 obtain ⟨b0, b1, b2, b3, b4, b5⟩ := Blk.cells6 j0
 go_enter Tryd.func3, Tryd.ntmps3
 go_wp2_with fail
 refine (kitAwake H _ hv0).mono ?_
 rintro e w1 ⟨rfl, hb⟩
 have hB1 := hB.trans (hb.mono hB.size)
 replace k0 := k0.below hb k0.lt
 replace j0 := j0.below hb j0.lt
 clear a0 a1 a2 a3 a4 a5 b0 b1 b2 b3 b4 b5
 clear hb hB
 obtain ⟨a0, a1, a2, a3, a4, a5⟩ := Blk.cells6 k0
 obtain ⟨b0, b1, b2, b3, b4, b5⟩ := Blk.cells6 j0
 go_wp2_with fail
 refine (HM.out _).mono ?_
 rintro e w2 ⟨rfl, hb⟩
 have hB2 := hB1.trans (hb.mono hB1.size)
 replace k0 := k0.below hb k0.lt
 replace j0 := j0.below hb j0.lt
 clear a0 a1 a2 a3 a4 a5 b0 b1 b2 b3 b4 b5
 clear hb hB1
 obtain ⟨a0, a1, a2, a3, a4, a5⟩ := Blk.cells6 k0
 obtain ⟨b0, b1, b2, b3, b4, b5⟩ := Blk.cells6 j0
 go_wp2_with fail
 go_ret
 exact ⟨rfl, hB2⟩
set_option maxRecDepth 100000 in
set_option maxHeartbeats 32000000 in
theorem kittyApart_no2 (H : KitC Inv) (flags : Int) (_l0 : 0 ≤ flags) (_l1 : flags ≤ 255) (k : Ky) (_hk : okK k) (hs : k.text.size ≤ 4294967296) (j : Ky) (_gk : okK j) (gs : j.text.size ≤ 4294967296) (h : mayK k = true) (g : mayK j = false) (w : World) (hv : Inv w) : Calls Tryd.prog 3 #[.int .u8 flags, kyV k, kyV j] w fun e w' => e = .returned (.bool true) ∧ Below w.heap.size w w' := by
 have HM : Hid (∀ W, Calls Tryd.prog 7 #[kyV k] W fun e w' => e = .returned (.bool true) ∧ Below W.heap.size W w') := Lib.hid fun W => by rw [← h]; exact rmay10_any k hs W
 have HJ : Hid (∀ W, Calls Tryd.prog 7 #[kyV j] W fun e w' => e = .returned (.bool false) ∧ Below W.heap.size W w') := Lib.hid fun W => by rw [← g]; exact rmay10_any j gs W
 clear h g hs gs
 simp only [kyV] at HM HJ ⊢
 obtain ⟨code, mods, typ, shift, base, text⟩ := k
 obtain ⟨code', mods', typ', shift', base', text'⟩ := j
 have hB := ((Below.refl w.heap.size w).alloc (Nat.le_refl _) (.cells #[.int .i64 code, .int .i64 mods, .int .i64 typ, .int .i64 shift, .int .i64 base, .string text] 23)).alloc (by simp) (.cells #[.int .i64 code', .int .i64 mods', .int .i64 typ', .int .i64 shift', .int .i64 base', .string text'] 23)
 have k0 := (Blk.new w 23 #[.int .i64 code, .int .i64 mods, .int .i64 typ, .int .i64 shift, .int .i64 base, .string text]).alloc (.cells #[.int .i64 code', .int .i64 mods', .int .i64 typ', .int .i64 shift', .int .i64 base', .string text'] 23)
 have j0 := Blk.new (w.alloc (.cells #[.int .i64 code, .int .i64 mods, .int .i64 typ, .int .i64 shift, .int .i64 base, .string text] 23)) 23 #[.int .i64 code', .int .i64 mods', .int .i64 typ', .int .i64 shift', .int .i64 base', .string text']
 rw [World.size_alloc] at j0
 have hv0 := H.invB hv hB
 simp only at HM HJ
 obtain ⟨a0, a1, a2, a3, a4, a5⟩ := Blk.cells6 k0
 obtain ⟨b0, b1, b2, b3, b4, b5⟩ := Blk.cells6 j0
 go_enter Tryd.func3, Tryd.ntmps3
 go_wp2_with fail
 refine (kitAwake H _ hv0).mono ?_
 rintro e w1 ⟨rfl, hb⟩
 have hB1 := hB.trans (hb.mono hB.size)
 replace k0 := k0.below hb k0.lt
 replace j0 := j0.below hb j0.lt
 clear a0 a1 a2 a3 a4 a5 b0 b1 b2 b3 b4 b5
 clear hb hB
 obtain ⟨a0, a1, a2, a3, a4, a5⟩ := Blk.cells6 k0
 obtain ⟨b0, b1, b2, b3, b4, b5⟩ := Blk.cells6 j0
 go_wp2_with fail
 refine (HM.out _).mono ?_
 rintro e w2 ⟨rfl, hb⟩
 have hB2 := hB1.trans (hb.mono hB1.size)
 replace k0 := k0.below hb k0.lt
 replace j0 := j0.below hb j0.lt
 clear a0 a1 a2 a3 a4 a5 b0 b1 b2 b3 b4 b5
 clear hb hB1
 obtain ⟨a0, a1, a2, a3, a4, a5⟩ := Blk.cells6 k0
 obtain ⟨b0, b1, b2, b3, b4, b5⟩ := Blk.cells6 j0
 go_wp2_with fail
 refine (HJ.out _).mono ?_
 rintro e w3 ⟨rfl, hb⟩
 have hB3 := hB2.trans (hb.mono hB2.size)
 replace k0 := k0.below hb k0.lt
 replace j0 := j0.below hb j0.lt
 clear a0 a1 a2 a3 a4 a5 b0 b1 b2 b3 b4 b5
 clear hb hB2
 obtain ⟨a0, a1, a2, a3, a4, a5⟩ := Blk.cells6 k0
 obtain ⟨b0, b1, b2, b3, b4, b5⟩ := Blk.cells6 j0
 go_wp2_with fail
 go_ret
 exact ⟨rfl, hB3⟩
set_option maxRecDepth 100000 in
set_option maxHeartbeats 32000000 in
theorem kittyApart_yes (H : KitC Inv) (flags : Int) (l0 : 0 ≤ flags) (_l1 : flags ≤ 255) (k : Ky) (hk : okK k) (hs : k.text.size ≤ 4294967296) (j : Ky) (gk : okK j) (gs : j.text.size ≤ 4294967296) (h : mayK k = true) (g : mayK j = true) (w : World) (hv : Inv w) : Calls Tryd.prog 3 #[.int .u8 flags, kyV k, kyV j] w fun e w' => e = .returned (.bool true) ∧ Below w.heap.size w w' := by
 have HM : Hid (∀ W, Calls Tryd.prog 7 #[kyV k] W fun e w' => e = .returned (.bool true) ∧ Below W.heap.size W w') := Lib.hid fun W => by rw [← h]; exact rmay10_any k hs W
 have HJ : Hid (∀ W, Calls Tryd.prog 7 #[kyV j] W fun e w' => e = .returned (.bool true) ∧ Below W.heap.size W w') := Lib.hid fun W => by rw [← g]; exact rmay10_any j gs W
 obtain ⟨F, hF⟩ : ∃ F, bits .or .i64 (flags % 32) 11 = F := ⟨_, rfl⟩
 obtain ⟨⟨F0, F1⟩, F2, F8⟩ := flags11 (a := flags % 32) (by omega) (by omega)
 rw [hF] at F0 F1 F2 F8
 have hap := kit_apart (f := F) h g F2 F8
 have hfl : flg F = F := flg_id ⟨F0, F1⟩
 have tm : Int.tmod flags 32 = flags % 32 := Int.tmod_eq_emod_of_nonneg l0
 have w1_ : IntKind.u8.wrap (flags % 32) = flags % 32 := by rw [IntKind.wrap_u8]; omega
 have w2_ : IntKind.i64.wrap (flags % 32) = flags % 32 := by rw [IntKind.wrap_i64]; omega
 have d4 : Int.tdiv F 4 = F / 4 := Int.tdiv_eq_ediv_of_nonneg F0
 have d4w : wrap64 (F / 4) = F / 4 := by unfold wrap64; omega
 have e4 : Int.tmod (F / 4) 2 = F / 4 % 2 := Int.tmod_eq_emod_of_nonneg (by omega)
 have d16 : Int.tdiv F 16 = F / 16 := Int.tdiv_eq_ediv_of_nonneg F0
 have d16w : wrap64 (F / 16) = F / 16 := by unfold wrap64; omega
 have e16 : Int.tmod (F / 16) 2 = F / 16 % 2 := Int.tmod_eq_emod_of_nonneg (by omega)
 obtain ⟨o4, ho4⟩ : ∃ o, (F / 4 % 2 == 1) = o := ⟨_, rfl⟩
 obtain ⟨o16, ho16⟩ : ∃ o, (F / 16 % 2 == 1) = o := ⟨_, rfl⟩
 have f4 : flagK F 4 = o4 := by unfold flagK; rw [hfl]; exact ho4
 have f16 : flagK F 16 = o16 := by unfold flagK; rw [hfl]; exact ho16
 rw [f4, f16] at hap
 obtain ⟨⟨ax, ay⟩, hA⟩ : ∃ x, alts13 k = x := ⟨_, rfl⟩
 obtain ⟨⟨bx, by_⟩, hA2⟩ : ∃ x, alts13 j = x := ⟨_, rfl⟩
 rw [hA, hA2] at hap
 have HA1 : Hid (∀ W, Calls Tryd.prog 10 #[kyV k] W (AltE ax ay W)) := Lib.hid fun W => by have := ralt_any k hk W; rw [hA] at this; exact this
 have HA2 : Hid (∀ W, Calls Tryd.prog 10 #[kyV j] W (AltE bx by_ W)) := Lib.hid fun W => by have := ralt_any j gk W; rw [hA2] at this; exact this
 obtain ⟨al, hal⟩ : ∃ q, decide (ax = bx ∧ ay = by_) = q := ⟨_, rfl⟩
 obtain ⟨L, hL⟩ : ∃ L, kitL F k = L := ⟨_, rfl⟩
 obtain ⟨M, hM⟩ : ∃ L, kitL F j = L := ⟨_, rfl⟩
 obtain ⟨n, hn⟩ : ∃ n, L.length = n := ⟨_, rfl⟩
 obtain ⟨m, hm⟩ : ∃ n, M.length = n := ⟨_, rfl⟩
 have HK1 : Hid (∀ W, Inv W → Calls Tryd.prog 8 #[.int .i64 F, kyV k] W (OutN L n W)) := Lib.hid fun W hW => H.key_at F k hL hn ⟨by omega, by omega⟩ hk hs W hW
 have HK2 : Hid (∀ W, Inv W → Calls Tryd.prog 8 #[.int .i64 F, kyV j] W (OutN M m W)) := Lib.hid fun W hW => H.key_at F j hM hm ⟨by omega, by omega⟩ gk gs W hW
 rw [hL, hM] at hap
 have HN := Lib.hid hn
 have HN2 := Lib.hid hm
 have HQ : Hid (∀ (v v' : Value) (W : World), FSq ax ay v W → FSq bx by_ v' W → Calls Tryd.prog 9 #[v, v'] W fun e w' => e = .returned (.bool al) ∧ Below W.heap.size W w') := Lib.hid fun v v' W h1 h2 => same_q hal W h1 h2
 have HP := Lib.hid hap
 have HAL := Lib.hid hal
 clear h g hs gs hk gk F2 F8 hfl f4 f16 hA hA2 hal hL hM hn hm hap F0 F1 l0
 simp only [kyV] at HM HJ HA1 HA2 HK1 HK2 ⊢
 obtain ⟨code, mods, typ, shift, base, text⟩ := k
 obtain ⟨code', mods', typ', shift', base', text'⟩ := j
 have hB := ((Below.refl w.heap.size w).alloc (Nat.le_refl _) (.cells #[.int .i64 code, .int .i64 mods, .int .i64 typ, .int .i64 shift, .int .i64 base, .string text] 23)).alloc (by simp) (.cells #[.int .i64 code', .int .i64 mods', .int .i64 typ', .int .i64 shift', .int .i64 base', .string text'] 23)
 have k0 := (Blk.new w 23 #[.int .i64 code, .int .i64 mods, .int .i64 typ, .int .i64 shift, .int .i64 base, .string text]).alloc (.cells #[.int .i64 code', .int .i64 mods', .int .i64 typ', .int .i64 shift', .int .i64 base', .string text'] 23)
 have j0 := Blk.new (w.alloc (.cells #[.int .i64 code, .int .i64 mods, .int .i64 typ, .int .i64 shift, .int .i64 base, .string text] 23)) 23 #[.int .i64 code', .int .i64 mods', .int .i64 typ', .int .i64 shift', .int .i64 base', .string text']
 rw [World.size_alloc] at j0
 have hv0 := H.invB hv hB
 simp only at HM HJ HA1 HA2 HK1 HK2 HP
 obtain ⟨a0, a1, a2, a3, a4, a5⟩ := Blk.cells6 k0
 obtain ⟨b0, b1, b2, b3, b4, b5⟩ := Blk.cells6 j0
 go_enter Tryd.func3, Tryd.ntmps3
 go_wp2_with fail
 refine (kitAwake H _ hv0).mono ?_
 rintro e w1 ⟨rfl, hb⟩
 have hB1 := hB.trans (hb.mono hB.size)
 replace k0 := k0.below hb k0.lt
 replace j0 := j0.below hb j0.lt
 clear a0 a1 a2 a3 a4 a5 b0 b1 b2 b3 b4 b5
 clear hb hB
 obtain ⟨a0, a1, a2, a3, a4, a5⟩ := Blk.cells6 k0
 obtain ⟨b0, b1, b2, b3, b4, b5⟩ := Blk.cells6 j0
 go_wp2_with fail
 refine (HM.out _).mono ?_
 rintro e w2 ⟨rfl, hb⟩
 have hB2 := hB1.trans (hb.mono hB1.size)
 replace k0 := k0.below hb k0.lt
 replace j0 := j0.below hb j0.lt
 clear a0 a1 a2 a3 a4 a5 b0 b1 b2 b3 b4 b5
 clear hb hB1
 obtain ⟨a0, a1, a2, a3, a4, a5⟩ := Blk.cells6 k0
 obtain ⟨b0, b1, b2, b3, b4, b5⟩ := Blk.cells6 j0
 go_wp2_with fail
 refine (HJ.out _).mono ?_
 rintro e w3 ⟨rfl, hb⟩
 have hB3 := hB2.trans (hb.mono hB2.size)
 replace k0 := k0.below hb k0.lt
 replace j0 := j0.below hb j0.lt
 clear a0 a1 a2 a3 a4 a5 b0 b1 b2 b3 b4 b5
 clear hb hB2
 obtain ⟨a0, a1, a2, a3, a4, a5⟩ := Blk.cells6 k0
 obtain ⟨b0, b1, b2, b3, b4, b5⟩ := Blk.cells6 j0
 go_wp2_with fail
 refine (HK1.out _ (H.invB hv hB3)).mono ?_
 rintro e w4 ⟨A1, c1, rfl, r1, hb⟩
 have hB4 := hB3.trans (hb.mono hB3.size)
 replace k0 := k0.below hb k0.lt
 replace j0 := j0.below hb j0.lt
 clear a0 a1 a2 a3 a4 a5 b0 b1 b2 b3 b4 b5
 clear hb hB3
 obtain ⟨a0, a1, a2, a3, a4, a5⟩ := Blk.cells6 k0
 obtain ⟨b0, b1, b2, b3, b4, b5⟩ := Blk.cells6 j0
 go_wp2_with fail
 refine (HK2.out _ (H.invB hv hB4)).mono ?_
 rintro e w5 ⟨A2, c2, rfl, r2, hb⟩
 have hB5 := hB4.trans (hb.mono hB4.size)
 replace k0 := k0.below hb k0.lt
 replace j0 := j0.below hb j0.lt
 replace r1 := r1.below hb
 clear a0 a1 a2 a3 a4 a5 b0 b1 b2 b3 b4 b5
 clear hb hB4
 obtain ⟨a0, a1, a2, a3, a4, a5⟩ := Blk.cells6 k0
 obtain ⟨b0, b1, b2, b3, b4, b5⟩ := Blk.cells6 j0
 rcases bool_two o4 with hz | hz <;> subst hz
 ·
  by_cases n0 : code = code'
  ·subst n0
   by_cases n1 : mods = mods'
   ·subst n1
    by_cases n2 : typ = typ'
    ·subst n2
     rcases bool_two o16 with hz | hz <;> subst hz
     ·
      have hLM : L = M := HP.out.2 ⟨⟨rfl, rfl, rfl⟩, (fun h4 => by cases h4), (fun h => by cases h)⟩
      subst hLM
      have s1 := str_bs13 (n := n) (c := c1) HN.out r1
      have s2 := str_bs13 (n := m) (c := c2) HN2.out r2
      go_wp2_with fail
      go_ret
      exact ⟨rfl, hB5⟩
     ·
      by_cases h3 : typ = 3
      ·subst h3
       have hLM : L = M := HP.out.2 ⟨⟨rfl, rfl, rfl⟩, (fun h4 => by cases h4), (fun _ h => absurd rfl h)⟩
       subst hLM
       have s1 := str_bs13 (n := n) (c := c1) HN.out r1
       have s2 := str_bs13 (n := m) (c := c2) HN2.out r2
       go_wp2_with fail
       go_ret
       exact ⟨rfl, hB5⟩
      ·have u3 : (typ == 3) = false := beq_false_of_ne h3
       have v3 : (typ != 3) = true := by rw [bne, u3]; rfl
       by_cases hx : text = text'
       ·subst hx
        have hLM : L = M := HP.out.2 ⟨⟨rfl, rfl, rfl⟩, (fun h4 => by cases h4), (fun _ _ => rfl)⟩
        subst hLM
        have s1 := str_bs13 (n := n) (c := c1) HN.out r1
        have s2 := str_bs13 (n := m) (c := c2) HN2.out r2
        go_wp2_with fail
        go_ret
        exact ⟨rfl, hB5⟩
       ·have hx2 : (text.toList == text'.toList) = false := beq_false_of_ne fun e => hx (by rw [ByteArray.toList_eq, ByteArray.toList_eq] at e; apply ByteArray.ext; exact Array.ext' e)
        have hLM : (L == M) = false := beq_false_of_ne fun e => absurd ((HP.out.1 e).2.2 rfl h3) hx
        have s1 := str_bs13 (n := n) (c := c1) HN.out r1
        have s2 := str_bs13 (n := m) (c := c2) HN2.out r2
        go_wp2_with fail
        go_ret
        exact ⟨rfl, hB5⟩
    ·
     have t2_ : (typ == typ') = false := beq_false_of_ne n2
     rcases bool_two o16 with hz | hz <;> subst hz
     ·
      have hLM : (L == M) = false := beq_false_of_ne fun e => absurd (HP.out.1 e).1.2.2 n2
      have s1 := str_bs13 (n := n) (c := c1) HN.out r1
      have s2 := str_bs13 (n := m) (c := c2) HN2.out r2
      go_wp2_with fail
      go_ret
      exact ⟨rfl, hB5⟩
     ·
      by_cases h3 : typ = 3
      ·subst h3
       have hLM : (L == M) = false := beq_false_of_ne fun e => absurd (HP.out.1 e).1.2.2 n2
       have s1 := str_bs13 (n := n) (c := c1) HN.out r1
       have s2 := str_bs13 (n := m) (c := c2) HN2.out r2
       go_wp2_with fail
       go_ret
       exact ⟨rfl, hB5⟩
      ·have u3 : (typ == 3) = false := beq_false_of_ne h3
       have v3 : (typ != 3) = true := by rw [bne, u3]; rfl
       have hLM : (L == M) = false := beq_false_of_ne fun e => absurd (HP.out.1 e).1.2.2 n2
       have s1 := str_bs13 (n := n) (c := c1) HN.out r1
       have s2 := str_bs13 (n := m) (c := c2) HN2.out r2
       go_wp2_with fail
       go_ret
       exact ⟨rfl, hB5⟩
   ·
    have t1_ : (mods == mods') = false := beq_false_of_ne n1
    rcases bool_two o16 with hz | hz <;> subst hz
    ·
     have hLM : (L == M) = false := beq_false_of_ne fun e => absurd (HP.out.1 e).1.2.1 n1
     have s1 := str_bs13 (n := n) (c := c1) HN.out r1
     have s2 := str_bs13 (n := m) (c := c2) HN2.out r2
     go_wp2_with fail
     go_ret
     exact ⟨rfl, hB5⟩
    ·
     by_cases h3 : typ = 3
     ·subst h3
      have hLM : (L == M) = false := beq_false_of_ne fun e => absurd (HP.out.1 e).1.2.1 n1
      have s1 := str_bs13 (n := n) (c := c1) HN.out r1
      have s2 := str_bs13 (n := m) (c := c2) HN2.out r2
      go_wp2_with fail
      go_ret
      exact ⟨rfl, hB5⟩
     ·have u3 : (typ == 3) = false := beq_false_of_ne h3
      have v3 : (typ != 3) = true := by rw [bne, u3]; rfl
      have hLM : (L == M) = false := beq_false_of_ne fun e => absurd (HP.out.1 e).1.2.1 n1
      have s1 := str_bs13 (n := n) (c := c1) HN.out r1
      have s2 := str_bs13 (n := m) (c := c2) HN2.out r2
      go_wp2_with fail
      go_ret
      exact ⟨rfl, hB5⟩
  ·
   have t0_ : (code == code') = false := beq_false_of_ne n0
   rcases bool_two o16 with hz | hz <;> subst hz
   ·
    have hLM : (L == M) = false := beq_false_of_ne fun e => absurd (HP.out.1 e).1.1 n0
    have s1 := str_bs13 (n := n) (c := c1) HN.out r1
    have s2 := str_bs13 (n := m) (c := c2) HN2.out r2
    go_wp2_with fail
    go_ret
    exact ⟨rfl, hB5⟩
   ·
    by_cases h3 : typ = 3
    ·subst h3
     have hLM : (L == M) = false := beq_false_of_ne fun e => absurd (HP.out.1 e).1.1 n0
     have s1 := str_bs13 (n := n) (c := c1) HN.out r1
     have s2 := str_bs13 (n := m) (c := c2) HN2.out r2
     go_wp2_with fail
     go_ret
     exact ⟨rfl, hB5⟩
    ·have u3 : (typ == 3) = false := beq_false_of_ne h3
     have v3 : (typ != 3) = true := by rw [bne, u3]; rfl
     have hLM : (L == M) = false := beq_false_of_ne fun e => absurd (HP.out.1 e).1.1 n0
     have s1 := str_bs13 (n := n) (c := c1) HN.out r1
     have s2 := str_bs13 (n := m) (c := c2) HN2.out r2
     go_wp2_with fail
     go_ret
     exact ⟨rfl, hB5⟩
 ·
  by_cases n0 : code = code'
  ·subst n0
   by_cases n1 : mods = mods'
   ·subst n1
    by_cases n2 : typ = typ'
    ·subst n2
     have PY : Hid (al = true → (o16 = true → typ ≠ 3 → text = text') → L = M) := Lib.hid fun ha ht => HP.out.2 ⟨⟨rfl, rfl, rfl⟩, (fun _ => by rw [ha] at HAL; rw [(of_decide_eq_true HAL.out).1, (of_decide_eq_true HAL.out).2]), ht⟩
     have PN : Hid (L = M → al = true ∧ (o16 = true → typ ≠ 3 → text = text')) := Lib.hid fun e => ⟨by rw [← HAL.out]; exact decide_eq_true ⟨(Prod.mk.inj ((HP.out.1 e).2.1 rfl)).1, (Prod.mk.inj ((HP.out.1 e).2.1 rfl)).2⟩, (HP.out.1 e).2.2⟩
     clear HP
     go_upto_region 9 with (fail)
     have lk : ∀ W, Below w5.heap.size w5 W → Blk W w.heap.size 23 #[.int .i64 code, .int .i64 mods, .int .i64 typ, .int .i64 shift, .int .i64 base, .string text] := fun W hW => k0.below hW k0.lt
     have lj : ∀ W, Below w5.heap.size w5 W → Blk W (w.heap.size + 1) 23 #[.int .i64 code, .int .i64 mods, .int .i64 typ, .int .i64 shift', .int .i64 base', .string text'] := fun W hW => j0.below hW j0.lt
     have hst : ∀ f ∈ ([⟨3, 58, FAlt ax ay⟩, ⟨4, 59, FSq ax ay⟩, ⟨6, 61, FAlt bx by_⟩, ⟨7, 62, FSq bx by_⟩] : List Fact), f.ok := List.forall_mem_cons.2 ⟨falt_ok _ _ _ _, List.forall_mem_cons.2 ⟨fsq_ok _ _ _ _, List.forall_mem_cons.2 ⟨falt_ok _ _ _ _, List.forall_mem_cons.2 ⟨fsq_ok _ _ _ _, fun _ h => by cases h⟩⟩⟩⟩
     refine wp_region_put (w1 := w5) (K := [⟨3, 58, FAlt ax ay⟩, ⟨4, 59, FSq ax ay⟩, ⟨6, 61, FAlt bx by_⟩, ⟨7, 62, FSq bx by_⟩]) (ix := 1000) (R0 := fun _ _ _ => True) (R1 := fun _ _ _ => True) rfl (by kernel_rfl) [58, 59, 61, 62] (⟨#[.int .u8 flags, .agg #[.int .i64 code, .int .i64 mods, .int .i64 typ, .int .i64 shift, .int .i64 base, .string text], .agg #[.int .i64 code, .int .i64 mods, .int .i64 typ, .int .i64 shift', .int .i64 base', .string text'], undef, .pointer (some ⟨w.heap.size, 0, none⟩), .pointer (some ⟨w.heap.size + 1, 0, none⟩), .bool false, .bool true, .int .i64 F, .slice A1 n c1, .slice A2 m c2, .bool true, .bool true, .agg #[.int .i64 code, .int .i64 mods, .int .i64 typ, .int .i64 shift, .int .i64 base, .string text], .bool true, .bool false, .bool false, .agg #[.int .i64 code, .int .i64 mods, .int .i64 typ, .int .i64 shift', .int .i64 base', .string text'], .bool true, .bool false, .bool false, undef, .int .u8 flags, .int .u8 (flags % 32), .int .i64 (flags % 32), .int .i64 F, .int .i64 F, .agg #[.int .i64 code, .int .i64 mods, .int .i64 typ, .int .i64 shift, .int .i64 base, .string text], .slice A1 n c1, .int .i64 F, .agg #[.int .i64 code, .int .i64 mods, .int .i64 typ, .int .i64 shift', .int .i64 base', .string text'], .slice A2 m c2, .pointer (some ⟨w.heap.size, 0, none⟩), .int .i64 code, .pointer (some ⟨w.heap.size + 1, 0, none⟩), .int .i64 code, .bool true, .bool true, .pointer (some ⟨w.heap.size, 1, none⟩), .int .i64 mods, .pointer (some ⟨w.heap.size + 1, 1, none⟩), .int .i64 mods, .bool true, .bool true, .bool true, .pointer (some ⟨w.heap.size, 2, none⟩), .int .i64 typ, .pointer (some ⟨w.heap.size + 1, 2, none⟩), .int .i64 typ, .bool true, .bool true, .int .i64 F, .int .i64 (wrap64 (F / 4)), .int .i64 (F / 4 % 2), .bool true, .bool true, .bool true, .agg #[.int .i64 code, .int .i64 mods, .int .i64 typ, .int .i64 shift, .int .i64 base, .string text], undef, undef, .agg #[.int .i64 code, .int .i64 mods, .int .i64 typ, .int .i64 shift', .int .i64 base', .string text'], undef, undef, .bool al, .bool al, undef, undef, undef, undef, undef, undef, undef, undef, undef, undef, undef, undef, undef, undef, undef, undef, undef, undef, undef, undef, undef, undef, undef, undef, undef, undef, undef], []⟩) (fun g => ⟨#[.int .u8 flags, .agg #[.int .i64 code, .int .i64 mods, .int .i64 typ, .int .i64 shift, .int .i64 base, .string text], .agg #[.int .i64 code, .int .i64 mods, .int .i64 typ, .int .i64 shift', .int .i64 base', .string text'], undef, .pointer (some ⟨w.heap.size, 0, none⟩), .pointer (some ⟨w.heap.size + 1, 0, none⟩), .bool false, .bool true, .int .i64 F, .slice A1 n c1, .slice A2 m c2, .bool true, .bool true, .agg #[.int .i64 code, .int .i64 mods, .int .i64 typ, .int .i64 shift, .int .i64 base, .string text], .bool true, .bool false, .bool false, .agg #[.int .i64 code, .int .i64 mods, .int .i64 typ, .int .i64 shift', .int .i64 base', .string text'], .bool true, .bool false, .bool false, undef, .int .u8 flags, .int .u8 (flags % 32), .int .i64 (flags % 32), .int .i64 F, .int .i64 F, .agg #[.int .i64 code, .int .i64 mods, .int .i64 typ, .int .i64 shift, .int .i64 base, .string text], .slice A1 n c1, .int .i64 F, .agg #[.int .i64 code, .int .i64 mods, .int .i64 typ, .int .i64 shift', .int .i64 base', .string text'], .slice A2 m c2, .pointer (some ⟨w.heap.size, 0, none⟩), .int .i64 code, .pointer (some ⟨w.heap.size + 1, 0, none⟩), .int .i64 code, .bool true, .bool true, .pointer (some ⟨w.heap.size, 1, none⟩), .int .i64 mods, .pointer (some ⟨w.heap.size + 1, 1, none⟩), .int .i64 mods, .bool true, .bool true, .bool true, .pointer (some ⟨w.heap.size, 2, none⟩), .int .i64 typ, .pointer (some ⟨w.heap.size + 1, 2, none⟩), .int .i64 typ, .bool true, .bool true, .int .i64 F, .int .i64 (wrap64 (F / 4)), .int .i64 (F / 4 % 2), .bool true, .bool true, .bool true, .agg #[.int .i64 code, .int .i64 mods, .int .i64 typ, .int .i64 shift, .int .i64 base, .string text], (g 58), (g 59), .agg #[.int .i64 code, .int .i64 mods, .int .i64 typ, .int .i64 shift', .int .i64 base', .string text'], (g 61), (g 62), .bool al, .bool al, undef, undef, undef, undef, undef, undef, undef, undef, undef, undef, undef, undef, undef, undef, undef, undef, undef, undef, undef, undef, undef, undef, undef, undef, undef, undef, undef], []⟩) (fun g => ⟨#[.int .u8 flags, .agg #[.int .i64 code, .int .i64 mods, .int .i64 typ, .int .i64 shift, .int .i64 base, .string text], .agg #[.int .i64 code, .int .i64 mods, .int .i64 typ, .int .i64 shift', .int .i64 base', .string text'], undef, .pointer (some ⟨w.heap.size, 0, none⟩), .pointer (some ⟨w.heap.size + 1, 0, none⟩), .bool false, .bool true, .int .i64 F, .slice A1 n c1, .slice A2 m c2, .bool al, .bool true, .agg #[.int .i64 code, .int .i64 mods, .int .i64 typ, .int .i64 shift, .int .i64 base, .string text], .bool true, .bool false, .bool false, .agg #[.int .i64 code, .int .i64 mods, .int .i64 typ, .int .i64 shift', .int .i64 base', .string text'], .bool true, .bool false, .bool false, undef, .int .u8 flags, .int .u8 (flags % 32), .int .i64 (flags % 32), .int .i64 F, .int .i64 F, .agg #[.int .i64 code, .int .i64 mods, .int .i64 typ, .int .i64 shift, .int .i64 base, .string text], .slice A1 n c1, .int .i64 F, .agg #[.int .i64 code, .int .i64 mods, .int .i64 typ, .int .i64 shift', .int .i64 base', .string text'], .slice A2 m c2, .pointer (some ⟨w.heap.size, 0, none⟩), .int .i64 code, .pointer (some ⟨w.heap.size + 1, 0, none⟩), .int .i64 code, .bool true, .bool true, .pointer (some ⟨w.heap.size, 1, none⟩), .int .i64 mods, .pointer (some ⟨w.heap.size + 1, 1, none⟩), .int .i64 mods, .bool true, .bool true, .bool true, .pointer (some ⟨w.heap.size, 2, none⟩), .int .i64 typ, .pointer (some ⟨w.heap.size + 1, 2, none⟩), .int .i64 typ, .bool true, .bool true, .int .i64 F, .int .i64 (wrap64 (F / 4)), .int .i64 (F / 4 % 2), .bool true, .bool true, .bool true, .agg #[.int .i64 code, .int .i64 mods, .int .i64 typ, .int .i64 shift, .int .i64 base, .string text], (g 58), (g 59), .agg #[.int .i64 code, .int .i64 mods, .int .i64 typ, .int .i64 shift', .int .i64 base', .string text'], (g 61), (g 62), .bool al, .bool al, undef, undef, undef, undef, undef, undef, undef, undef, undef, undef, undef, undef, undef, undef, undef, undef, undef, undef, undef, undef, undef, undef, undef, undef, undef, undef, undef], []⟩) (fun _ => .bool al) [.bool true, .bool true, .agg #[.int .i64 code, .int .i64 mods, .int .i64 typ, .int .i64 shift, .int .i64 base, .string text], undef, undef, .agg #[.int .i64 code, .int .i64 mods, .int .i64 typ, .int .i64 shift', .int .i64 base', .string text'], undef, undef, .bool al, .bool al] (by kernel_rfl) (by kernel_rfl) (by kernel_rfl) (by kernel_rfl) (fun g => by kernel_rfl) (by kernel_rfl) (Below.refl _ _).drew (by decide) (by kernel_rfl)
      (goes_cons (goesK_pure (fun _ => .bool true) rfl (by decide) (by decide) (by kernel_rfl) (fun g => by kernel_rfl) rfl (fun g => by kernel_rfl) (fun g w => by kernel_rfl))
      (goes_cons (goesK_pure (fun _ => .bool true) rfl (by decide) (by decide) (by kernel_rfl) (fun g => by kernel_rfl) rfl (fun g => by kernel_rfl) (fun g w => by kernel_rfl))
      (goes_cons (goesK_load hst (ahead_none (by decide)) rfl (by decide) (by decide) (by kernel_rfl) (fun g => by kernel_rfl) rfl (fun g => by kernel_rfl) rfl (fun g => by kernel_rfl) lk Tryd.underlying23 rfl (by kernel_rfl))
      (goes_cons (goesK_ghost (args := fun g => #[.agg #[.int .i64 code, .int .i64 mods, .int .i64 typ, .int .i64 shift, .int .i64 base, .string text]]) hst (ahead_none (by decide)) rfl (by decide) (by decide) 0 rfl (by kernel_rfl) (fun g => by kernel_rfl) rfl (fun g => by kernel_rfl) (fun g w => by kernel_rfl) (fun g W hW hin => falt_out (HA1.out W)))
      (goes_cons (goesK_any hst (ahead_none (by decide)) rfl (by decide) (by decide) 1 rfl (by kernel_rfl) (fun g => by kernel_rfl) rfl (fun g => by kernel_rfl) (fun g W hW hin => by
        obtain ⟨A, c, hv, hr⟩ := hin 0 _ rfl (by kernel_rfl)
        exact ⟨_, W, build_at13 rfl hv W, ⟨A, c, rfl, hr⟩, Below.refl _ _⟩))
      (goes_cons (goesK_load hst (ahead_none (by decide)) rfl (by decide) (by decide) (by kernel_rfl) (fun g => by kernel_rfl) rfl (fun g => by kernel_rfl) rfl (fun g => by kernel_rfl) lj Tryd.underlying23 rfl (by kernel_rfl))
      (goes_cons (goesK_ghost (args := fun g => #[.agg #[.int .i64 code, .int .i64 mods, .int .i64 typ, .int .i64 shift', .int .i64 base', .string text']]) hst (ahead_none (by decide)) rfl (by decide) (by decide) 2 rfl (by kernel_rfl) (fun g => by kernel_rfl) rfl (fun g => by kernel_rfl) (fun g w => by kernel_rfl) (fun g W hW hin => falt_out (HA2.out W)))
      (goes_cons (goesK_any hst (ahead_none (by decide)) rfl (by decide) (by decide) 3 rfl (by kernel_rfl) (fun g => by kernel_rfl) rfl (fun g => by kernel_rfl) (fun g W hW hin => by
        obtain ⟨A, c, hv, hr⟩ := hin 2 _ rfl (by kernel_rfl)
        exact ⟨_, W, build_at13 rfl hv W, ⟨A, c, rfl, hr⟩, Below.refl _ _⟩))
      (goes_cons (goesK_call (args := fun g => #[g 59, g 62]) hst (ahead_none (by decide)) rfl (by decide) (by decide) (by kernel_rfl) (fun g => by kernel_rfl) rfl (fun g => by kernel_rfl) (fun g w => by kernel_rfl) (fun g W hW hin => HQ.out _ _ W (hin 1 _ rfl (by kernel_rfl)) (hin 3 _ rfl (by kernel_rfl))))
      (goes_cons (goesK_pure (fun _ => .bool al) rfl (by decide) (by decide) (by kernel_rfl) (fun g => by kernel_rfl) rfl (fun g => by kernel_rfl) (fun g w => by kernel_rfl)) goes_nil)))))))))) (fun g => by kernel_rfl) (fun g w => by kernel_rfl) (fun g => by kernel_rfl) ?_
     intro g9 w6 hW _
     have hB6 := hB5.trans (hW.mono hB5.size)
     replace k0 := k0.below hW k0.lt
     replace j0 := j0.below hW j0.lt
     replace r1 := r1.below hW
     replace r2 := r2.below hW
     clear lk lj hst a0 a1 a2 a3 a4 a5 b0 b1 b2 b3 b4 b5
     obtain ⟨a0, a1, a2, a3, a4, a5⟩ := Blk.cells6 k0
     obtain ⟨b0, b1, b2, b3, b4, b5⟩ := Blk.cells6 j0
     rcases bool_two al with hy | hy <;> subst hy
     ·
      rcases bool_two o16 with hz | hz <;> subst hz
      ·
       have hLM : (L == M) = false := beq_false_of_ne fun e => absurd (PN.out e).1 (by decide)
       have s1 := str_bs13 (n := n) (c := c1) HN.out r1
       have s2 := str_bs13 (n := m) (c := c2) HN2.out r2
       go_wp2_with fail
       go_ret
       exact ⟨rfl, hB6⟩
      ·
       by_cases h3 : typ = 3
       ·subst h3
        have hLM : (L == M) = false := beq_false_of_ne fun e => absurd (PN.out e).1 (by decide)
        have s1 := str_bs13 (n := n) (c := c1) HN.out r1
        have s2 := str_bs13 (n := m) (c := c2) HN2.out r2
        go_wp2_with fail
        go_ret
        exact ⟨rfl, hB6⟩
       ·have u3 : (typ == 3) = false := beq_false_of_ne h3
        have v3 : (typ != 3) = true := by rw [bne, u3]; rfl
        have hLM : (L == M) = false := beq_false_of_ne fun e => absurd (PN.out e).1 (by decide)
        have s1 := str_bs13 (n := n) (c := c1) HN.out r1
        have s2 := str_bs13 (n := m) (c := c2) HN2.out r2
        go_wp2_with fail
        go_ret
        exact ⟨rfl, hB6⟩
     ·
      rcases bool_two o16 with hz | hz <;> subst hz
      ·
       have hLM : L = M := PY.out rfl (fun h => by cases h)
       subst hLM
       have s1 := str_bs13 (n := n) (c := c1) HN.out r1
       have s2 := str_bs13 (n := m) (c := c2) HN2.out r2
       go_wp2_with fail
       go_ret
       exact ⟨rfl, hB6⟩
      ·
       by_cases h3 : typ = 3
       ·subst h3
        have hLM : L = M := PY.out rfl (fun _ h => absurd rfl h)
        subst hLM
        have s1 := str_bs13 (n := n) (c := c1) HN.out r1
        have s2 := str_bs13 (n := m) (c := c2) HN2.out r2
        go_wp2_with fail
        go_ret
        exact ⟨rfl, hB6⟩
       ·have u3 : (typ == 3) = false := beq_false_of_ne h3
        have v3 : (typ != 3) = true := by rw [bne, u3]; rfl
        by_cases hx : text = text'
        ·subst hx
         have hLM : L = M := PY.out rfl (fun _ _ => rfl)
         subst hLM
         have s1 := str_bs13 (n := n) (c := c1) HN.out r1
         have s2 := str_bs13 (n := m) (c := c2) HN2.out r2
         go_wp2_with fail
         go_ret
         exact ⟨rfl, hB6⟩
        ·have hx2 : (text.toList == text'.toList) = false := beq_false_of_ne fun e => hx (by rw [ByteArray.toList_eq, ByteArray.toList_eq] at e; apply ByteArray.ext; exact Array.ext' e)
         have hLM : (L == M) = false := beq_false_of_ne fun e => absurd ((PN.out e).2 rfl h3) hx
         have s1 := str_bs13 (n := n) (c := c1) HN.out r1
         have s2 := str_bs13 (n := m) (c := c2) HN2.out r2
         go_wp2_with fail
         go_ret
         exact ⟨rfl, hB6⟩
    ·
     have t2_ : (typ == typ') = false := beq_false_of_ne n2
     have PN : Hid (L ≠ M) := Lib.hid fun e => absurd (HP.out.1 e).1.2.2 n2
     clear HP
     go_upto_region 9 with (fail)
     have hst : ∀ f ∈ ([] : List Fact), f.ok := fun _ h => by cases h
     refine wp_region_put (w1 := w5) (K := []) (ix := 1000) (R0 := fun _ _ _ => True) (R1 := fun _ _ _ => True) rfl (by kernel_rfl) [] (⟨#[.int .u8 flags, .agg #[.int .i64 code, .int .i64 mods, .int .i64 typ, .int .i64 shift, .int .i64 base, .string text], .agg #[.int .i64 code, .int .i64 mods, .int .i64 typ', .int .i64 shift', .int .i64 base', .string text'], undef, .pointer (some ⟨w.heap.size, 0, none⟩), .pointer (some ⟨w.heap.size + 1, 0, none⟩), .bool false, .bool true, .int .i64 F, .slice A1 n c1, .slice A2 m c2, .bool false, .bool true, .agg #[.int .i64 code, .int .i64 mods, .int .i64 typ, .int .i64 shift, .int .i64 base, .string text], .bool true, .bool false, .bool false, .agg #[.int .i64 code, .int .i64 mods, .int .i64 typ', .int .i64 shift', .int .i64 base', .string text'], .bool true, .bool false, .bool false, undef, .int .u8 flags, .int .u8 (flags % 32), .int .i64 (flags % 32), .int .i64 F, .int .i64 F, .agg #[.int .i64 code, .int .i64 mods, .int .i64 typ, .int .i64 shift, .int .i64 base, .string text], .slice A1 n c1, .int .i64 F, .agg #[.int .i64 code, .int .i64 mods, .int .i64 typ', .int .i64 shift', .int .i64 base', .string text'], .slice A2 m c2, .pointer (some ⟨w.heap.size, 0, none⟩), .int .i64 code, .pointer (some ⟨w.heap.size + 1, 0, none⟩), .int .i64 code, .bool true, .bool true, .pointer (some ⟨w.heap.size, 1, none⟩), .int .i64 mods, .pointer (some ⟨w.heap.size + 1, 1, none⟩), .int .i64 mods, .bool true, .bool true, .bool true, .pointer (some ⟨w.heap.size, 2, none⟩), .int .i64 typ, .pointer (some ⟨w.heap.size + 1, 2, none⟩), .int .i64 typ', .bool false, .bool false, .int .i64 F, .int .i64 (wrap64 (F / 4)), .int .i64 (F / 4 % 2), .bool true, .bool false, .bool false, undef, undef, undef, undef, undef, undef, undef, .bool false, undef, undef, undef, undef, undef, undef, undef, undef, undef, undef, undef, undef, undef, undef, undef, undef, undef, undef, undef, undef, undef, undef, undef, undef, undef, undef, undef], []⟩) (fun g => ⟨#[.int .u8 flags, .agg #[.int .i64 code, .int .i64 mods, .int .i64 typ, .int .i64 shift, .int .i64 base, .string text], .agg #[.int .i64 code, .int .i64 mods, .int .i64 typ', .int .i64 shift', .int .i64 base', .string text'], undef, .pointer (some ⟨w.heap.size, 0, none⟩), .pointer (some ⟨w.heap.size + 1, 0, none⟩), .bool false, .bool true, .int .i64 F, .slice A1 n c1, .slice A2 m c2, .bool false, .bool true, .agg #[.int .i64 code, .int .i64 mods, .int .i64 typ, .int .i64 shift, .int .i64 base, .string text], .bool true, .bool false, .bool false, .agg #[.int .i64 code, .int .i64 mods, .int .i64 typ', .int .i64 shift', .int .i64 base', .string text'], .bool true, .bool false, .bool false, undef, .int .u8 flags, .int .u8 (flags % 32), .int .i64 (flags % 32), .int .i64 F, .int .i64 F, .agg #[.int .i64 code, .int .i64 mods, .int .i64 typ, .int .i64 shift, .int .i64 base, .string text], .slice A1 n c1, .int .i64 F, .agg #[.int .i64 code, .int .i64 mods, .int .i64 typ', .int .i64 shift', .int .i64 base', .string text'], .slice A2 m c2, .pointer (some ⟨w.heap.size, 0, none⟩), .int .i64 code, .pointer (some ⟨w.heap.size + 1, 0, none⟩), .int .i64 code, .bool true, .bool true, .pointer (some ⟨w.heap.size, 1, none⟩), .int .i64 mods, .pointer (some ⟨w.heap.size + 1, 1, none⟩), .int .i64 mods, .bool true, .bool true, .bool true, .pointer (some ⟨w.heap.size, 2, none⟩), .int .i64 typ, .pointer (some ⟨w.heap.size + 1, 2, none⟩), .int .i64 typ', .bool false, .bool false, .int .i64 F, .int .i64 (wrap64 (F / 4)), .int .i64 (F / 4 % 2), .bool true, .bool false, .bool false, undef, undef, undef, undef, undef, undef, undef, .bool false, undef, undef, undef, undef, undef, undef, undef, undef, undef, undef, undef, undef, undef, undef, undef, undef, undef, undef, undef, undef, undef, undef, undef, undef, undef, undef, undef], []⟩) (fun g => ⟨#[.int .u8 flags, .agg #[.int .i64 code, .int .i64 mods, .int .i64 typ, .int .i64 shift, .int .i64 base, .string text], .agg #[.int .i64 code, .int .i64 mods, .int .i64 typ', .int .i64 shift', .int .i64 base', .string text'], undef, .pointer (some ⟨w.heap.size, 0, none⟩), .pointer (some ⟨w.heap.size + 1, 0, none⟩), .bool false, .bool true, .int .i64 F, .slice A1 n c1, .slice A2 m c2, .bool false, .bool true, .agg #[.int .i64 code, .int .i64 mods, .int .i64 typ, .int .i64 shift, .int .i64 base, .string text], .bool true, .bool false, .bool false, .agg #[.int .i64 code, .int .i64 mods, .int .i64 typ', .int .i64 shift', .int .i64 base', .string text'], .bool true, .bool false, .bool false, undef, .int .u8 flags, .int .u8 (flags % 32), .int .i64 (flags % 32), .int .i64 F, .int .i64 F, .agg #[.int .i64 code, .int .i64 mods, .int .i64 typ, .int .i64 shift, .int .i64 base, .string text], .slice A1 n c1, .int .i64 F, .agg #[.int .i64 code, .int .i64 mods, .int .i64 typ', .int .i64 shift', .int .i64 base', .string text'], .slice A2 m c2, .pointer (some ⟨w.heap.size, 0, none⟩), .int .i64 code, .pointer (some ⟨w.heap.size + 1, 0, none⟩), .int .i64 code, .bool true, .bool true, .pointer (some ⟨w.heap.size, 1, none⟩), .int .i64 mods, .pointer (some ⟨w.heap.size + 1, 1, none⟩), .int .i64 mods, .bool true, .bool true, .bool true, .pointer (some ⟨w.heap.size, 2, none⟩), .int .i64 typ, .pointer (some ⟨w.heap.size + 1, 2, none⟩), .int .i64 typ', .bool false, .bool false, .int .i64 F, .int .i64 (wrap64 (F / 4)), .int .i64 (F / 4 % 2), .bool true, .bool false, .bool false, undef, undef, undef, undef, undef, undef, undef, .bool false, undef, undef, undef, undef, undef, undef, undef, undef, undef, undef, undef, undef, undef, undef, undef, undef, undef, undef, undef, undef, undef, undef, undef, undef, undef, undef, undef], []⟩) (fun _ => .bool false) [.bool false, .bool false, undef, undef, undef, undef, undef, undef, undef, .bool false] (by kernel_rfl) (by kernel_rfl) (by kernel_rfl) (by kernel_rfl) (fun g => by kernel_rfl) (by kernel_rfl) (Below.refl _ _).drew (by decide) (by kernel_rfl)
      (goes_cons (goesK_pure (fun _ => .bool false) rfl (by decide) (by decide) (by kernel_rfl) (fun g => by kernel_rfl) rfl (fun g => by kernel_rfl) (fun g w => by kernel_rfl))
      (goes_cons (goesK_pure (fun _ => .bool false) rfl (by decide) (by decide) (by kernel_rfl) (fun g => by kernel_rfl) rfl (fun g => by kernel_rfl) (fun g w => by kernel_rfl))
      (goes_cons (goesK_off rfl (by decide) (by decide) (by kernel_rfl) (fun g => by kernel_rfl) rfl (fun g => by kernel_rfl))
      (goes_cons (goesK_off rfl (by decide) (by decide) (by kernel_rfl) (fun g => by kernel_rfl) rfl (fun g => by kernel_rfl))
      (goes_cons (goesK_off rfl (by decide) (by decide) (by kernel_rfl) (fun g => by kernel_rfl) rfl (fun g => by kernel_rfl))
      (goes_cons (goesK_off rfl (by decide) (by decide) (by kernel_rfl) (fun g => by kernel_rfl) rfl (fun g => by kernel_rfl))
      (goes_cons (goesK_off rfl (by decide) (by decide) (by kernel_rfl) (fun g => by kernel_rfl) rfl (fun g => by kernel_rfl))
      (goes_cons (goesK_off rfl (by decide) (by decide) (by kernel_rfl) (fun g => by kernel_rfl) rfl (fun g => by kernel_rfl))
      (goes_cons (goesK_off rfl (by decide) (by decide) (by kernel_rfl) (fun g => by kernel_rfl) rfl (fun g => by kernel_rfl))
      (goes_cons (goesK_pure (fun _ => .bool false) rfl (by decide) (by decide) (by kernel_rfl) (fun g => by kernel_rfl) rfl (fun g => by kernel_rfl) (fun g w => by kernel_rfl)) goes_nil)))))))))) (fun g => by kernel_rfl) (fun g w => by kernel_rfl) (fun g => by kernel_rfl) ?_
     intro g9 w6 hW _
     have hB6 := hB5.trans (hW.mono hB5.size)
     replace k0 := k0.below hW k0.lt
     replace j0 := j0.below hW j0.lt
     replace r1 := r1.below hW
     replace r2 := r2.below hW
     clear a0 a1 a2 a3 a4 a5 b0 b1 b2 b3 b4 b5
     obtain ⟨a0, a1, a2, a3, a4, a5⟩ := Blk.cells6 k0
     obtain ⟨b0, b1, b2, b3, b4, b5⟩ := Blk.cells6 j0
     rcases bool_two o16 with hz | hz <;> subst hz
     ·
      have hLM : (L == M) = false := beq_false_of_ne fun e => PN.out e
      have s1 := str_bs13 (n := n) (c := c1) HN.out r1
      have s2 := str_bs13 (n := m) (c := c2) HN2.out r2
      go_wp2_with fail
      go_ret
      exact ⟨rfl, hB6⟩
     ·
      by_cases h3 : typ = 3
      ·subst h3
       have hLM : (L == M) = false := beq_false_of_ne fun e => PN.out e
       have s1 := str_bs13 (n := n) (c := c1) HN.out r1
       have s2 := str_bs13 (n := m) (c := c2) HN2.out r2
       go_wp2_with fail
       go_ret
       exact ⟨rfl, hB6⟩
      ·have u3 : (typ == 3) = false := beq_false_of_ne h3
       have v3 : (typ != 3) = true := by rw [bne, u3]; rfl
       have hLM : (L == M) = false := beq_false_of_ne fun e => PN.out e
       have s1 := str_bs13 (n := n) (c := c1) HN.out r1
       have s2 := str_bs13 (n := m) (c := c2) HN2.out r2
       go_wp2_with fail
       go_ret
       exact ⟨rfl, hB6⟩
   ·
    have t1_ : (mods == mods') = false := beq_false_of_ne n1
    have PN : Hid (L ≠ M) := Lib.hid fun e => absurd (HP.out.1 e).1.2.1 n1
    clear HP
    go_upto_region 9 with (fail)
    have hst : ∀ f ∈ ([] : List Fact), f.ok := fun _ h => by cases h
    refine wp_region_put (w1 := w5) (K := []) (ix := 1000) (R0 := fun _ _ _ => True) (R1 := fun _ _ _ => True) rfl (by kernel_rfl) [] (⟨#[.int .u8 flags, .agg #[.int .i64 code, .int .i64 mods, .int .i64 typ, .int .i64 shift, .int .i64 base, .string text], .agg #[.int .i64 code, .int .i64 mods', .int .i64 typ', .int .i64 shift', .int .i64 base', .string text'], undef, .pointer (some ⟨w.heap.size, 0, none⟩), .pointer (some ⟨w.heap.size + 1, 0, none⟩), .bool false, .bool true, .int .i64 F, .slice A1 n c1, .slice A2 m c2, .bool false, .bool true, .agg #[.int .i64 code, .int .i64 mods, .int .i64 typ, .int .i64 shift, .int .i64 base, .string text], .bool true, .bool false, .bool false, .agg #[.int .i64 code, .int .i64 mods', .int .i64 typ', .int .i64 shift', .int .i64 base', .string text'], .bool true, .bool false, .bool false, undef, .int .u8 flags, .int .u8 (flags % 32), .int .i64 (flags % 32), .int .i64 F, .int .i64 F, .agg #[.int .i64 code, .int .i64 mods, .int .i64 typ, .int .i64 shift, .int .i64 base, .string text], .slice A1 n c1, .int .i64 F, .agg #[.int .i64 code, .int .i64 mods', .int .i64 typ', .int .i64 shift', .int .i64 base', .string text'], .slice A2 m c2, .pointer (some ⟨w.heap.size, 0, none⟩), .int .i64 code, .pointer (some ⟨w.heap.size + 1, 0, none⟩), .int .i64 code, .bool true, .bool true, .pointer (some ⟨w.heap.size, 1, none⟩), .int .i64 mods, .pointer (some ⟨w.heap.size + 1, 1, none⟩), .int .i64 mods', .bool false, .bool false, .bool false, undef, undef, undef, undef, undef, .bool false, .int .i64 F, .int .i64 (wrap64 (F / 4)), .int .i64 (F / 4 % 2), .bool true, .bool false, .bool false, undef, undef, undef, undef, undef, undef, undef, .bool false, undef, undef, undef, undef, undef, undef, undef, undef, undef, undef, undef, undef, undef, undef, undef, undef, undef, undef, undef, undef, undef, undef, undef, undef, undef, undef, undef], []⟩) (fun g => ⟨#[.int .u8 flags, .agg #[.int .i64 code, .int .i64 mods, .int .i64 typ, .int .i64 shift, .int .i64 base, .string text], .agg #[.int .i64 code, .int .i64 mods', .int .i64 typ', .int .i64 shift', .int .i64 base', .string text'], undef, .pointer (some ⟨w.heap.size, 0, none⟩), .pointer (some ⟨w.heap.size + 1, 0, none⟩), .bool false, .bool true, .int .i64 F, .slice A1 n c1, .slice A2 m c2, .bool false, .bool true, .agg #[.int .i64 code, .int .i64 mods, .int .i64 typ, .int .i64 shift, .int .i64 base, .string text], .bool true, .bool false, .bool false, .agg #[.int .i64 code, .int .i64 mods', .int .i64 typ', .int .i64 shift', .int .i64 base', .string text'], .bool true, .bool false, .bool false, undef, .int .u8 flags, .int .u8 (flags % 32), .int .i64 (flags % 32), .int .i64 F, .int .i64 F, .agg #[.int .i64 code, .int .i64 mods, .int .i64 typ, .int .i64 shift, .int .i64 base, .string text], .slice A1 n c1, .int .i64 F, .agg #[.int .i64 code, .int .i64 mods', .int .i64 typ', .int .i64 shift', .int .i64 base', .string text'], .slice A2 m c2, .pointer (some ⟨w.heap.size, 0, none⟩), .int .i64 code, .pointer (some ⟨w.heap.size + 1, 0, none⟩), .int .i64 code, .bool true, .bool true, .pointer (some ⟨w.heap.size, 1, none⟩), .int .i64 mods, .pointer (some ⟨w.heap.size + 1, 1, none⟩), .int .i64 mods', .bool false, .bool false, .bool false, undef, undef, undef, undef, undef, .bool false, .int .i64 F, .int .i64 (wrap64 (F / 4)), .int .i64 (F / 4 % 2), .bool true, .bool false, .bool false, undef, undef, undef, undef, undef, undef, undef, .bool false, undef, undef, undef, undef, undef, undef, undef, undef, undef, undef, undef, undef, undef, undef, undef, undef, undef, undef, undef, undef, undef, undef, undef, undef, undef, undef, undef], []⟩) (fun g => ⟨#[.int .u8 flags, .agg #[.int .i64 code, .int .i64 mods, .int .i64 typ, .int .i64 shift, .int .i64 base, .string text], .agg #[.int .i64 code, .int .i64 mods', .int .i64 typ', .int .i64 shift', .int .i64 base', .string text'], undef, .pointer (some ⟨w.heap.size, 0, none⟩), .pointer (some ⟨w.heap.size + 1, 0, none⟩), .bool false, .bool true, .int .i64 F, .slice A1 n c1, .slice A2 m c2, .bool false, .bool true, .agg #[.int .i64 code, .int .i64 mods, .int .i64 typ, .int .i64 shift, .int .i64 base, .string text], .bool true, .bool false, .bool false, .agg #[.int .i64 code, .int .i64 mods', .int .i64 typ', .int .i64 shift', .int .i64 base', .string text'], .bool true, .bool false, .bool false, undef, .int .u8 flags, .int .u8 (flags % 32), .int .i64 (flags % 32), .int .i64 F, .int .i64 F, .agg #[.int .i64 code, .int .i64 mods, .int .i64 typ, .int .i64 shift, .int .i64 base, .string text], .slice A1 n c1, .int .i64 F, .agg #[.int .i64 code, .int .i64 mods', .int .i64 typ', .int .i64 shift', .int .i64 base', .string text'], .slice A2 m c2, .pointer (some ⟨w.heap.size, 0, none⟩), .int .i64 code, .pointer (some ⟨w.heap.size + 1, 0, none⟩), .int .i64 code, .bool true, .bool true, .pointer (some ⟨w.heap.size, 1, none⟩), .int .i64 mods, .pointer (some ⟨w.heap.size + 1, 1, none⟩), .int .i64 mods', .bool false, .bool false, .bool false, undef, undef, undef, undef, undef, .bool false, .int .i64 F, .int .i64 (wrap64 (F / 4)), .int .i64 (F / 4 % 2), .bool true, .bool false, .bool false, undef, undef, undef, undef, undef, undef, undef, .bool false, undef, undef, undef, undef, undef, undef, undef, undef, undef, undef, undef, undef, undef, undef, undef, undef, undef, undef, undef, undef, undef, undef, undef, undef, undef, undef, undef], []⟩) (fun _ => .bool false) [.bool false, .bool false, undef, undef, undef, undef, undef, undef, undef, .bool false] (by kernel_rfl) (by kernel_rfl) (by kernel_rfl) (by kernel_rfl) (fun g => by kernel_rfl) (by kernel_rfl) (Below.refl _ _).drew (by decide) (by kernel_rfl)
     (goes_cons (goesK_pure (fun _ => .bool false) rfl (by decide) (by decide) (by kernel_rfl) (fun g => by kernel_rfl) rfl (fun g => by kernel_rfl) (fun g w => by kernel_rfl))
     (goes_cons (goesK_pure (fun _ => .bool false) rfl (by decide) (by decide) (by kernel_rfl) (fun g => by kernel_rfl) rfl (fun g => by kernel_rfl) (fun g w => by kernel_rfl))
     (goes_cons (goesK_off rfl (by decide) (by decide) (by kernel_rfl) (fun g => by kernel_rfl) rfl (fun g => by kernel_rfl))
     (goes_cons (goesK_off rfl (by decide) (by decide) (by kernel_rfl) (fun g => by kernel_rfl) rfl (fun g => by kernel_rfl))
     (goes_cons (goesK_off rfl (by decide) (by decide) (by kernel_rfl) (fun g => by kernel_rfl) rfl (fun g => by kernel_rfl))
     (goes_cons (goesK_off rfl (by decide) (by decide) (by kernel_rfl) (fun g => by kernel_rfl) rfl (fun g => by kernel_rfl))
     (goes_cons (goesK_off rfl (by decide) (by decide) (by kernel_rfl) (fun g => by kernel_rfl) rfl (fun g => by kernel_rfl))
     (goes_cons (goesK_off rfl (by decide) (by decide) (by kernel_rfl) (fun g => by kernel_rfl) rfl (fun g => by kernel_rfl))
     (goes_cons (goesK_off rfl (by decide) (by decide) (by kernel_rfl) (fun g => by kernel_rfl) rfl (fun g => by kernel_rfl))
     (goes_cons (goesK_pure (fun _ => .bool false) rfl (by decide) (by decide) (by kernel_rfl) (fun g => by kernel_rfl) rfl (fun g => by kernel_rfl) (fun g w => by kernel_rfl)) goes_nil)))))))))) (fun g => by kernel_rfl) (fun g w => by kernel_rfl) (fun g => by kernel_rfl) ?_
    intro g9 w6 hW _
    have hB6 := hB5.trans (hW.mono hB5.size)
    replace k0 := k0.below hW k0.lt
    replace j0 := j0.below hW j0.lt
    replace r1 := r1.below hW
    replace r2 := r2.below hW
    clear a0 a1 a2 a3 a4 a5 b0 b1 b2 b3 b4 b5
    obtain ⟨a0, a1, a2, a3, a4, a5⟩ := Blk.cells6 k0
    obtain ⟨b0, b1, b2, b3, b4, b5⟩ := Blk.cells6 j0
    rcases bool_two o16 with hz | hz <;> subst hz
    ·
     have hLM : (L == M) = false := beq_false_of_ne fun e => PN.out e
     have s1 := str_bs13 (n := n) (c := c1) HN.out r1
     have s2 := str_bs13 (n := m) (c := c2) HN2.out r2
     go_wp2_with fail
     go_ret
     exact ⟨rfl, hB6⟩
    ·
     by_cases h3 : typ = 3
     ·subst h3
      have hLM : (L == M) = false := beq_false_of_ne fun e => PN.out e
      have s1 := str_bs13 (n := n) (c := c1) HN.out r1
      have s2 := str_bs13 (n := m) (c := c2) HN2.out r2
      go_wp2_with fail
      go_ret
      exact ⟨rfl, hB6⟩
     ·have u3 : (typ == 3) = false := beq_false_of_ne h3
      have v3 : (typ != 3) = true := by rw [bne, u3]; rfl
      have hLM : (L == M) = false := beq_false_of_ne fun e => PN.out e
      have s1 := str_bs13 (n := n) (c := c1) HN.out r1
      have s2 := str_bs13 (n := m) (c := c2) HN2.out r2
      go_wp2_with fail
      go_ret
      exact ⟨rfl, hB6⟩
  ·
   have t0_ : (code == code') = false := beq_false_of_ne n0
   have PN : Hid (L ≠ M) := Lib.hid fun e => absurd (HP.out.1 e).1.1 n0
   clear HP
   go_upto_region 9 with (fail)
   have hst : ∀ f ∈ ([] : List Fact), f.ok := fun _ h => by cases h
   refine wp_region_put (w1 := w5) (K := []) (ix := 1000) (R0 := fun _ _ _ => True) (R1 := fun _ _ _ => True) rfl (by kernel_rfl) [] (⟨#[.int .u8 flags, .agg #[.int .i64 code, .int .i64 mods, .int .i64 typ, .int .i64 shift, .int .i64 base, .string text], .agg #[.int .i64 code', .int .i64 mods', .int .i64 typ', .int .i64 shift', .int .i64 base', .string text'], undef, .pointer (some ⟨w.heap.size, 0, none⟩), .pointer (some ⟨w.heap.size + 1, 0, none⟩), .bool false, .bool true, .int .i64 F, .slice A1 n c1, .slice A2 m c2, .bool false, .bool true, .agg #[.int .i64 code, .int .i64 mods, .int .i64 typ, .int .i64 shift, .int .i64 base, .string text], .bool true, .bool false, .bool false, .agg #[.int .i64 code', .int .i64 mods', .int .i64 typ', .int .i64 shift', .int .i64 base', .string text'], .bool true, .bool false, .bool false, undef, .int .u8 flags, .int .u8 (flags % 32), .int .i64 (flags % 32), .int .i64 F, .int .i64 F, .agg #[.int .i64 code, .int .i64 mods, .int .i64 typ, .int .i64 shift, .int .i64 base, .string text], .slice A1 n c1, .int .i64 F, .agg #[.int .i64 code', .int .i64 mods', .int .i64 typ', .int .i64 shift', .int .i64 base', .string text'], .slice A2 m c2, .pointer (some ⟨w.heap.size, 0, none⟩), .int .i64 code, .pointer (some ⟨w.heap.size + 1, 0, none⟩), .int .i64 code', .bool false, .bool false, undef, undef, undef, undef, undef, .bool false, .bool false, undef, undef, undef, undef, undef, .bool false, .int .i64 F, .int .i64 (wrap64 (F / 4)), .int .i64 (F / 4 % 2), .bool true, .bool false, .bool false, undef, undef, undef, undef, undef, undef, undef, .bool false, undef, undef, undef, undef, undef, undef, undef, undef, undef, undef, undef, undef, undef, undef, undef, undef, undef, undef, undef, undef, undef, undef, undef, undef, undef, undef, undef], []⟩) (fun g => ⟨#[.int .u8 flags, .agg #[.int .i64 code, .int .i64 mods, .int .i64 typ, .int .i64 shift, .int .i64 base, .string text], .agg #[.int .i64 code', .int .i64 mods', .int .i64 typ', .int .i64 shift', .int .i64 base', .string text'], undef, .pointer (some ⟨w.heap.size, 0, none⟩), .pointer (some ⟨w.heap.size + 1, 0, none⟩), .bool false, .bool true, .int .i64 F, .slice A1 n c1, .slice A2 m c2, .bool false, .bool true, .agg #[.int .i64 code, .int .i64 mods, .int .i64 typ, .int .i64 shift, .int .i64 base, .string text], .bool true, .bool false, .bool false, .agg #[.int .i64 code', .int .i64 mods', .int .i64 typ', .int .i64 shift', .int .i64 base', .string text'], .bool true, .bool false, .bool false, undef, .int .u8 flags, .int .u8 (flags % 32), .int .i64 (flags % 32), .int .i64 F, .int .i64 F, .agg #[.int .i64 code, .int .i64 mods, .int .i64 typ, .int .i64 shift, .int .i64 base, .string text], .slice A1 n c1, .int .i64 F, .agg #[.int .i64 code', .int .i64 mods', .int .i64 typ', .int .i64 shift', .int .i64 base', .string text'], .slice A2 m c2, .pointer (some ⟨w.heap.size, 0, none⟩), .int .i64 code, .pointer (some ⟨w.heap.size + 1, 0, none⟩), .int .i64 code', .bool false, .bool false, undef, undef, undef, undef, undef, .bool false, .bool false, undef, undef, undef, undef, undef, .bool false, .int .i64 F, .int .i64 (wrap64 (F / 4)), .int .i64 (F / 4 % 2), .bool true, .bool false, .bool false, undef, undef, undef, undef, undef, undef, undef, .bool false, undef, undef, undef, undef, undef, undef, undef, undef, undef, undef, undef, undef, undef, undef, undef, undef, undef, undef, undef, undef, undef, undef, undef, undef, undef, undef, undef], []⟩) (fun g => ⟨#[.int .u8 flags, .agg #[.int .i64 code, .int .i64 mods, .int .i64 typ, .int .i64 shift, .int .i64 base, .string text], .agg #[.int .i64 code', .int .i64 mods', .int .i64 typ', .int .i64 shift', .int .i64 base', .string text'], undef, .pointer (some ⟨w.heap.size, 0, none⟩), .pointer (some ⟨w.heap.size + 1, 0, none⟩), .bool false, .bool true, .int .i64 F, .slice A1 n c1, .slice A2 m c2, .bool false, .bool true, .agg #[.int .i64 code, .int .i64 mods, .int .i64 typ, .int .i64 shift, .int .i64 base, .string text], .bool true, .bool false, .bool false, .agg #[.int .i64 code', .int .i64 mods', .int .i64 typ', .int .i64 shift', .int .i64 base', .string text'], .bool true, .bool false, .bool false, undef, .int .u8 flags, .int .u8 (flags % 32), .int .i64 (flags % 32), .int .i64 F, .int .i64 F, .agg #[.int .i64 code, .int .i64 mods, .int .i64 typ, .int .i64 shift, .int .i64 base, .string text], .slice A1 n c1, .int .i64 F, .agg #[.int .i64 code', .int .i64 mods', .int .i64 typ', .int .i64 shift', .int .i64 base', .string text'], .slice A2 m c2, .pointer (some ⟨w.heap.size, 0, none⟩), .int .i64 code, .pointer (some ⟨w.heap.size + 1, 0, none⟩), .int .i64 code', .bool false, .bool false, undef, undef, undef, undef, undef, .bool false, .bool false, undef, undef, undef, undef, undef, .bool false, .int .i64 F, .int .i64 (wrap64 (F / 4)), .int .i64 (F / 4 % 2), .bool true, .bool false, .bool false, undef, undef, undef, undef, undef, undef, undef, .bool false, undef, undef, undef, undef, undef, undef, undef, undef, undef, undef, undef, undef, undef, undef, undef, undef, undef, undef, undef, undef, undef, undef, undef, undef, undef, undef, undef], []⟩) (fun _ => .bool false) [.bool false, .bool false, undef, undef, undef, undef, undef, undef, undef, .bool false] (by kernel_rfl) (by kernel_rfl) (by kernel_rfl) (by kernel_rfl) (fun g => by kernel_rfl) (by kernel_rfl) (Below.refl _ _).drew (by decide) (by kernel_rfl)
    (goes_cons (goesK_pure (fun _ => .bool false) rfl (by decide) (by decide) (by kernel_rfl) (fun g => by kernel_rfl) rfl (fun g => by kernel_rfl) (fun g w => by kernel_rfl))
    (goes_cons (goesK_pure (fun _ => .bool false) rfl (by decide) (by decide) (by kernel_rfl) (fun g => by kernel_rfl) rfl (fun g => by kernel_rfl) (fun g w => by kernel_rfl))
    (goes_cons (goesK_off rfl (by decide) (by decide) (by kernel_rfl) (fun g => by kernel_rfl) rfl (fun g => by kernel_rfl))
    (goes_cons (goesK_off rfl (by decide) (by decide) (by kernel_rfl) (fun g => by kernel_rfl) rfl (fun g => by kernel_rfl))
    (goes_cons (goesK_off rfl (by decide) (by decide) (by kernel_rfl) (fun g => by kernel_rfl) rfl (fun g => by kernel_rfl))
    (goes_cons (goesK_off rfl (by decide) (by decide) (by kernel_rfl) (fun g => by kernel_rfl) rfl (fun g => by kernel_rfl))
    (goes_cons (goesK_off rfl (by decide) (by decide) (by kernel_rfl) (fun g => by kernel_rfl) rfl (fun g => by kernel_rfl))
    (goes_cons (goesK_off rfl (by decide) (by decide) (by kernel_rfl) (fun g => by kernel_rfl) rfl (fun g => by kernel_rfl))
    (goes_cons (goesK_off rfl (by decide) (by decide) (by kernel_rfl) (fun g => by kernel_rfl) rfl (fun g => by kernel_rfl))
    (goes_cons (goesK_pure (fun _ => .bool false) rfl (by decide) (by decide) (by kernel_rfl) (fun g => by kernel_rfl) rfl (fun g => by kernel_rfl) (fun g w => by kernel_rfl)) goes_nil)))))))))) (fun g => by kernel_rfl) (fun g w => by kernel_rfl) (fun g => by kernel_rfl) ?_
   intro g9 w6 hW _
   have hB6 := hB5.trans (hW.mono hB5.size)
   replace k0 := k0.below hW k0.lt
   replace j0 := j0.below hW j0.lt
   replace r1 := r1.below hW
   replace r2 := r2.below hW
   clear a0 a1 a2 a3 a4 a5 b0 b1 b2 b3 b4 b5
   obtain ⟨a0, a1, a2, a3, a4, a5⟩ := Blk.cells6 k0
   obtain ⟨b0, b1, b2, b3, b4, b5⟩ := Blk.cells6 j0
   rcases bool_two o16 with hz | hz <;> subst hz
   ·
    have hLM : (L == M) = false := beq_false_of_ne fun e => PN.out e
    have s1 := str_bs13 (n := n) (c := c1) HN.out r1
    have s2 := str_bs13 (n := m) (c := c2) HN2.out r2
    go_wp2_with fail
    go_ret
    exact ⟨rfl, hB6⟩
   ·
    by_cases h3 : typ = 3
    ·subst h3
     have hLM : (L == M) = false := beq_false_of_ne fun e => PN.out e
     have s1 := str_bs13 (n := n) (c := c1) HN.out r1
     have s2 := str_bs13 (n := m) (c := c2) HN2.out r2
     go_wp2_with fail
     go_ret
     exact ⟨rfl, hB6⟩
    ·have u3 : (typ == 3) = false := beq_false_of_ne h3
     have v3 : (typ != 3) = true := by rw [bne, u3]; rfl
     have hLM : (L == M) = false := beq_false_of_ne fun e => PN.out e
     have s1 := str_bs13 (n := n) (c := c1) HN.out r1
     have s2 := str_bs13 (n := m) (c := c2) HN2.out r2
     go_wp2_with fail
     go_ret
     exact ⟨rfl, hB6⟩
theorem kittyApart_walk (H : KitC Inv) (flags : Int) (l0 : 0 ≤ flags) (l1 : flags ≤ 255) (k : Ky) (hk : okK k) (hs : k.text.size ≤ 4294967296) (j : Ky) (gk : okK j) (gs : j.text.size ≤ 4294967296) (w : World) (hv : Inv w) : Calls Tryd.prog 3 #[.int .u8 flags, kyV k, kyV j] w fun e w' => e = .returned (.bool true) ∧ Below w.heap.size w w' := by
 cases h : mayK k with
 | false => exact kittyApart_no H flags l0 l1 k hk hs j gk gs h w hv
 | true =>
   cases g : mayK j with
   | false => exact kittyApart_no2 H flags l0 l1 k hk hs j gk gs h g w hv
   | true => exact kittyApart_yes H flags l0 l1 k hk hs j gk gs h g w hv
end Go.Proofs.YtdfojkbgdoiglaaDoor
