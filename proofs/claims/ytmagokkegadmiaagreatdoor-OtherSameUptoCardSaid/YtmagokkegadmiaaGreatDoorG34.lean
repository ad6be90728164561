/-
  Stage 12, the landed other: a sequence of its numbers; its event. Stage 12, the landed other: Key.
-/
import Derived.Test.YtmagokkegadmiaaGreatDoorG10
import Derived.Test.YtmagokkegadmiaaGreatDoorG11
import Derived.Test.YtmagokkegadmiaaGreatDoorG15
import Derived.Test.YtmagokkegadmiaaGreatDoorG31
import Derived.Test.YtmagokkegadmiaaGreatDoorG33
import Derived.Deep.Cut
namespace Go.Proofs.YtmagokkegadmiaaGreatDoor
open Go.RowKit

set_option maxRecDepth 100000 in
set_option maxHeartbeats 8000000 in
theorem oseq_any (x y : Int) (A : Option Addr) (c : Nat) (w : World) (hr : Rd w A (is_ [x, y])) : Calls Tryz.prog 20 #[.slice A 2 c] w (NumQ 126 [27, x, y] 3 w) := by
  obtain ⟨i0, hi, hz0, hz1, hz2⟩ : ∃ i, Tryz.prog.info? 3 = some i ∧ i.zero = some (.int .i64 0) ∧ i.size = 1 ∧ i.bytes = 8 := ⟨_, rfl, rfl, rfl, rfl⟩
  have HN : Hid (∀ A c W, Rd W A (is_ [27, x, y]) → Calls Tryz.prog 45 #[.int .u8 0, .int .u8 126, .slice A 3 c] W (NumQN 126 [27, x, y] 3 W)) := Lib.hid fun A c W hr => lnum_anyN 126 (by omega) (by omega) [27, x, y] 3 rfl (by decide) A c W hr
  have hB0 := (Below.refl w.heap.size w).alloc (Nat.le_refl _) (.cells #[.int .i64 0, .int .u8 0, .slice none 0 0, .string ⟨#[]⟩, .int .u8 0, .string ⟨#[]⟩] 52)
  have z0 := (Blk.new w 52 #[.int .i64 0, .int .u8 0, .slice none 0 0, .string ⟨#[]⟩, .int .u8 0, .string ⟨#[]⟩]).alloc (.cells #[.int .i64 27] 3)
  have hB1 := hB0.alloc hB0.size (.cells #[.int .i64 27] 3)
  have o1 := own_lit ((w.alloc (.cells #[.int .i64 0, .int .u8 0, .slice none 0 0, .string ⟨#[]⟩, .int .u8 0, .string ⟨#[]⟩] 52)).alloc (.cells #[.int .i64 27] 3)) w.heap.size 3 (w.heap.size + 1) (.int .i64 27) (Nat.le_succ _) (by have := heap_alloc_new (w.alloc (.cells #[.int .i64 0, .int .u8 0, .slice none 0 0, .string ⟨#[]⟩, .int .u8 0, .string ⟨#[]⟩] 52)) (.cells #[.int .i64 27] 3); simpa using this)
  have r1 : Rd ((w.alloc (.cells #[.int .i64 0, .int .u8 0, .slice none 0 0, .string ⟨#[]⟩, .int .u8 0, .string ⟨#[]⟩] 52)).alloc (.cells #[.int .i64 27] 3)) A [.int .i64 x, .int .i64 y] := hr.below hB1
  have ps := hB1.size
  have p6 : 1 + 2 ≤ maxLen := by decide
  have p7 : (1 + 2) * 8 ≤ 140737488355328 := by decide
  have p8 : ∀ u ∈ [Value.int IntKind.i64 x, .int .i64 y], u.oneCell' = true := fun u hu => by
    simp only [List.mem_cons, List.not_mem_nil, or_false] at hu
    rcases hu with rfl | rfl <;> rfl
  clear hr hB0
  go_enter Tryz.func20, Tryz.ntmps20
  go_wp2_with (at_builtin; refine list_app _ rfl (.tmp 3) (.tmp 4) 56 rfl w.heap.size 3 i0 _ 1 8 Tryz.underlying56 hi hz0 hz1 hz2 rfl Nat.one_pos _ _ _ rfl o1 _ 2 _ [.int .i64 x, .int .i64 y] rfl rfl r1 p8 p6 p7 ps ?_; intro v4 w4 o4 hg)
  have hB4 := hB1.grown hg ps (fun g hg => (o1.lt g hg).1)
  have z4 := z0.grown hg (o1.no_cells z0 (by decide))
  obtain ⟨A4, c4, rfl, hr4⟩ := o4.form
  have hr4 : Rd w4 A4 (is_ [27, x, y]) := hr4
  refine (HN.out A4 c4 _ hr4).mono ?_
  rintro e w5 ⟨A5, c5, g5, rfl, hr5, hb5⟩
  have hB5 := hB4.trans (hb5.mono hB4.size)
  have z5 := z4.below hb5 z4.lt
  have hr6 := hr5.other z5 (by decide) (by decide) (grown_set6 w5 w.heap.size (.int .i64 1) (.int .u8 0) (.slice A5 3 c5) (.string ⟨#[]⟩) (.int .u8 126) (.string ⟨#[]⟩))
  have hB6 := below_set6 hB5 (Nat.le_refl w.heap.size) (.int .i64 1) (.int .u8 0) (.slice A5 3 c5) (.string ⟨#[]⟩) (.int .u8 126) (.string ⟨#[]⟩)
  obtain ⟨d0, d1, d2, d3, d4, d5⟩ := Blk.cells6 z5
  have y0 := z5.frozen 0
  have y1 := z5.frozen 1
  have y2 := z5.frozen 2
  have y3 := z5.frozen 3
  have y4 := z5.frozen 4
  have y5 := z5.frozen 5
  clear z0 z4 o1 o4 hr4 hB4 hb5 hB1 r1 hg hr5 HN
  go_wp2_with fail
  refine bodyPost_ret (v := .agg #[.int .i64 1, .int .u8 0, .slice A5 3 c5, .string ⟨#[]⟩, .int .u8 126, .string ⟨#[]⟩]) (by simp [results, Tryz.results20, go_sem, d0, d1, d2, d3, d4, d5]) rfl ⟨A5, c5, rfl, hr6.rdp, hB6⟩
/-- What an event tells, and whether it is told at all. -/
def EvG (q : Bool) (c : Int) (t : Bool) (o : Int) (w : World) (e : Ending) (w' : World) : Prop := ∃ c' t' o', e = .returned (.tuple #[evO c' t' o', .bool q]) ∧ (q = true → c' = c ∧ t' = t ∧ o' = o) ∧ Below w.heap.size w w'
theorem EvG.no {q : Bool} {c : Int} {t : Bool} {o : Int} {w w' : World} (hq : q = false) {c' : Int} {t' : Bool} {o' : Int} (hb : Below w.heap.size w w') : EvG q c t o w (.returned (.tuple #[.agg #[.int .i64 c', .bool t', .int .i64 o'], .bool false])) w' := by
  subst hq
  exact ⟨_, _, _, rfl, (fun h => by cases h), hb⟩
theorem EvG.yes {q : Bool} {c c' : Int} {t t' : Bool} {o : Int} {w w' : World} (hq : q = true) (hc : c = c') (ht : t = t') (hb : Below w.heap.size w w') : EvG q c t o w (.returned (.tuple #[.agg #[.int .i64 c', .bool t', .int .i64 o], .bool true])) w' := by
  subst hq hc ht
  exact ⟨_, _, _, rfl, (fun _ => ⟨rfl, rfl, rfl⟩), hb⟩
set_option maxRecDepth 100000 in
set_option maxHeartbeats 8000000 in
theorem eventOf_any (k : Ky) (hk : okK k) (hs : k.text.size ≤ 4294967296) (w : World) (hz : Siz w) (hR : Rws w) : Calls Tryz.prog 17 #[kyV k] w (EvG (evB k) (charK k) ((lookE k.code).kind == 1) (oldN k.mods) w) := by
  have HM : Hid (∀ W, Below w.heap.size w W → Calls Tryz.prog 37 #[kyV k] W fun e w' => e = .returned (.bool (mayK k)) ∧ Below W.heap.size W w') := Lib.hid fun W hW => pmods_may k hs W (hz.below' hW) (hR.below hW)
  have HO : Hid (∀ W, Calls Tryz.prog 30 #[.int .i64 k.mods] W fun e w' => e = .returned (.int .i64 (oldN k.mods)) ∧ Below W.heap.size W w') := Lib.hid fun W => pold_any k.mods W hk.mods
  have HL : Hid (∀ W, Below w.heap.size w W → Calls Tryz.prog 15 #[.int .i64 k.code] W fun e w' => e = .returned (enV (lookE k.code)) ∧ Below W.heap.size W w') := Lib.hid fun W hW => plook_any k.code W (hz.below' hW) (hR.below hW)
  have HS : Hid (∀ W, Calls Tryz.prog 38 #[kyV k] W fun e w' => e = .returned (.int .i64 (shownK k)) ∧ Below W.heap.size W w') := Lib.hid fun W => pshown_any k hk W
  obtain ⟨K, hK⟩ : ∃ K, (lookE k.code).kind = K := ⟨_, rfl⟩
  have hf : ∀ W : World, (Instr.field 37 (enV (lookE k.code)) 0).run Tryz.prog W = .ok (.int .i64 K) W := fun W => by
    rw [← hK]
    exact (by kernel_rfl : (Instr.field 37 (enV (lookE k.code)) 0).run Tryz.prog W = .ok (.int .i64 (lookE k.code).kind) W)
  obtain ⟨E, hE⟩ : ∃ E, enV (lookE k.code) = E := ⟨_, rfl⟩
  rw [hE] at HL hf
  obtain ⟨ov, hov⟩ : ∃ x, oldN k.mods = x := ⟨_, rfl⟩
  obtain ⟨sh, hsh⟩ : ∃ x, shownK k = x := ⟨_, rfl⟩
  obtain ⟨v, hv⟩ : ∃ x, mayK k = x := ⟨_, rfl⟩
  obtain ⟨t1, ht1⟩ : ∃ x, (K == 1) = x := ⟨_, rfl⟩
  obtain ⟨t2, ht2⟩ : ∃ x, (K == 2) = x := ⟨_, rfl⟩
  obtain ⟨t3, ht3⟩ : ∃ x, (k.typ == 3) = x := ⟨_, rfl⟩
  obtain ⟨x0, hx0⟩ : ∃ x, (ov != 0) = x := ⟨_, rfl⟩
  obtain ⟨x1, hx1⟩ : ∃ x, (ov != 1) = x := ⟨_, rfl⟩
  have HQ := Lib.hid (show evB k = (v && !t3 && if t1 = true then x0 && x1 else if t2 = true then x0 else false) by
    unfold evB
    rw [hv, hK, hov, bne, ht3, hx0, hx1, ← ht1, ← ht2]
    simp)
  have HC := Lib.hid (show charK k = if t1 = true then sh else k.code by
    unfold charK
    rw [hK, hsh, ← ht1]
    simp)
  rw [hov, hK]
  rw [hov] at HO
  rw [hsh] at HS
  rw [hv] at HM
  obtain ⟨q, hq⟩ : ∃ q, evB k = q := ⟨_, rfl⟩
  obtain ⟨ch, hch⟩ : ∃ c, charK k = c := ⟨_, rfl⟩
  rw [hq] at HQ ⊢
  rw [hch] at HC ⊢
  rw [ht1]
  clear hE hk hs hK hov hch hv hq hsh hz hR
  obtain ⟨code, mods, typ, shift, base, text⟩ := k
  simp only [kyV] at HM HO HL HS HC ht3 ⊢
  have k0 := (Blk.new w 25 #[.int .i64 code, .int .i64 mods, .int .i64 typ, .int .i64 shift, .int .i64 base, .string text]).alloc (.cells #[.int .i64 0, .bool false, .int .i64 0] 43)
  have z0 := Blk.new (w.alloc (.cells #[.int .i64 code, .int .i64 mods, .int .i64 typ, .int .i64 shift, .int .i64 base, .string text] 25)) 43 #[.int .i64 0, .bool false, .int .i64 0]
  rw [World.size_alloc] at z0
  have hB0 : Below w.heap.size w ((w.alloc (.cells #[.int .i64 code, .int .i64 mods, .int .i64 typ, .int .i64 shift, .int .i64 base, .string text] 25)).alloc (.cells #[.int .i64 0, .bool false, .int .i64 0] 43)) := ((Below.refl _ w).alloc (Nat.le_refl _) _).alloc (by simp) _
  go_enter Tryz.func17, Tryz.ntmps17
  go_wp2_with fail
  refine (HM.out _ hB0).mono ?_
  rintro e w1 ⟨rfl, hb1⟩
  have k1 := k0.below hb1 k0.lt
  have z1 := z0.below hb1 z0.lt
  have hB1 := hB0.trans (hb1.mono hB0.size)
  clear k0 z0 hB0 hb1 HM
  obtain ⟨a0, a1, a2, a3, a4, a5⟩ := Blk.cells6 k1
  cases v with
  | false =>
    have HQ := Lib.hid (show q = false from HQ.out)
    clear HC ht1 ht2 ht3 hx0 hx1
    obtain ⟨d0, d1, d2⟩ := And.intro (z1.cell 0) (And.intro (z1.cell 1) (z1.cell 2))
    have y0 := z1.frozen 0
    have y1 := z1.frozen 1
    have y2 := z1.frozen 2
    go_wp2_with fail
    refine bodyPost_ret (v := .tuple #[.agg #[.int .i64 0, .bool false, .int .i64 0], .bool false]) (by simp [results, Tryz.results17, go_sem, d0, d1, d2]) rfl (EvG.no HQ.out (below_set3 hB1 (Nat.le_succ _) _ _ _))
  | true =>
    cases t3 with
    | true =>
      have HQ := Lib.hid (show q = false from HQ.out)
      clear HC ht1 ht2 hx0 hx1
      obtain ⟨d0, d1, d2⟩ := And.intro (z1.cell 0) (And.intro (z1.cell 1) (z1.cell 2))
      have y0 := z1.frozen 0
      have y1 := z1.frozen 1
      have y2 := z1.frozen 2
      go_wp2_with fail
      refine bodyPost_ret (v := .tuple #[.agg #[.int .i64 0, .bool false, .int .i64 0], .bool false]) (by simp [results, Tryz.results17, go_sem, d0, d1, d2]) rfl (EvG.no HQ.out (below_set3 hB1 (Nat.le_succ _) _ _ _))
    | false =>
      have HQ := Lib.hid (show q = if t1 = true then x0 && x1 else if t2 = true then x0 else false from HQ.out)
      go_wp2_with fail
      refine (HO.out _).mono ?_
      rintro e w2 ⟨rfl, hb2⟩
      have k2 := k1.below hb2 k1.lt
      have z2 := z1.below hb2 z1.lt
      have hB2 := hB1.trans (hb2.mono hB1.size)
      clear k1 z1 hB1 hb2 HO a0 a1 a2 a3 a4 a5 ht3
      obtain ⟨a0, a1, a2, a3, a4, a5⟩ := Blk.cells6 k2
      go_wp2_with fail
      refine (HL.out _ hB2).mono ?_
      rintro e w3 ⟨rfl, hb3⟩
      have k3 := k2.below hb3 k2.lt
      have z3 := z2.below hb3 z2.lt
      have hB3 := hB2.trans (hb3.mono hB2.size)
      clear k2 z2 hB2 hb3 HL a0 a1 a2 a3 a4 a5
      obtain ⟨a0, a1, a2, a3, a4, a5⟩ := Blk.cells6 k3
      cases t1 with
      | true =>
        have HQ := Lib.hid (show q = (x0 && x1) from HQ.out)
        have HC := Lib.hid (show ch = sh from HC.out)
        clear ht2
        go_wp2_with fail
        refine (HS.out _).mono ?_
        rintro e w4 ⟨rfl, hb4⟩
        have z4 := z3.below hb4 z3.lt
        have hB4 := hB3.trans (hb4.mono hB3.size)
        clear k3 z3 hB3 hb4 HS a0 a1 a2 a3 a4 a5
        cases x0 with
        | false =>
          have HQ := Lib.hid (show q = false from HQ.out)
          clear hx1
          obtain ⟨d0, d1, d2⟩ := And.intro (z4.cell 0) (And.intro (z4.cell 1) (z4.cell 2))
          have y0 := z4.frozen 0
          have y1 := z4.frozen 1
          have y2 := z4.frozen 2
          go_wp2_with fail
          refine bodyPost_ret (v := .tuple #[.agg #[.int .i64 sh, .bool true, .int .i64 ov], .bool false]) (by simp [results, Tryz.results17, go_sem, d0, d1, d2]) rfl (EvG.no HQ.out (below_set3 hB4 (Nat.le_succ _) _ _ _))
        | true =>
          cases x1 with
          | false =>
            have HQ := Lib.hid (show q = false from HQ.out)
            obtain ⟨d0, d1, d2⟩ := And.intro (z4.cell 0) (And.intro (z4.cell 1) (z4.cell 2))
            have y0 := z4.frozen 0
            have y1 := z4.frozen 1
            have y2 := z4.frozen 2
            go_wp2_with fail
            refine bodyPost_ret (v := .tuple #[.agg #[.int .i64 sh, .bool true, .int .i64 ov], .bool false]) (by simp [results, Tryz.results17, go_sem, d0, d1, d2]) rfl (EvG.no HQ.out (below_set3 hB4 (Nat.le_succ _) _ _ _))
          | true =>
            have HQ := Lib.hid (show q = true from HQ.out)
            obtain ⟨d0, d1, d2⟩ := And.intro (z4.cell 0) (And.intro (z4.cell 1) (z4.cell 2))
            have y0 := z4.frozen 0
            have y1 := z4.frozen 1
            have y2 := z4.frozen 2
            go_wp2_with fail
            refine bodyPost_ret (v := .tuple #[.agg #[.int .i64 sh, .bool true, .int .i64 ov], .bool true]) (by simp [results, Tryz.results17, go_sem, d0, d1, d2]) rfl (EvG.yes HQ.out HC.out rfl (below_set3 hB4 (Nat.le_succ _) _ _ _))
      | false =>
        have HC := Lib.hid (show ch = code from HC.out)
        have HQ := Lib.hid (show q = if t2 = true then x0 else false from HQ.out)
        clear hx1 HS
        cases t2 with
        | true =>
          cases x0 with
          | false =>
            have HQ := Lib.hid (show q = false from HQ.out)
            obtain ⟨d0, d1, d2⟩ := And.intro (z3.cell 0) (And.intro (z3.cell 1) (z3.cell 2))
            have y0 := z3.frozen 0
            have y1 := z3.frozen 1
            have y2 := z3.frozen 2
            go_wp2_with fail
            refine bodyPost_ret (v := .tuple #[.agg #[.int .i64 code, .bool false, .int .i64 ov], .bool false]) (by simp [results, Tryz.results17, go_sem, d0, d1, d2]) rfl (EvG.no HQ.out (below_set3 hB3 (Nat.le_succ _) _ _ _))
          | true =>
            have HQ := Lib.hid (show q = true from HQ.out)
            obtain ⟨d0, d1, d2⟩ := And.intro (z3.cell 0) (And.intro (z3.cell 1) (z3.cell 2))
            have y0 := z3.frozen 0
            have y1 := z3.frozen 1
            have y2 := z3.frozen 2
            go_wp2_with fail
            refine bodyPost_ret (v := .tuple #[.agg #[.int .i64 code, .bool false, .int .i64 ov], .bool true]) (by simp [results, Tryz.results17, go_sem, d0, d1, d2]) rfl (EvG.yes HQ.out HC.out rfl (below_set3 hB3 (Nat.le_succ _) _ _ _))
        | false =>
          have HQ := Lib.hid (show q = false from HQ.out)
          clear hx0
          obtain ⟨d0, d1, d2⟩ := And.intro (z3.cell 0) (And.intro (z3.cell 1) (z3.cell 2))
          have y0 := z3.frozen 0
          have y1 := z3.frozen 1
          have y2 := z3.frozen 2
          go_wp2_with fail
          refine bodyPost_ret (v := .tuple #[.agg #[.int .i64 0, .bool false, .int .i64 0], .bool false]) (by simp [results, Tryz.results17, go_sem, d0, d1, d2]) rfl (EvG.no HQ.out (below_set3 hB3 (Nat.le_succ _) _ _ _))
end Go.Proofs.YtmagokkegadmiaaGreatDoor
namespace Go.Proofs.YtmagokkegadmiaaGreatDoor
open Go.RowKit

/-- What later calls ask of the world. -/
def Inv12 (w : World) : Prop := Siz w ∧ Rws w ∧ Tab w
theorem Inv12.below {w w' : World} (h : Inv12 w) (hb : Below w.heap.size w w') : Inv12 w' := ⟨h.1.below' hb, h.2.1.below hb, h.2.2.below hb⟩
/-- Two numbers, as a row that a literal made. -/
def FTwo (p c : Int) (v : Value) (w : World) : Prop := ∃ b, v = .slice (some ⟨b, 0, none⟩) 2 2 ∧ Rd w (some ⟨b, 0, none⟩) (is_ [p, c])
def NQV (A : Option Addr) (d : Nat) : Value := .agg #[.int .i64 1, .int .u8 0, .slice A 3 d, .string ⟨#[]⟩, .int .u8 126, .string ⟨#[]⟩]
/-- Their sequence. -/
def FSeq (p c : Int) (v : Value) (w : World) : Prop := ∃ A d, v = NQV A d ∧ RdP w A ([27, p, c].map fun n => [n])
/-- Its bytes, and that it may be. -/
def FPut (L : List UInt8) (n : Nat) (v : Value) (w : World) : Prop := ∃ A d, v = .tuple #[.slice A n d, .int .i64 0] ∧ n ≤ d ∧ Rd w A (bs L)
def FByt (L : List UInt8) (n : Nat) (v : Value) (w : World) : Prop := ∃ A d, v = .slice A n d ∧ n ≤ d ∧ Rd w A (bs L)
theorem ftwo_ok (i : Nat) (d : Tmp) (p c : Int) : (⟨i, d, FTwo p c⟩ : Fact).ok := fun _ _ _ ⟨b, e, h⟩ hb => ⟨b, e, h.below hb⟩
theorem fseq_ok (i : Nat) (d : Tmp) (p c : Int) : (⟨i, d, FSeq p c⟩ : Fact).ok := fun _ _ _ ⟨A, d, e, h⟩ hb => ⟨A, d, e, h.below hb⟩
theorem fput_ok (i : Nat) (d : Tmp) (L : List UInt8) (n : Nat) : (⟨i, d, FPut L n⟩ : Fact).ok := fun _ _ _ ⟨A, d, e, h1, h⟩ hb => ⟨A, d, e, h1, h.below hb⟩
theorem fbyt_ok (i : Nat) (d : Tmp) (L : List UInt8) (n : Nat) : (⟨i, d, FByt L n⟩ : Fact).ok := fun _ _ _ ⟨A, d, e, h1, h⟩ hb => ⟨A, d, e, h1, h.below hb⟩
theorem two_made {ev : Operand → Value} {o : Oper} {x y : Operand} {a b : Int} (ho : o.op = .buildSlice 56 2 #[(0, x), (1, y)]) (hx : ev x = .int .i64 a) (hy : ev y = .int .i64 b) (w : World) :
    ∃ v w', (execOp ev o).run Tryz.prog w = .ok (.value v) w' ∧ FTwo a b v w' ∧ Below w.heap.size w w' := by
  refine ⟨.slice (some ⟨w.heap.size, 0, none⟩) 2 2, w.alloc (.cells #[.int .i64 a, .int .i64 b] 3), ?_, ⟨_, rfl, Rd.block (heap_alloc_new w _) rfl⟩, (Below.refl _ _).alloc (Nat.le_refl _) _⟩
  unfold execOp
  simp only [ho]
  rw [show Array.map (fun x => (x.fst, ev x.snd)) #[(0, x), (1, y)] = #[(0, .int .i64 a), (1, .int .i64 b)] by simp [hx, hy]]
  kernel_rfl
theorem ftwo_seq {p c : Int} {v : Value} {W : World} (h : FTwo p c v W) : Calls Tryz.prog 20 #[v] W fun e w' => ∃ u, e = .returned u ∧ FSeq p c u w' ∧ Below W.heap.size W w' := by
  obtain ⟨b, rfl, hr⟩ := h
  exact (oseq_any p c _ 2 W hr).mono fun e w' ⟨A, d, he, hr', hb⟩ => ⟨_, he, ⟨A, d, rfl, hr'⟩, hb⟩
theorem fseq_put {p c : Int} {L : List UInt8} {n : Nat} (hL : putS (sqN 1 126 [27, p, c]) = L) (hn : L.length = n) (hm : mayS (sqN 1 126 [27, p, c]) = 0) {v : Value} {W : World} (ht : Tab W) (h : FSeq p c v W) : Calls Tryz.prog 19 #[v] W fun e w' => ∃ u, e = .returned u ∧ FPut L n u w' ∧ Below W.heap.size W w' := by
  obtain ⟨A, d, rfl, hr⟩ := h
  have := pput_yes (sqN 1 126 [27, p, c]) A d W hm ht hr
  rw [sqn_v (n := 3) rfl (by decide) (by decide), hL] at this
  subst hn
  exact this.mono fun e w' ⟨⟨B, x, he, hx, hr'⟩, hb⟩ => ⟨_, he, ⟨B, x, rfl, hx, hr'⟩, hb⟩
theorem ext_0 {ev : Operand → Value} {o : Oper} {x : Operand} {a b : Value} (ho : o.op = .extract x 0) (hx : ev x = .tuple #[a, b]) (w : World) : (execOp ev o).run Tryz.prog w = .ok (.value a) w := by
  unfold execOp
  simp only [ho, hx]
  rfl
theorem ext_1 {ev : Operand → Value} {o : Oper} {x : Operand} {a b : Value} (ho : o.op = .extract x 1) (hx : ev x = .tuple #[a, b]) (w : World) : (execOp ev o).run Tryz.prog w = .ok (.value b) w := by
  unfold execOp
  simp only [ho, hx]
  rfl
theorem ev_rng {k : Ky} (h : evB k = true) : 0 ≤ charK k ∧ charK k ≤ 1114111 ∧ 1 ≤ oldN k.mods ∧ oldN k.mods < 8 := by
  unfold evB at h
  simp only [Bool.and_eq_true, bne_iff_ne] at h
  obtain ⟨⟨hm, _⟩, h⟩ := h
  have ho := old_rng k.mods
  by_cases h1 : (lookE k.code).kind = 1
  · rw [if_pos h1] at h
    simp only [Bool.and_eq_true, bne_iff_ne] at h
    have := char_rng hm (.inl h1)
    omega
  · rw [if_neg h1] at h
    by_cases h2 : (lookE k.code).kind = 2
    · rw [if_pos h2] at h
      simp only [bne_iff_ne] at h
      have := char_rng hm (.inr h2)
      omega
    · rw [if_neg h2] at h
      cases h
theorem outc_no {L : List UInt8} {n : Nat} {q : Bool} (hq : q = false) (hL : L = []) (hn : L.length = n) {w w' : World} (hb : Below w.heap.size w w') : OutC L n q w (.returned (.tuple #[.slice none 0 0, .bool false])) w' := by
  subst hq hL hn
  exact ⟨none, 0, rfl, Nat.le_refl _, Rd.nil _ _, hb⟩
set_option maxRecDepth 100000 in
set_option maxHeartbeats 8000000 in
theorem okey_any (m : Mo) (k : Ky) (hk : okK k) (hs : k.text.size ≤ 4294967296) (w : World) (hv : Inv12 w) : Calls Tryz.prog 9 #[moV m, kyV k] w (OutC (othL m.other k) (othL m.other k).length (isO m.other k) w) := by
  have HE : Hid (∀ W, Below w.heap.size w W → Calls Tryz.prog 17 #[kyV k] W (EvG (evB k) (charK k) ((lookE k.code).kind == 1) (oldN k.mods) W)) := Lib.hid fun W hW => eventOf_any k hk hs W (hv.below hW).1 (hv.below hW).2.1
  have HV := Lib.hid hv
  have HR := Lib.hid (fun h : evB k = true => ev_rng h)
  have HI := Lib.hid (isO_told m.other k)
  have HO := Lib.hid (fun h : isO m.other k = true => othL_yes h)
  have HX := Lib.hid (fun h : isO m.other k = false => othL_no h)
  obtain ⟨L, hL⟩ : ∃ L, othL m.other k = L := ⟨_, rfl⟩
  obtain ⟨n, hn⟩ : ∃ n, L.length = n := ⟨_, rfl⟩
  obtain ⟨r, hr⟩ : ∃ r, isO m.other k = r := ⟨_, rfl⟩
  obtain ⟨q, hq⟩ : ∃ q, evB k = q := ⟨_, rfl⟩
  obtain ⟨c, hc⟩ : ∃ c, charK k = c := ⟨_, rfl⟩
  obtain ⟨t, ht⟩ : ∃ t, ((lookE k.code).kind == 1) = t := ⟨_, rfl⟩
  obtain ⟨o, ho⟩ : ∃ o, oldN k.mods = o := ⟨_, rfl⟩
  rw [hq, hc, ht, ho] at HE HI
  rw [hq, hc, ho] at HR
  rw [hr] at HI HO HX
  rw [hL] at HO HX
  rw [hc, ho] at HO
  rw [hL, hn, hr]
  have HN := Lib.hid hn
  clear hL hn hr hq hc ht ho hk hs hv
  obtain ⟨code, mods, typ, shift, base, text⟩ := k
  obtain ⟨m0, m1, m2, m3, m4, m5, m6, m7, m8, m9⟩ := m
  simp only [moV, kyV] at HE HI ⊢
  have hB0 : Below w.heap.size w ((w.alloc (.cells #[.bool m0, .bool m1, .bool m2, .bool m3, .bool m4, .bool m5, .bool m6, .int .i64 m7, .int .i64 m8, .int .i64 m9] 23)).alloc (.cells #[.int .i64 code, .int .i64 mods, .int .i64 typ, .int .i64 shift, .int .i64 base, .string text] 25)) := ((Below.refl _ w).alloc (Nat.le_refl _) _).alloc (by simp) _
  have a0 := (Blk.new w 23 #[.bool m0, .bool m1, .bool m2, .bool m3, .bool m4, .bool m5, .bool m6, .int .i64 m7, .int .i64 m8, .int .i64 m9]).alloc (.cells #[.int .i64 code, .int .i64 mods, .int .i64 typ, .int .i64 shift, .int .i64 base, .string text] 25)
  have b0 := Blk.new (w.alloc (.cells #[.bool m0, .bool m1, .bool m2, .bool m3, .bool m4, .bool m5, .bool m6, .int .i64 m7, .int .i64 m8, .int .i64 m9] 23)) 25 #[.int .i64 code, .int .i64 mods, .int .i64 typ, .int .i64 shift, .int .i64 base, .string text]
  rw [World.size_alloc] at b0
  obtain ⟨c0, c1, c2, c3, c4, c5⟩ := Blk.cells6 b0
  go_enter Tryz.func9, Tryz.ntmps9
  go_wp2_with fail
  refine (HE.out _ hB0).mono ?_
  rintro e w1 ⟨c', t', o', rfl, hev, hb1⟩
  have a1 := (a0.below hb1 a0.lt).alloc (.cells #[.int .i64 c', .bool t', .int .i64 o'] 43)
  have z1 := Blk.new w1 43 #[.int .i64 c', .bool t', .int .i64 o']
  have hB1 := hB0.trans (hb1.mono hB0.size)
  have hB2 := hB1.alloc hB1.size (.cells #[.int .i64 c', .bool t', .int .i64 o'] 43)
  have HEV := Lib.hid hev
  clear a0 b0 hB0 hb1 hev HE c0 c1 c2 c3 c4 c5
  unfold evO
  cases q with
  | false =>
    have HQ := Lib.hid (show r = false from HI.out)
    have HX := Lib.hid (HX.out HQ.out)
    go_wp2_with fail
    refine bodyPost_ret (v := .tuple #[.slice none 0 0, .bool false]) (by simp [results, Tryz.results9, go_sem]) rfl (outc_no HQ.out HX.out HN.out hB2)
  | true =>
    obtain ⟨rfl, rfl, rfl⟩ := HEV.out rfl
    obtain ⟨g0, g1, g2, g3⟩ := HR.out rfl
    clear HR HEV
    have HTO : Hid (∀ W, Calls Tryz.prog 18 #[.int .i64 m9, .agg #[.int .i64 c', .bool t', .int .i64 o']] W fun e w' => e = .returned (.bool r) ∧ Below W.heap.size W w') := Lib.hid fun W => by
      rw [HI.out, Bool.true_and]
      exact told_any m9 c' t' o' ⟨by omega, by omega⟩ (by omega) (by omega) W
    have a9 := a1.cell 9
    go_wp2_with fail
    refine (HTO.out _).mono ?_
    rintro e w2 ⟨rfl, hb2⟩
    have z2 := z1.below hb2 z1.lt
    have hB3 := hB2.trans (hb2.mono hB2.size)
    clear a1 z1 hB1 hB2 hb2 a9 HTO HI
    cases r with
    | false =>
      have HX2 := Lib.hid (HX.out rfl)
      clear HO HX
      go_wp2_with fail
      refine bodyPost_ret (v := .tuple #[.slice none 0 0, .bool false]) (by simp [results, Tryz.results9, go_sem]) rfl (outc_no rfl HX2.out HN.out hB3)
    | true =>
      obtain ⟨p, hp⟩ : ∃ p, 1 + o' = p := ⟨_, rfl⟩
      have hmay := oth_may (p := p) (c := c') (by omega) (by omega) (by omega) (by omega)
      have HL := Lib.hid (show putS (sqN 1 126 [27, p, c']) = L by
        rw [HO.out rfl, hp, othB, seqB_is hmay])
      have HM := Lib.hid hmay
      have HPR : Hid (∀ W, Calls Tryz.prog 21 #[.int .i64 o'] W fun e w' => e = .returned (.int .i64 p) ∧ Below W.heap.size W w') := Lib.hid fun W => by
        have := pparam_any o' W
        rwa [show paramN o' = p by unfold paramN; rw [if_neg (by omega)]; omega] at this
      have HT : Hid (∀ W, Below w2.heap.size w2 W → Tab W) := Lib.hid fun W hW => (HV.out.below (hB3.trans (hW.mono hB3.size))).2.2
      clear hmay hp g0 g1 g2 g3 HO HX HV
      have le : ∀ W, Below w2.heap.size w2 W → Blk W w1.heap.size 43 #[.int .i64 c', .bool t', .int .i64 o'] := fun W hW => z2.below hW z2.lt
      have hst : ∀ f ∈ ([⟨5, 30, FTwo p c'⟩, ⟨6, 31, FSeq p c'⟩, ⟨7, 32, FPut L n⟩, ⟨8, 24, FPut L n⟩, ⟨9, 33, FByt L n⟩, ⟨11, 8, FByt L n⟩] : List Fact), f.ok := List.forall_mem_cons.2 ⟨ftwo_ok _ _ _ _, List.forall_mem_cons.2 ⟨fseq_ok _ _ _ _, List.forall_mem_cons.2 ⟨fput_ok _ _ _ _, List.forall_mem_cons.2 ⟨fput_ok _ _ _ _, List.forall_mem_cons.2 ⟨fbyt_ok _ _ _ _, List.forall_mem_cons.2 ⟨fbyt_ok _ _ _ _, fun _ h => by cases h⟩⟩⟩⟩⟩⟩
      go_wp2_with fail
      refine wp_region_told (w1 := w2) (K := [⟨5, 30, FTwo p c'⟩, ⟨6, 31, FSeq p c'⟩, ⟨7, 32, FPut L n⟩, ⟨8, 24, FPut L n⟩, ⟨9, 33, FByt L n⟩, ⟨11, 8, FByt L n⟩]) (ix := 1000) (R0 := fun _ _ _ => True) (R1 := fun _ _ _ => True) [30, 31, 32, 24, 33, 8] (⟨#[.agg #[.bool m0, .bool m1, .bool m2, .bool m3, .bool m4, .bool m5, .bool m6, .int .i64 m7, .int .i64 m8, .int .i64 m9], .agg #[.int .i64 code, .int .i64 mods, .int .i64 typ, .int .i64 shift, .int .i64 base, .string text], .pointer (some ⟨w.heap.size, 0, none⟩), .pointer (some ⟨w.heap.size + 1, 0, none⟩), .slice none 0 0, .bool false, .pointer (some ⟨w1.heap.size, 0, none⟩), .bool true, undef, .int .i64 0, .tuple #[.agg #[.int .i64 c', .bool t', .int .i64 o'], .bool true], .agg #[.int .i64 code, .int .i64 mods, .int .i64 typ, .int .i64 shift, .int .i64 base, .string text], .tuple #[.agg #[.int .i64 c', .bool t', .int .i64 o'], .bool true], .agg #[.int .i64 c', .bool t', .int .i64 o'], .bool true, .bool true, .bool false, .bool false, .pointer (some ⟨w.heap.size, 9, none⟩), .int .i64 m9, .agg #[.int .i64 c', .bool t', .int .i64 o'], .bool true, .bool false, .bool false, undef, .pointer (some ⟨w1.heap.size, 2, none⟩), .int .i64 o', .int .i64 p, .pointer (some ⟨w1.heap.size, 0, none⟩), .int .i64 c', undef, undef, undef, undef, .int .i64 0, undef, undef, undef], []⟩) (fun g => ⟨#[.agg #[.bool m0, .bool m1, .bool m2, .bool m3, .bool m4, .bool m5, .bool m6, .int .i64 m7, .int .i64 m8, .int .i64 m9], .agg #[.int .i64 code, .int .i64 mods, .int .i64 typ, .int .i64 shift, .int .i64 base, .string text], .pointer (some ⟨w.heap.size, 0, none⟩), .pointer (some ⟨w.heap.size + 1, 0, none⟩), .slice none 0 0, .bool false, .pointer (some ⟨w1.heap.size, 0, none⟩), .bool true, (g 8), .int .i64 0, .tuple #[.agg #[.int .i64 c', .bool t', .int .i64 o'], .bool true], .agg #[.int .i64 code, .int .i64 mods, .int .i64 typ, .int .i64 shift, .int .i64 base, .string text], .tuple #[.agg #[.int .i64 c', .bool t', .int .i64 o'], .bool true], .agg #[.int .i64 c', .bool t', .int .i64 o'], .bool true, .bool true, .bool false, .bool false, .pointer (some ⟨w.heap.size, 9, none⟩), .int .i64 m9, .agg #[.int .i64 c', .bool t', .int .i64 o'], .bool true, .bool false, .bool false, (g 24), .pointer (some ⟨w1.heap.size, 2, none⟩), .int .i64 o', .int .i64 p, .pointer (some ⟨w1.heap.size, 0, none⟩), .int .i64 c', (g 30), (g 31), (g 32), (g 33), .int .i64 0, undef, undef, undef], []⟩) [.pointer (some ⟨w1.heap.size, 2, none⟩), .int .i64 o', .int .i64 p, .pointer (some ⟨w1.heap.size, 0, none⟩), .int .i64 c', undef, undef, undef, undef, undef, .int .i64 0, undef, .int .i64 0] (by kernel_rfl) (by kernel_rfl) (by kernel_rfl) (fun g => by kernel_rfl) (by kernel_rfl) (Below.refl _ _).drew (by decide) (by kernel_rfl)
        (goes_cons (goesK_pure (fun _ => .pointer (some ⟨w1.heap.size, 2, none⟩)) rfl (by decide) (by decide) (by kernel_rfl) (fun g => by kernel_rfl) rfl (fun g => by kernel_rfl) (fun g w => by kernel_rfl)) 
        (goes_cons (goesK_cell hst (ahead_none (by decide)) rfl (by decide) (by decide) (by kernel_rfl) (fun g => by kernel_rfl) rfl (fun g => by kernel_rfl) rfl (fun g => by kernel_rfl) (fun W hW => (le W hW).cell 2) (fun w => by kernel_rfl)) 
        (goes_cons (goesK_call (args := fun g => #[.int .i64 o']) hst (ahead_none (by decide)) rfl (by decide) (by decide) (by kernel_rfl) (fun g => by kernel_rfl) rfl (fun g => by kernel_rfl) (fun g w => by kernel_rfl) (fun g W hW hin => HPR.out W)) 
        (goes_cons (goesK_pure (fun _ => .pointer (some ⟨w1.heap.size, 0, none⟩)) rfl (by decide) (by decide) (by kernel_rfl) (fun g => by kernel_rfl) rfl (fun g => by kernel_rfl) (fun g w => by kernel_rfl)) 
        (goes_cons (goesK_cell hst (ahead_none (by decide)) rfl (by decide) (by decide) (by kernel_rfl) (fun g => by kernel_rfl) rfl (fun g => by kernel_rfl) rfl (fun g => by kernel_rfl) (fun W hW => (le W hW).cell 0) (fun w => by kernel_rfl)) 
        (goes_cons (goesK_any hst (ahead_none (by decide)) rfl (by decide) (by decide) 0 rfl (by kernel_rfl) (fun g => by kernel_rfl) rfl (fun g => by kernel_rfl) (fun g W hW hin => two_made rfl rfl rfl W)) 
        (goes_cons (goesK_ghost (args := fun g => #[g 30]) hst (ahead_none (by decide)) rfl (by decide) (by decide) 1 rfl (by kernel_rfl) (fun g => by kernel_rfl) rfl (fun g => by kernel_rfl) (fun g w => by kernel_rfl) (fun g W hW hin => ftwo_seq (hin 0 _ rfl (by kernel_rfl)))) 
        (goes_cons (goesK_ghost (args := fun g => #[g 31]) hst (ahead_none (by decide)) rfl (by decide) (by decide) 2 rfl (by kernel_rfl) (fun g => by kernel_rfl) rfl (fun g => by kernel_rfl) (fun g w => by kernel_rfl) (fun g W hW hin => fseq_put HL.out HN.out HM.out (HT.out W hW) (hin 1 _ rfl (by kernel_rfl)))) 
        (goes_cons (goesK_name (p' := 2) hst (ahead_none (by decide)) rfl (by decide) (by decide) 3 rfl rfl (by kernel_rfl) (by kernel_rfl) (fun g => by kernel_rfl) rfl (fun g => by kernel_rfl) (fun g w => by kernel_rfl)) 
        (goes_cons (goesK_any hst (ahead_none (by decide)) rfl (by decide) (by decide) 4 rfl (by kernel_rfl) (fun g => by kernel_rfl) rfl (fun g => by kernel_rfl) (fun g W hW hin => by obtain ⟨A, d, hv, hn, hr⟩ := hin 3 _ rfl (by kernel_rfl); exact ⟨_, W, ext_0 rfl hv W, ⟨A, d, rfl, hn, hr⟩, Below.refl _ _⟩)) 
        (goes_cons (goesK_know (.int .i64 0) hst (ahead_none (by decide)) rfl (by decide) (by decide) (by kernel_rfl) (fun g => by kernel_rfl) rfl (fun g => by kernel_rfl) (fun g w hW hin => by obtain ⟨A, d, hv, hn, hr⟩ := hin 3 _ rfl (by kernel_rfl); exact ext_1 rfl hv w)) 
        (goes_cons (goesK_name (p' := 4) hst (ahead_none (by decide)) rfl (by decide) (by decide) 5 rfl rfl (by kernel_rfl) (by kernel_rfl) (fun g => by kernel_rfl) rfl (fun g => by kernel_rfl) (fun g w => by kernel_rfl)) 
        (goes_cons (goesK_pure (fun _ => .int .i64 0) rfl (by decide) (by decide) (by kernel_rfl) (fun g => by kernel_rfl) rfl (fun g => by kernel_rfl) (fun g w => by kernel_rfl)) goes_nil))))))))))))) ?_
      intro g W hW hK
      obtain ⟨A, d, h8, hn, hr⟩ := hK 5 _ rfl
      have hB4 := hB3.trans (hW.mono hB3.size)
      have h8 : (g 8 : Value) = .slice A n d := h8
      simp only [h8]
      generalize g 24 = v24
      generalize g 30 = v30
      generalize g 31 = v31
      generalize g 32 = v32
      generalize g 33 = v33
      clear hK le hst h8
      go_wp2_with fail
      refine bodyPost_ret (v := .tuple #[.slice A n d, .bool true]) (by simp [results, Tryz.results9, go_sem]) rfl ⟨A, d, rfl, hn, hr, hB4⟩
end Go.Proofs.YtmagokkegadmiaaGreatDoor
