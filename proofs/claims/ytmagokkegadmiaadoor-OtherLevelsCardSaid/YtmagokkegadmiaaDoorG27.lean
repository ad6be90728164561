/-
  Stage 12, the landed other: a sequence of its numbers; its event. Layer 3, walked: the program's taker: params.
-/
import Derived.Test.YtmagokkegadmiaaDoorG18
import Derived.Test.YtmagokkegadmiaaDoorG24
import Derived.Test.YtmagokkegadmiaaDoorG26
import Derived.Deep.Cut
namespace Go.Proofs.YtmagokkegadmiaaDoor
open Go.RowKit

set_option maxRecDepth 100000 in
set_option maxHeartbeats 8000000 in
theorem oseq_any (x y : Int) (A : Option Addr) (c : Nat) (w : World) (hr : Rd w A (is_ [x, y])) : Calls Tryd.prog 10 #[.slice A 2 c] w (NumQ 126 [27, x, y] 3 w) := by
  obtain ⟨i0, hi, hz0, hz1, hz2⟩ : ∃ i, Tryd.prog.info? 3 = some i ∧ i.zero = some (.int .i64 0) ∧ i.size = 1 ∧ i.bytes = 8 := ⟨_, rfl, rfl, rfl, rfl⟩
  have HN : Hid (∀ A c W, Rd W A (is_ [27, x, y]) → Calls Tryd.prog 26 #[.int .u8 0, .int .u8 126, .slice A 3 c] W (NumQN 126 [27, x, y] 3 W)) := Lib.hid fun A c W hr => lnum_anyN 126 (by omega) (by omega) [27, x, y] 3 rfl (by decide) A c W hr
  have hB0 := (Below.refl w.heap.size w).alloc (Nat.le_refl _) (.cells #[.int .i64 0, .int .u8 0, .slice none 0 0, .string ⟨#[]⟩, .int .u8 0, .string ⟨#[]⟩] 43)
  have z0 := (Blk.new w 43 #[.int .i64 0, .int .u8 0, .slice none 0 0, .string ⟨#[]⟩, .int .u8 0, .string ⟨#[]⟩]).alloc (.cells #[.int .i64 27] 3)
  have hB1 := hB0.alloc hB0.size (.cells #[.int .i64 27] 3)
  have o1 := own_lit ((w.alloc (.cells #[.int .i64 0, .int .u8 0, .slice none 0 0, .string ⟨#[]⟩, .int .u8 0, .string ⟨#[]⟩] 43)).alloc (.cells #[.int .i64 27] 3)) w.heap.size 3 (w.heap.size + 1) (.int .i64 27) (Nat.le_succ _) (by have := heap_alloc_new (w.alloc (.cells #[.int .i64 0, .int .u8 0, .slice none 0 0, .string ⟨#[]⟩, .int .u8 0, .string ⟨#[]⟩] 43)) (.cells #[.int .i64 27] 3); simpa using this)
  have r1 : Rd ((w.alloc (.cells #[.int .i64 0, .int .u8 0, .slice none 0 0, .string ⟨#[]⟩, .int .u8 0, .string ⟨#[]⟩] 43)).alloc (.cells #[.int .i64 27] 3)) A [.int .i64 x, .int .i64 y] := hr.below hB1
  have ps := hB1.size
  have p6 : 1 + 2 ≤ maxLen := by decide
  have p7 : (1 + 2) * 8 ≤ 140737488355328 := by decide
  have p8 : ∀ u ∈ [Value.int IntKind.i64 x, .int .i64 y], u.oneCell' = true := fun u hu => by
    simp only [List.mem_cons, List.not_mem_nil, or_false] at hu
    rcases hu with rfl | rfl <;> rfl
  clear hr hB0
  go_enter Tryd.func10, Tryd.ntmps10
  go_wp2_with (at_builtin; refine list_app _ rfl (.tmp 3) (.tmp 4) 68 rfl w.heap.size 3 i0 _ 1 8 Tryd.underlying68 hi hz0 hz1 hz2 rfl Nat.one_pos _ _ _ rfl o1 _ 2 _ [.int .i64 x, .int .i64 y] rfl rfl r1 p8 p6 p7 ps ?_; intro v4 w4 o4 hg)
  have hB4 := hB1.grown hg ps (fun g hg => (o1.lt g hg).1)
  have z4 := z0.grown hg (o1.no_cells z0 (by decide))
  obtain ⟨A4, c4, rfl, hr4⟩ := o4.form
  have hr4 : Rd w4 A4 (is_ [27, x, y]) := hr4
  refine (HN.out A4 c4 _ hr4).mono ?_
  rintro e w5 ⟨A5, c5, g5, rfl, hr5, hb5⟩
  have hB5 := hB4.trans (hb5.mono hB4.size)
  have z5 := z4.below hb5 z4.lt
  have hr6 := hr5.other z5 (by decide) (by decide) (grown_set6 w5 w.heap.size (.int .i64 1) (.int .u8 0) (.slice A5 3 c5) (.string ⟨#[]⟩) (.int .u8 126) (.string ⟨#[]⟩))
  have hB6 := below_set6 hB5 (Nat.le_refl w.heap.size) (.int .i64 1) (.int .u8 0) (.slice A5 3 c5) (.string ⟨#[]⟩) (.int .u8 126) (.string ⟨#[]⟩)
  obtain ⟨d0, d1, d2, d3, d4, d5⟩ := Blk.cells6 z5
  have y0 := z5.frozen 0
  have y1 := z5.frozen 1
  have y2 := z5.frozen 2
  have y3 := z5.frozen 3
  have y4 := z5.frozen 4
  have y5 := z5.frozen 5
  clear z0 z4 o1 o4 hr4 hB4 hb5 hB1 r1 hg hr5 HN
  go_wp2_with fail
  refine bodyPost_ret (v := .agg #[.int .i64 1, .int .u8 0, .slice A5 3 c5, .string ⟨#[]⟩, .int .u8 126, .string ⟨#[]⟩]) (by simp [results, Tryd.results10, go_sem, d0, d1, d2, d3, d4, d5]) rfl ⟨A5, c5, rfl, hr6.rdp, hB6⟩
/-- What an event tells, and whether it is told at all. -/
def EvG (q : Bool) (c : Int) (t : Bool) (o : Int) (w : World) (e : Ending) (w' : World) : Prop := ∃ c' t' o', e = .returned (.tuple #[evO c' t' o', .bool q]) ∧ (q = true → c' = c ∧ t' = t ∧ o' = o) ∧ Below w.heap.size w w'
theorem EvG.no {q : Bool} {c : Int} {t : Bool} {o : Int} {w w' : World} (hq : q = false) {c' : Int} {t' : Bool} {o' : Int} (hb : Below w.heap.size w w') : EvG q c t o w (.returned (.tuple #[.agg #[.int .i64 c', .bool t', .int .i64 o'], .bool false])) w' := by
  subst hq
  exact ⟨_, _, _, rfl, (fun h => by cases h), hb⟩
theorem EvG.yes {q : Bool} {c c' : Int} {t t' : Bool} {o : Int} {w w' : World} (hq : q = true) (hc : c = c') (ht : t = t') (hb : Below w.heap.size w w') : EvG q c t o w (.returned (.tuple #[.agg #[.int .i64 c', .bool t', .int .i64 o], .bool true])) w' := by
  subst hq hc ht
  exact ⟨_, _, _, rfl, (fun _ => ⟨rfl, rfl, rfl⟩), hb⟩
set_option maxRecDepth 100000 in
set_option maxHeartbeats 8000000 in
theorem eventOf_any (k : Ky) (hk : okK k) (hs : k.text.size ≤ 4294967296) (w : World) (hz : Siz w) (hR : Rws w) : Calls Tryd.prog 7 #[kyV k] w (EvG (evB k) (charK k) ((lookE k.code).kind == 1) (oldN k.mods) w) := by
  have HM : Hid (∀ W, Below w.heap.size w W → Calls Tryd.prog 17 #[kyV k] W fun e w' => e = .returned (.bool (mayK k)) ∧ Below W.heap.size W w') := Lib.hid fun W hW => pmods_may k hs W (hz.below' hW) (hR.below hW)
  have HO : Hid (∀ W, Calls Tryd.prog 16 #[.int .i64 k.mods] W fun e w' => e = .returned (.int .i64 (oldN k.mods)) ∧ Below W.heap.size W w') := Lib.hid fun W => pold_any k.mods W hk.mods
  have HL : Hid (∀ W, Below w.heap.size w W → Calls Tryd.prog 18 #[.int .i64 k.code] W fun e w' => e = .returned (enV (lookE k.code)) ∧ Below W.heap.size W w') := Lib.hid fun W hW => plook_any k.code W (hz.below' hW) (hR.below hW)
  have HS : Hid (∀ W, Calls Tryd.prog 19 #[kyV k] W fun e w' => e = .returned (.int .i64 (shownK k)) ∧ Below W.heap.size W w') := Lib.hid fun W => pshown_any k hk W
  obtain ⟨K, hK⟩ : ∃ K, (lookE k.code).kind = K := ⟨_, rfl⟩
  have hf : ∀ W : World, (Instr.field 54 (enV (lookE k.code)) 0).run Tryd.prog W = .ok (.int .i64 K) W := fun W => by
    rw [← hK]
    exact (by kernel_rfl : (Instr.field 54 (enV (lookE k.code)) 0).run Tryd.prog W = .ok (.int .i64 (lookE k.code).kind) W)
  obtain ⟨E, hE⟩ : ∃ E, enV (lookE k.code) = E := ⟨_, rfl⟩
  rw [hE] at HL hf
  obtain ⟨ov, hov⟩ : ∃ x, oldN k.mods = x := ⟨_, rfl⟩
  obtain ⟨sh, hsh⟩ : ∃ x, shownK k = x := ⟨_, rfl⟩
  obtain ⟨v, hv⟩ : ∃ x, mayK k = x := ⟨_, rfl⟩
  obtain ⟨t1, ht1⟩ : ∃ x, (K == 1) = x := ⟨_, rfl⟩
  obtain ⟨t2, ht2⟩ : ∃ x, (K == 2) = x := ⟨_, rfl⟩
  obtain ⟨t3, ht3⟩ : ∃ x, (k.typ == 3) = x := ⟨_, rfl⟩
  obtain ⟨x0, hx0⟩ : ∃ x, (ov != 0) = x := ⟨_, rfl⟩
  obtain ⟨x1, hx1⟩ : ∃ x, (ov != 1) = x := ⟨_, rfl⟩
  have HQ := Lib.hid (show evB k = (v && !t3 && if t1 = true then x0 && x1 else if t2 = true then x0 else false) by
    unfold evB
    rw [hv, hK, hov, bne, ht3, hx0, hx1, ← ht1, ← ht2]
    simp)
  have HC := Lib.hid (show charK k = if t1 = true then sh else k.code by
    unfold charK
    rw [hK, hsh, ← ht1]
    simp)
  rw [hov, hK]
  rw [hov] at HO
  rw [hsh] at HS
  rw [hv] at HM
  obtain ⟨q, hq⟩ : ∃ q, evB k = q := ⟨_, rfl⟩
  obtain ⟨ch, hch⟩ : ∃ c, charK k = c := ⟨_, rfl⟩
  rw [hq] at HQ ⊢
  rw [hch] at HC ⊢
  rw [ht1]
  clear hE hk hs hK hov hch hv hq hsh hz hR
  obtain ⟨code, mods, typ, shift, base, text⟩ := k
  simp only [kyV] at HM HO HL HS HC ht3 ⊢
  have k0 := (Blk.new w 25 #[.int .i64 code, .int .i64 mods, .int .i64 typ, .int .i64 shift, .int .i64 base, .string text]).alloc (.cells #[.int .i64 0, .bool false, .int .i64 0] 34)
  have z0 := Blk.new (w.alloc (.cells #[.int .i64 code, .int .i64 mods, .int .i64 typ, .int .i64 shift, .int .i64 base, .string text] 25)) 34 #[.int .i64 0, .bool false, .int .i64 0]
  rw [World.size_alloc] at z0
  have hB0 : Below w.heap.size w ((w.alloc (.cells #[.int .i64 code, .int .i64 mods, .int .i64 typ, .int .i64 shift, .int .i64 base, .string text] 25)).alloc (.cells #[.int .i64 0, .bool false, .int .i64 0] 34)) := ((Below.refl _ w).alloc (Nat.le_refl _) _).alloc (by simp) _
  go_enter Tryd.func7, Tryd.ntmps7
  go_wp2_with fail
  refine (HM.out _ hB0).mono ?_
  rintro e w1 ⟨rfl, hb1⟩
  have k1 := k0.below hb1 k0.lt
  have z1 := z0.below hb1 z0.lt
  have hB1 := hB0.trans (hb1.mono hB0.size)
  clear k0 z0 hB0 hb1 HM
  obtain ⟨a0, a1, a2, a3, a4, a5⟩ := Blk.cells6 k1
  cases v with
  | false =>
    have HQ := Lib.hid (show q = false from HQ.out)
    clear HC ht1 ht2 ht3 hx0 hx1
    obtain ⟨d0, d1, d2⟩ := And.intro (z1.cell 0) (And.intro (z1.cell 1) (z1.cell 2))
    have y0 := z1.frozen 0
    have y1 := z1.frozen 1
    have y2 := z1.frozen 2
    go_wp2_with fail
    refine bodyPost_ret (v := .tuple #[.agg #[.int .i64 0, .bool false, .int .i64 0], .bool false]) (by simp [results, Tryd.results7, go_sem, d0, d1, d2]) rfl (EvG.no HQ.out (below_set3 hB1 (Nat.le_succ _) _ _ _))
  | true =>
    cases t3 with
    | true =>
      have HQ := Lib.hid (show q = false from HQ.out)
      clear HC ht1 ht2 hx0 hx1
      obtain ⟨d0, d1, d2⟩ := And.intro (z1.cell 0) (And.intro (z1.cell 1) (z1.cell 2))
      have y0 := z1.frozen 0
      have y1 := z1.frozen 1
      have y2 := z1.frozen 2
      go_wp2_with fail
      refine bodyPost_ret (v := .tuple #[.agg #[.int .i64 0, .bool false, .int .i64 0], .bool false]) (by simp [results, Tryd.results7, go_sem, d0, d1, d2]) rfl (EvG.no HQ.out (below_set3 hB1 (Nat.le_succ _) _ _ _))
    | false =>
      have HQ := Lib.hid (show q = if t1 = true then x0 && x1 else if t2 = true then x0 else false from HQ.out)
      go_wp2_with fail
      refine (HO.out _).mono ?_
      rintro e w2 ⟨rfl, hb2⟩
      have k2 := k1.below hb2 k1.lt
      have z2 := z1.below hb2 z1.lt
      have hB2 := hB1.trans (hb2.mono hB1.size)
      clear k1 z1 hB1 hb2 HO a0 a1 a2 a3 a4 a5 ht3
      obtain ⟨a0, a1, a2, a3, a4, a5⟩ := Blk.cells6 k2
      go_wp2_with fail
      refine (HL.out _ hB2).mono ?_
      rintro e w3 ⟨rfl, hb3⟩
      have k3 := k2.below hb3 k2.lt
      have z3 := z2.below hb3 z2.lt
      have hB3 := hB2.trans (hb3.mono hB2.size)
      clear k2 z2 hB2 hb3 HL a0 a1 a2 a3 a4 a5
      obtain ⟨a0, a1, a2, a3, a4, a5⟩ := Blk.cells6 k3
      cases t1 with
      | true =>
        have HQ := Lib.hid (show q = (x0 && x1) from HQ.out)
        have HC := Lib.hid (show ch = sh from HC.out)
        clear ht2
        go_wp2_with fail
        refine (HS.out _).mono ?_
        rintro e w4 ⟨rfl, hb4⟩
        have z4 := z3.below hb4 z3.lt
        have hB4 := hB3.trans (hb4.mono hB3.size)
        clear k3 z3 hB3 hb4 HS a0 a1 a2 a3 a4 a5
        cases x0 with
        | false =>
          have HQ := Lib.hid (show q = false from HQ.out)
          clear hx1
          obtain ⟨d0, d1, d2⟩ := And.intro (z4.cell 0) (And.intro (z4.cell 1) (z4.cell 2))
          have y0 := z4.frozen 0
          have y1 := z4.frozen 1
          have y2 := z4.frozen 2
          go_wp2_with fail
          refine bodyPost_ret (v := .tuple #[.agg #[.int .i64 sh, .bool true, .int .i64 ov], .bool false]) (by simp [results, Tryd.results7, go_sem, d0, d1, d2]) rfl (EvG.no HQ.out (below_set3 hB4 (Nat.le_succ _) _ _ _))
        | true =>
          cases x1 with
          | false =>
            have HQ := Lib.hid (show q = false from HQ.out)
            obtain ⟨d0, d1, d2⟩ := And.intro (z4.cell 0) (And.intro (z4.cell 1) (z4.cell 2))
            have y0 := z4.frozen 0
            have y1 := z4.frozen 1
            have y2 := z4.frozen 2
            go_wp2_with fail
            refine bodyPost_ret (v := .tuple #[.agg #[.int .i64 sh, .bool true, .int .i64 ov], .bool false]) (by simp [results, Tryd.results7, go_sem, d0, d1, d2]) rfl (EvG.no HQ.out (below_set3 hB4 (Nat.le_succ _) _ _ _))
          | true =>
            have HQ := Lib.hid (show q = true from HQ.out)
            obtain ⟨d0, d1, d2⟩ := And.intro (z4.cell 0) (And.intro (z4.cell 1) (z4.cell 2))
            have y0 := z4.frozen 0
            have y1 := z4.frozen 1
            have y2 := z4.frozen 2
            go_wp2_with fail
            refine bodyPost_ret (v := .tuple #[.agg #[.int .i64 sh, .bool true, .int .i64 ov], .bool true]) (by simp [results, Tryd.results7, go_sem, d0, d1, d2]) rfl (EvG.yes HQ.out HC.out rfl (below_set3 hB4 (Nat.le_succ _) _ _ _))
      | false =>
        have HC := Lib.hid (show ch = code from HC.out)
        have HQ := Lib.hid (show q = if t2 = true then x0 else false from HQ.out)
        clear hx1 HS
        cases t2 with
        | true =>
          cases x0 with
          | false =>
            have HQ := Lib.hid (show q = false from HQ.out)
            obtain ⟨d0, d1, d2⟩ := And.intro (z3.cell 0) (And.intro (z3.cell 1) (z3.cell 2))
            have y0 := z3.frozen 0
            have y1 := z3.frozen 1
            have y2 := z3.frozen 2
            go_wp2_with fail
            refine bodyPost_ret (v := .tuple #[.agg #[.int .i64 code, .bool false, .int .i64 ov], .bool false]) (by simp [results, Tryd.results7, go_sem, d0, d1, d2]) rfl (EvG.no HQ.out (below_set3 hB3 (Nat.le_succ _) _ _ _))
          | true =>
            have HQ := Lib.hid (show q = true from HQ.out)
            obtain ⟨d0, d1, d2⟩ := And.intro (z3.cell 0) (And.intro (z3.cell 1) (z3.cell 2))
            have y0 := z3.frozen 0
            have y1 := z3.frozen 1
            have y2 := z3.frozen 2
            go_wp2_with fail
            refine bodyPost_ret (v := .tuple #[.agg #[.int .i64 code, .bool false, .int .i64 ov], .bool true]) (by simp [results, Tryd.results7, go_sem, d0, d1, d2]) rfl (EvG.yes HQ.out HC.out rfl (below_set3 hB3 (Nat.le_succ _) _ _ _))
        | false =>
          have HQ := Lib.hid (show q = false from HQ.out)
          clear hx0
          obtain ⟨d0, d1, d2⟩ := And.intro (z3.cell 0) (And.intro (z3.cell 1) (z3.cell 2))
          have y0 := z3.frozen 0
          have y1 := z3.frozen 1
          have y2 := z3.frozen 2
          go_wp2_with fail
          refine bodyPost_ret (v := .tuple #[.agg #[.int .i64 0, .bool false, .int .i64 0], .bool false]) (by simp [results, Tryd.results7, go_sem, d0, d1, d2]) rfl (EvG.no HQ.out (below_set3 hB3 (Nat.le_succ _) _ _ _))
end Go.Proofs.YtmagokkegadmiaaDoor
namespace Go.Proofs.YtmagokkegadmiaaDoor
open Go.RowKit

theorem Rows.box {w w' : World} {B g : Nat} {A : Option Addr} {c : Nat} {l r : List UInt8} {x0 x1 x2 x3 x4 x5 : Value} {e : TypeId} {xs : List Value} {ps : List (List Int)} (h : Rows w B e xs ps) (hR : Rdr w g A c l x0 x1 x2 x3 x4 x5 r) (hne : e ≠ 74) (hg : w.grownBy w' (some g)) : Rows w' B e xs ps := by
  obtain ⟨_, _, _, _, hb⟩ := hR
  exact h.keep (Nat.le_refl _) fun k _ ⟨cur, fz, hh⟩ => hg.block k (Array.getElem?_eq_some_iff.1 hh).1 (fun e => tag_ne hb hh hne (by injection e))
/-- What params tells. -/
def ParamsPost (g : Nat) (A : Option Addr) (c : Nat) (l r' : List UInt8) (ps : List (List Int)) (x0 x1 x2 x3 x4 x5 : Value) (w : World) (e : Ending) (w' : World) : Prop :=
  (∃ A' c', e = .returned (.slice A' ps.length c') ∧ RdPN g w' A' ps) ∧ Rdr w' g A c l x0 x1 x2 x3 x4 x5 r' ∧ w.grownBy w' (some g)
theorem params_post {g : Nat} {A : Option Addr} {c n c2 : Nat} {l r' : List UInt8} {p : List (List Int)} {x0 x1 x2 x3 x4 x5 : Value} {w w' : World} {A2 : Option Addr} (hn : p.length = n) (h1 : RdPN g w' A2 p) (h2 : Rdr w' g A c l x0 x1 x2 x3 x4 x5 r') (h3 : w.grownBy w' (some g)) :
    ParamsPost g A c l r' p x0 x1 x2 x3 x4 x5 w (.returned (.slice A2 n c2)) w' := ⟨⟨A2, c2, by rw [hn], h1⟩, h2, h3⟩

set_option maxRecDepth 100000 in
set_option maxHeartbeats 8000000 in
theorem params2_any (g : Nat) (A : Option Addr) (c : Nat) (l r r' : List UInt8) (ps : List (List Int)) (x0 x1 x2 x3 x4 x5 : Value) (w : World) (hn : paramsF r = (ps, r')) (hlc : l.length ≤ c) (hl : l.length ≤ 4294967296) (ht : TabIn g w) (h : Rdr w g A c l x0 x1 x2 x3 x4 x5 r) :
    Calls Tryd.prog 48 #[.pointer (some ⟨g, 0, none⟩)] w (ParamsPost g A c l r' ps x0 x1 x2 x3 x4 x5 w) := by
  obtain ⟨j0, hj, hy0, hy1, hy2⟩ : ∃ i, Tryd.prog.info? 68 = some i ∧ i.zero = some (.slice none 0 0) ∧ i.size = 1 ∧ i.bytes = 24 := ⟨_, rfl, rfl, rfl, rfl⟩
  have hlt := h.lt
  obtain ⟨p1, hp1⟩ : ∃ p1, (partsF r).1 = p1 := ⟨_, rfl⟩
  obtain ⟨r1, hr1⟩ : ∃ r1, (partsF r).2 = r1 := ⟨_, rfl⟩
  have HF := Lib.hid (show partsF r = (p1, r1) by rw [← hp1, ← hr1])
  obtain ⟨qs, hqs⟩ : ∃ qs, (paramsGo 15 [p1] r1).1 = qs := ⟨_, rfl⟩
  have HP := Lib.hid (show paramsGo 15 [p1] r1 = (qs, r') by
    have : (paramsF r).2 = r' := by rw [hn]
    rw [← this, ← hqs, ← hp1, ← hr1]; rfl)
  have HQ := Lib.hid (show noneL qs = ps by
    have : (paramsF r).1 = ps := by rw [hn]
    rw [← this, ← hqs, ← hp1, ← hr1]; rfl)
  clear hn hp1 hr1 hqs
  go_enter Tryd.func48, Tryd.ntmps48
  go_wp2_with fail
  refine (parts2_any g A c l r r1 p1 x0 x1 x2 x3 x4 x5 _ HF.out hlc hl ht h).mono ?_
  rintro e w1 ⟨⟨A1, c1, rfl, hri1⟩, h1, hg1⟩
  have ht1 := ht.grown hg1 hlt
  obtain ⟨n1, hn1⟩ : ∃ n1, p1.length = n1 := ⟨_, rfl⟩
  have HN1 := Lib.hid hn1
  rw [hn1]
  clear h ht hn1
  go_wp2_with fail
  have ho1 := own_lit (w1.alloc (.cells #[.slice A1 n1 c1] 68)) w1.heap.size 68 w1.heap.size (.slice A1 n1 c1) (Nat.le_refl _) (heap_alloc_new w1 _)
  have h1' := h1.below ((Below.refl _ w1).alloc (Nat.le_refl _) (.cells #[.slice A1 n1 c1] 68)) h1.lt
  have hg1' : w.grownBy (w1.alloc (.cells #[.slice A1 n1 c1] 68)) (some g) := grown_trans hg1 (World.grownBy_alloc w1 _ _)
  have ht1' := ht1.below (((Below.refl g w1).alloc (Nat.le_of_lt h1.lt) (.cells #[.slice A1 n1 c1] 68)))
  have hws : w.heap.size ≤ w1.heap.size := hg1.size
  have hrs1 : Rows (w1.alloc (.cells #[.slice A1 n1 c1] 68)) w1.heap.size 3 ([] ++ [.slice A1 n1 c1]) ([] ++ [p1]) :=
    Rows.snoc2 ⟨rfl, fun k hk => absurd hk (by simp)⟩ HN1.out.symm (hri1.keep (Nat.le_refl _) (fun q hq _ => Below.heap_alloc w1 _ q hq))
  rw [List.nil_append, List.nil_append] at hrs1
  clear h1 hg1 ht1 hri1 HN1
  go_loopw [3] (fun v wr => ∃ (acc : List (List Int)) (rr : List UInt8) (f B : Nat) (xs : List Value), acc.length + f = 16 ∧ Own wr B 68 1 v acc.length xs ∧ (∃ B2, B2 ≤ wr.heap.size ∧ Rows wr B2 3 xs acc) ∧ Rdr wr g A c l x0 x1 x2 x3 x4 x5 rr ∧ TabIn g wr ∧ w.grownBy wr (some g) ∧ (w.heap.size ≤ B ∧ B ≤ wr.heap.size) ∧ Hid (paramsGo f acc rr = (qs, r'))) (fun v _ => match v with | .slice _ n _ => 16 - n | _ => 0)
  case atStart => exact ⟨[p1], r1, 15, w1.heap.size, _, rfl, ho1, ⟨w1.heap.size, by simp, hrs1⟩, h1', ht1', hg1', ⟨hws, by simp⟩, HP⟩
  case round =>
    obtain ⟨acc, rr, f, B, xs, hf, ho, ⟨B2, hB3, hrs⟩, hR, hT, hG, ⟨hB, hB2⟩, HE⟩ := hrel
    clear ho1 h1' hg1' ht1' HP hrs1
    obtain ⟨n, hn⟩ : ∃ n, acc.length = n := ⟨_, rfl⟩
    rw [hn] at ho hf
    have HN := Lib.hid hn
    clear hn
    obtain ⟨A2, c2, rfl, _⟩ := ho.form
    by_cases h8 : n < 16
    · obtain ⟨f', rfl⟩ : ∃ f', f = f' + 1 := ⟨f - 1, by omega⟩
      cases hs : skipB [59] rr with
      | true =>
        have HS := Lib.hid hs
        clear hs
        obtain ⟨p2, hp2⟩ : ∃ p2, (partsF (rr.drop 1)).1 = p2 := ⟨_, rfl⟩
        obtain ⟨r2, hr2⟩ : ∃ r2, (partsF (rr.drop 1)).2 = r2 := ⟨_, rfl⟩
        have HF2 := Lib.hid (show partsF (rr.drop 1) = (p2, r2) by rw [← hp2, ← hr2])
        have HE2 := Lib.hid (show paramsGo f' (acc ++ [p2]) r2 = (qs, r') by
          have := HE.out
          unfold paramsGo at this
          rw [if_pos HS.out, hp2, hr2] at this
          exact this)
        clear hp2 hr2 HE
        go_wp2_with fail
        refine (skip_yes g A c l [59] rr x0 x1 x2 x3 x4 x5 _ HS.out hlc hl (by simp) hR).mono ?_
        rintro e w2 ⟨rfl, hR2, hG2⟩
        have hT2 := hT.grown hG2 hR.lt
        have ho2 := ho.kept hG2 (.inr (rdr_apart hR ho (by decide)))
        have hrs2 := hrs.box hR (by decide) hG2
        have hG2' := grown_trans hG hG2
        have hs2 := Nat.le_trans hB2 hG2.size
        have hb2s := Nat.le_trans hB3 hG2.size
        clear hR hT ho hG2 hG hrs
        go_wp2_with fail
        refine (parts2_any g A c l (rr.drop 1) r2 p2 x0 x1 x2 x3 x4 x5 _ HF2.out hlc hl hT2 hR2).mono ?_
        rintro e w3 ⟨⟨A3, c3, rfl, hri3⟩, hR3, hG3⟩
        obtain ⟨n3, hn3⟩ : ∃ n3, p2.length = n3 := ⟨_, rfl⟩
        have HN3 := Lib.hid hn3
        rw [hn3]
        clear hn3
        have hT3 := hT2.grown hG3 hR2.lt
        have ho3 := ho2.kept hG3 (.inr (rdr_apart hR2 ho2 (by decide)))
        have hrs3 := hrs2.box hR2 (by decide) hG3
        have hG3' := grown_trans hG2' hG3
        have hs3 := Nat.le_trans hs2 hG3.size
        have hb3s := Nat.le_trans hb2s hG3.size
        clear hR2 hT2 ho2 hG3 hG2' hrs2
        have hown4 := ho3.alloc (.cells #[.slice A3 n3 c3] 68)
        have hR4 := hR3.below ((Below.refl _ w3).alloc (Nat.le_refl _) (.cells #[.slice A3 n3 c3] 68)) hR3.lt
        have hT4 := hT3.below (((Below.refl g w3).alloc (Nat.le_of_lt hR3.lt) (.cells #[.slice A3 n3 c3] 68)))
        have hG4 : w.grownBy (w3.alloc (.cells #[.slice A3 n3 c3] 68)) (some g) := grown_trans hG3' (World.grownBy_alloc w3 _ _)
        have hrd4 : Rd (w3.alloc (.cells #[.slice A3 n3 c3] 68)) (some ⟨w3.heap.size, 0, none⟩) [.slice A3 n3 c3] := Rd.block (heap_alloc_new w3 _) (by simp)
        have hrs4 := ((hrs3.keep (Nat.le_refl B2) (fun q hq _ => Below.heap_alloc w3 (.cells #[.slice A3 n3 c3] 68) q (by omega))).keep (B' := w3.heap.size) hb3s (fun _ _ _ => rfl)).snoc2 HN3.out.symm (c := c3) (hri3.keep (Nat.le_refl _) (fun q hq _ => Below.heap_alloc w3 (.cells #[.slice A3 n3 c3] 68) q hq))
        have h63 : n + 1 ≤ maxLen := by simp only [maxLen]; omega
        have hlim : (n + 1) * 24 ≤ 140737488355328 := by omega
        have hbs4 : B ≤ (w3.alloc (.cells #[.slice A3 n3 c3] 68)).heap.size := by simp; omega
        have hws3 : w3.heap.size ≤ (w3.alloc (.cells #[.slice A3 n3 c3] 68)).heap.size := by simp
        clear hR3 hT3 ho3 hG3' hrs3 hri3
        go_wp2_with (first | (at_builtin; refine list_app _ rfl (.tmp 16) (.tmp 19) 41 rfl B 68 j0 _ 1 24 Tryd.underlying41 hj hy0 hy1 hy2 rfl Nat.one_pos _ _ _ rfl hown4 _ 1 1 [.slice A3 n3 c3] rfl rfl hrd4 (sl_one _ _ _) h63 hlim hbs4 ?_; intro v5 w5 hown5 hg5))
        have hR5 := hR4.app hown4 (by omega) (by decide) hg5
        have hT5 := hT4.app hown4 (by omega) (Nat.le_of_lt hR4.lt) hg5
        have hG5 := grown_own hG4 hown4 hB hg5
        have hrs5 := hrs4.keep (B' := w3.heap.size) (Nat.le_refl _) (keep_out hown4 (by decide) hg5)
        have hnn := HN.out
        obtain ⟨A5, c5, rfl, _⟩ := hown5.form
        have HL5 := Lib.hid (show (acc ++ [p2]).length = n + 1 by rw [List.length_append, hnn]; rfl)
        have hs5 : B ≤ w5.heap.size := Nat.le_trans hbs4 hg5.size
        have hs6 : w3.heap.size ≤ w5.heap.size := Nat.le_trans hws3 hg5.size
        clear hnn hg5 hown4 hR4 hT4 hG4 hrd4 hrs4
        go_wp2_with fail
        go_roundw
        case rel => exact ⟨acc ++ [p2], r2, f', B, _, by rw [HL5.out]; omega, by rw [HL5.out]; exact hown5, ⟨w3.heap.size, hs6, hrs5⟩, hR5, hT5, hG5, ⟨hB, hs5⟩, HE2⟩
        case measure => simp; omega
      | false =>
        have HS := Lib.hid hs
        clear hs
        have hE := HE.out
        unfold paramsGo at hE
        rw [if_neg (by rw [HS.out]; simp)] at hE
        injection hE with e1 e2
        subst e1
        subst e2
        clear HE
        go_wp2_with fail
        refine (skip_no g A c l [59] rr x0 x1 x2 x3 x4 x5 _ HS.out hlc hl (by simp) hR).mono ?_
        rintro e w2 ⟨rfl, hR2, hG2⟩
        have ho2 := ho.kept hG2 (.inr (rdr_apart hR ho (by decide)))
        have hrs2 := hrs.box hR (by decide) hG2
        have hG2' := grown_trans hG hG2
        have hR2b := hR2
        obtain ⟨_, _, _, _, hblk2⟩ := hR2b
        obtain ⟨A3, c3, h3, hrow⟩ := hrs2.rdpn ho2 hblk2 (by decide) (by decide)
        cases h3
        clear hblk2
        cases hq : decide (acc = [[-1]]) with
        | true =>
          have HQQ := Lib.hid hq
          have hps := HQ.out
          unfold noneL at hps
          rw [if_pos (of_decide_eq_true hq)] at hps
          subst hps
          clear hq
          go_wp2_with fail
          refine (isNone_any A2 n c2 acc true _ HN.out HQQ.out (by omega) hrow.rdp).mono ?_
          rintro e w3 ⟨rfl, rfl⟩
          go_wp2_with fail
          go_ret
          exact params_post rfl (RdPN.nil _ _ _) hR2 hG2'
        | false =>
          have HQQ := Lib.hid hq
          have hps := HQ.out
          unfold noneL at hps
          rw [if_neg (of_decide_eq_false hq)] at hps
          subst hps
          clear hq
          go_wp2_with fail
          refine (isNone_any A2 n c2 acc false _ HN.out HQQ.out (by omega) hrow.rdp).mono ?_
          rintro e w3 ⟨rfl, rfl⟩
          go_wp2_with fail
          go_ret
          exact params_post HN.out hrow hR2 hG2'
    · have h8' : 16 ≤ n := by omega
      obtain rfl : f = 0 := by omega
      have hE := HE.out
      unfold paramsGo at hE
      injection hE with e1 e2
      subst e1
      subst e2
      clear HE h8
      have hR2b := hR
      obtain ⟨_, _, _, _, hblk2⟩ := hR2b
      obtain ⟨A3, c3, h3, hrow⟩ := hrs.rdpn ho hblk2 (by decide) (by decide)
      cases h3
      clear hblk2
      cases hq : decide (acc = [[-1]]) with
      | true =>
        exfalso
        have := congrArg List.length (of_decide_eq_true hq)
        rw [HN.out] at this
        simp at this
        omega
      | false =>
        have HQQ := Lib.hid hq
        have hps := HQ.out
        unfold noneL at hps
        rw [if_neg (of_decide_eq_false hq)] at hps
        subst hps
        clear hq
        go_wp2_with fail
        refine (isNone_any A2 n c2 acc false _ HN.out HQQ.out (by omega) hrow.rdp).mono ?_
        rintro e w3 ⟨rfl, rfl⟩
        go_wp2_with fail
        go_ret
        exact params_post HN.out hrow hR hG
end Go.Proofs.YtmagokkegadmiaaDoor
