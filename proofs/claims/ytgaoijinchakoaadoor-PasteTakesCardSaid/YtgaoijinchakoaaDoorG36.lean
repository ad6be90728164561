/-
  Stage 17, the landed paste: its sequences as bytes; what is sent of a focus.
-/
import Derived.Test.YtgaoijinchakoaaDoorG11
import Derived.Test.YtgaoijinchakoaaDoorG24
import Derived.Test.YtgaoijinchakoaaDoorG25
import Derived.Test.YtgaoijinchakoaaDoorG32
import Derived.Test.YtgaoijinchakoaaDoorG33
import Derived.Test.YtgaoijinchakoaaDoorG35
namespace Go.Proofs.YtgaoijinchakoaaDoor
open Go.RowKit Go.Maps
theorem pasput_any {f : Int} {l : List Int} {n : Nat} (L : List UInt8) (m : Nat) (hn : l.length = n) (f0 : 0 ≤ f) (f1 : f < 256) (hm : mayS (sqN 1 f l) = 0) (hL : putS (sqN 1 f l) = L) (hLm : L.length = m) (A : Option Addr) (c : Nat) (w : World) (ht : Tab w) (hr : RdP w A (l.map fun n => [n])) :
 Calls Tryd.prog 27 #[.agg #[.int .i64 1, .int .u8 0, .slice A n c, .string ⟨#[]⟩, .int .u8 f, .string ⟨#[]⟩]] w (OutP L m w) := by
 subst hLm
 have hB : Below w.heap.size w (w.alloc (.cells #[.int .i64 1, .int .u8 0, .slice A n c, .string ⟨#[]⟩, .int .u8 f, .string ⟨#[]⟩] 53)) := (Below.refl _ _).alloc (Nat.le_refl _) _
 have k0 := Blk.new w 53 #[.int .i64 1, .int .u8 0, .slice A n c, .string ⟨#[]⟩, .int .u8 f, .string ⟨#[]⟩]
 have HP : Hid (∀ W, Tab W → RdP W A (l.map fun n => [n]) → Calls Tryd.prog 40 #[.agg #[.int .i64 1, .int .u8 0, .slice A n c, .string ⟨#[]⟩, .int .u8 f, .string ⟨#[]⟩]] W (WYesO L W)) := Lib.hid fun W hW hR => by
  rw [← sqn_v (kind := 1) hn f0 f1 A c, ← hL]
  exact pput_own _ A c W hm hW hR
 clear hm f0 f1 hn hL
 obtain ⟨a0, a1, a2, a3, a4, a5⟩ := Blk.cells6 k0
 go_enter Tryd.func27, Tryd.ntmps27
 go_wp2_with fail
 refine (HP.out _ (ht.below hB) (hr.below hB)).mono ?_
 clear HP
 rintro e w1 ⟨⟨B, d, rfl, hd, hr1, ho⟩, hb1⟩
 go_wp2_with fail
 go_ret
 exact ⟨B, d, rfl, ho.mono hB.size, hB.trans (hb1.mono hB.size)⟩
set_option maxRecDepth 100000 in
set_option maxHeartbeats 8000000 in
theorem pasmark_any (N : Int) (L : List UInt8) (m : Nat) (h0 : 0 ≤ N) (h1 : N ≤ 1000) (hL : putS (sqN 1 126 [N]) = L) (hm : L.length = m) (w : World) (ht : Tab w) : Calls Tryd.prog 26 #[.int .i64 N] w (OutP L m w) := by
 have hmay : mayS (sqN 1 126 [N]) = 0 := may_csi (by decide) (by decide) (by simp) (by simp; omega)
 have HN : Hid (∀ A c W, Rd W A (is_ [N]) → Calls Tryd.prog 39 #[.int .u8 0, .int .u8 126, .slice A 1 c] W (NumQ 126 [N] 1 W)) := Lib.hid fun A c W hr => lnum_any 126 (by omega) (by omega) [N] 1 rfl (by decide) A c W hr
 have HP : Hid (∀ A c W, Tab W → RdP W A [[N]] → Calls Tryd.prog 27 #[.agg #[.int .i64 1, .int .u8 0, .slice A 1 c, .string ⟨#[]⟩, .int .u8 126, .string ⟨#[]⟩]] W (OutP L m W)) := Lib.hid fun A c W hW hr => pasput_any (l := [N]) L m rfl (by omega) (by omega) hmay hL hm A c W hW hr
 clear hmay hL hm h0 h1
 have hB1 : Below w.heap.size w (w.alloc (.cells #[.int .i64 N] 3)) := (Below.refl _ _).alloc (Nat.le_refl _) _
 have hown := own_lit (w.alloc (.cells #[.int .i64 N] 3)) w.heap.size 3 w.heap.size (.int .i64 N) (Nat.le_refl _) (heap_alloc_new w _)
 have r4 : Rd _ (some ⟨w.heap.size, 0, none⟩) (is_ [N]) := hown.rd
 go_enter Tryd.func26, Tryd.ntmps26
 go_wp2_with fail
 refine (HN.out _ 1 _ r4).mono ?_
 rintro e w5 ⟨A5, c5, rfl, hr5, hb5⟩
 have hB5 := hB1.trans (hb5.mono hB1.size)
 go_wp2_with fail
 refine (HP.out A5 c5 _ (ht.below hB5) hr5).mono ?_
 rintro e w6 ⟨A6, c6, rfl, ho6, hb6⟩
 go_wp2_with fail
 go_ret
 exact ⟨A6, c6, rfl, ho6.mono hB5.size, hB5.trans (hb6.mono hB5.size)⟩
theorem t200_17 : textL 200 = [50, 48, 48] := by
 rw [textL_big _ (by decide), textL_big (200 / 10) (by decide), textL_small (200 / 10 / 10) (by decide) (by decide)]; decide
theorem t201_17 : textL 201 = [50, 48, 49] := by
 rw [textL_big _ (by decide), textL_big (201 / 10) (by decide), textL_small (201 / 10 / 10) (by decide) (by decide)]; decide
theorem mark_open : putS (sqN 1 126 [200]) = openB := (show putS (sqN 1 126 [200]) = 27 :: 91 :: (textL 200 ++ [126]) by simp [putS, sqN, bodyL, parL, partL, privL, byt]).trans (by rw [t200_17]; decide)
theorem mark_close : putS (sqN 1 126 [201]) = closeB := (show putS (sqN 1 126 [201]) = 27 :: 91 :: (textL 201 ++ [126]) by simp [putS, sqN, bodyL, parL, partL, privL, byt]).trans (by rw [t201_17]; decide)
def inB : List UInt8 := [27, 91, 73]
def outB : List UInt8 := [27, 91, 79]
theorem paslook_in : putS (sqN 1 73 []) = inB := by decide
theorem paslook_out : putS (sqN 1 79 []) = outB := by decide
def lkV (A : Option Addr) (c : Nat) (f : Int) : Value := .agg #[.int .i64 1, .int .u8 0, .slice A 0 c, .string ⟨#[]⟩, .int .u8 f, .string ⟨#[]⟩]
set_option maxRecDepth 100000 in
set_option maxHeartbeats 8000000 in
theorem paslook_any (f : Int) (f0 : 0 ≤ f) (f1 : f < 256) (w : World) : Calls Tryd.prog 41 #[.int .u8 f] w fun e w' => (∃ A c, e = .returned (lkV A c f)) ∧ Below w.heap.size w w' := by
 have HN : Hid (∀ W, Calls Tryd.prog 39 #[.int .u8 0, .int .u8 f, .slice none 0 0] W (NumQ f [] 0 W)) := Lib.hid fun W => lnum_any f f0 f1 [] 0 rfl (by decide) none 0 W (Rd.nil _ _)
 have hB0 := (Below.refl w.heap.size w).alloc (Nat.le_refl _) (.cells #[.int .i64 0, .int .u8 0, .slice none 0 0, .string ⟨#[]⟩, .int .u8 0, .string ⟨#[]⟩] 53)
 have z0 := Blk.new w 53 #[.int .i64 0, .int .u8 0, .slice none 0 0, .string ⟨#[]⟩, .int .u8 0, .string ⟨#[]⟩]
 clear f0 f1
 go_enter Tryd.func41, Tryd.ntmps41
 go_wp2_with fail
 refine (HN.out _).mono ?_
 rintro e w5 ⟨A5, c5, rfl, hr5, hb5⟩
 have hB5 := hB0.trans (hb5.mono hB0.size)
 have z5 := z0.below hb5 z0.lt
 have hB6 := below_set6 hB5 (Nat.le_refl w.heap.size) (.int .i64 1) (.int .u8 0) (.slice A5 0 c5) (.string ⟨#[]⟩) (.int .u8 f) (.string ⟨#[]⟩)
 obtain ⟨d0, d1, d2, d3, d4, d5⟩ := Blk.cells6 z5
 have y0 := z5.frozen 0
 have y1 := z5.frozen 1
 have y2 := z5.frozen 2
 have y3 := z5.frozen 3
 have y4 := z5.frozen 4
 have y5 := z5.frozen 5
 clear z0 z5 hb5 HN hr5
 go_wp2_with fail
 refine bodyPost_ret (v := .agg #[.int .i64 1, .int .u8 0, .slice A5 0 c5, .string ⟨#[]⟩, .int .u8 f, .string ⟨#[]⟩]) (by simp [results, Tryd.results41, go_sem, d0, d1, d2, d3, d4, d5]) rfl ⟨⟨A5, c5, rfl⟩, hB6⟩
theorem kbool17 : Keyed Tryd.prog 4 := bool_keyed Tryd.underlying4
theorem keyb17 (q : Bool) : keyOf Tryd.prog 4 (.bool q) = some (.bool q) := keyOf_bool_mk Tryd.underlying4 q
def looksL (A B : Option Addr) (c d : Nat) : List (Lit × DataW Value) := [(.bool false, .held (lkV B d 79)), (.bool true, .held (lkV A c 73))]
def LooksE (w : World) (e : Ending) (w' : World) : Prop := ∃ b n A B c d, e = .returned (.map (some b)) ∧ w'.ownsMap Tryd.prog 4 hel b n (.map (looksL A B c d)) ∧ Below w.heap.size w w'
theorem below_but17 {B b : Nat} {a w w' : World} (h : Below B a w) (hg : w.grownBy w' (some b)) (hB : B ≤ w.heap.size) (hb : B ≤ b) : Below B a w' :=
 ⟨hg.os.trans h.os, hg.tape.trans h.tape, hg.output.trans h.output, Nat.le_trans h.size hg.size, fun k hk => (hg.block k (Nat.lt_of_lt_of_le hk hB) (fun e => by injection e with e; omega)).trans (h.block k hk)⟩
theorem own_below17 {w w' : World} {K : TypeId} {b n : Nat} {D : DataW Value} (h : w.ownsMap Tryd.prog K hel b n D) (hb : Below w.heap.size w w') : w'.ownsMap Tryd.prog K hel b n D := by
 have hlt := h.lt
 obtain ⟨es, clock, h1, h2⟩ := h
 exact ⟨es, clock, (hb.block b hlt).trans h1, h2⟩
theorem wpList_ins17 {P : Program} {ops : Array Oper} {Q : Exit → Act → World → Prop} {T K E : TypeId} (KK : Keyed P K) (hT : P.underlying T = some (.map K E)) {a : Act} {b : Nat} {o : Oper} {rest : List Oper} {k : Lit} {v key : Value} {m x y : Operand} (hop : o.op = .insert T m x y) (hg : o.guard = none) (hd : o.dst = none) (hm : a.eval m = .map (some b)) (hx : a.eval x = key) (hkey : keyOf P K key = some k) (hv : a.eval y = v) {n : Nat} {D : DataW Value} {w : World} (hown : w.ownsMap P K hel b n D) (hn : n < maxLen)
 (hK : ∀ w', w'.ownsMap P K hel b (n + 1) (D.put k (.held v)) → w.grownBy w' (some b) → wpList P ops Q rest a w') : wpList P ops Q (o :: rest) a w := by
 obtain ⟨w', hrun, h1, h2⟩ := hown.store KK hT hn hkey (show hel v = some (.held v, []) from rfl)
 refine wpList_plain hg fun K hKK => ?_
 unfold Oper.wp
 have e : (execOp a.eval o).run P w = .ok .skip w' := by
  unfold execOp
  rw [hop]
  simp [hm, hx, hv, hrun, Result.andThen]
 rw [e, Oper.upon_skip, hd]
 exact hKK _ _ (hK _ h1 h2.grown)
set_option maxRecDepth 100000 in
set_option maxHeartbeats 8000000 in
theorem paslooks_any (w : World) : Calls Tryd.prog 28 #[] w (LooksE w) := by
 have HL : Hid (∀ f W, 0 ≤ f → f < 256 → Calls Tryd.prog 41 #[.int .u8 f] W fun e w' => (∃ A c, e = .returned (lkV A c f)) ∧ Below W.heap.size W w') := Lib.hid fun f W h0 h1 => paslook_any f h0 h1 W
 go_enter Tryd.func28, Tryd.ntmps28
 go_wp2_with fail
 rename_i K hK
 rw [run_makeMap, Result.andThen_ok, Oper.upon_value]
 refine hK _ _ ?_
 have hown0 := World.ownsMap_made w Tryd.prog 4 hel
 have hb0 : Below w.heap.size w (w.alloc (.map #[] 0)) := (Below.refl _ w).alloc (Nat.le_refl _) _
 obtain ⟨b, hb⟩ : ∃ b, w.heap.size = b := ⟨_, rfl⟩
 have hsz : b ≤ (w.alloc (.map #[] 0)).heap.size := by simp; omega
 rw [hb] at hown0 hb0 ⊢
 obtain ⟨w0, hw0⟩ : ∃ w0, w.alloc (.map #[] 0) = w0 := ⟨_, rfl⟩
 rw [hw0] at hown0 hb0 hsz ⊢
 clear hw0 hK
 go_wp2_with fail
 refine (HL.out 73 _ (by decide) (by decide)).mono ?_
 rintro e w1 ⟨⟨A1, c1, rfl⟩, hb1⟩
 have hown1 := own_below17 hown0 hb1
 have hB1 := hb0.trans (hb1.mono hsz)
 go_wp2_with (refine wpList_ins17 (T := 54) (K := 4) (E := 53) (b := b) (k := .bool true) (v := lkV A1 c1 73) kbool17 Tryd.underlying54 rfl rfl rfl (by kernel_rfl) rfl (by kernel_rfl) (by kernel_rfl) hown1 (by decide) ?_; intro w2 hown2 hg2)
 have hB2 := below_but17 hB1 hg2 (Nat.le_trans hsz hb1.size) (Nat.le_refl _)
 refine (HL.out 79 _ (by decide) (by decide)).mono ?_
 rintro e w3 ⟨⟨A3, c3, rfl⟩, hb3⟩
 have hown3 := own_below17 hown2 hb3
 have hB3 := hB2.trans (hb3.mono (hb ▸ hB2.size))
 go_wp2_with (refine wpList_ins17 (T := 54) (K := 4) (E := 53) (b := b) (k := .bool false) (v := lkV A3 c3 79) kbool17 Tryd.underlying54 rfl rfl rfl (by kernel_rfl) rfl (by kernel_rfl) (by kernel_rfl) hown3 (by decide) ?_; intro w4 hown4 hg4)
 have hB4 := below_but17 hB3 hg4 (hb ▸ hB3.size) (Nat.le_refl _)
 go_ret
 exact ⟨b, _, A1, A3, c1, c3, rfl, hown4, hb ▸ hB4⟩
theorem paslooks_at {w : World} {b n : Nat} {A B : Option Addr} {c d : Nat} (q : Bool) (h : w.ownsMap Tryd.prog 4 hel b n (.map (looksL A B c d))) :
 (Instr.lookup 54 (.map (some b)) (.bool q) false).run Tryd.prog w = .ok (if q = true then lkV A c 73 else lkV B d 79) w := by
 obtain ⟨v1, p1, h1, e1⟩ := h.lookup kbool17 Tryd.underlying54 (show (zeroValue 53).run Tryd.prog w = .ok (.agg #[.int .i64 0, .int .u8 0, .slice none 0 0, .string ⟨#[]⟩, .int .u8 0, .string ⟨#[]⟩]) w by kernel_rfl) (show hel (.agg #[.int .i64 0, .int .u8 0, .slice none 0 0, .string ⟨#[]⟩, .int .u8 0, .string ⟨#[]⟩]) = some (.held (.agg #[.int .i64 0, .int .u8 0, .slice none 0 0, .string ⟨#[]⟩, .int .u8 0, .string ⟨#[]⟩]), []) from rfl) (keyb17 q)
 have e2 : (DataW.map (looksL A B c d)).atKey (.bool q) (.held (.agg #[.int .i64 0, .int .u8 0, .slice none 0 0, .string ⟨#[]⟩, .int .u8 0, .string ⟨#[]⟩])) = .held (if q = true then lkV A c 73 else lkV B d 79) := by cases q <;> kernel_rfl
 rw [e2] at e1
 have e1' : v1 = if q = true then lkV A c 73 else lkV B d 79 := by simpa [hel] using congrArg (Option.map Prod.fst) e1
 rw [e1'] at h1
 exact h1
end Go.Proofs.YtgaoijinchakoaaDoor
