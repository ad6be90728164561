/-
  Layer 10, the document's functions, walked. Layer 10, the landed mods: the map of what folds, and Fold. A block that is written whole, and read whole. Layer 3, walked: the program's reader: skip, run, one, part.
-/
import Derived.Test.YtmagokkegadmiaaGreatDoorG03
import Derived.Test.YtmagokkegadmiaaGreatDoorG04
import Derived.Test.YtmagokkegadmiaaGreatDoorG05
import Derived.Test.YtmagokkegadmiaaGreatDoorG07
import Derived.Test.YtmagokkegadmiaaGreatDoorG09
import Derived.Test.YtmagokkegadmiaaGreatDoorG16
import Derived.Test.YtmagokkegadmiaaGreatDoorG20
import Derived.Test.YtmagokkegadmiaaGreatDoorG21
import Derived.Deep.MidRow
import Derived.Deep.RegionHeld
import Derived.Deep.RegionHeld3
namespace Go.Proofs.YtmagokkegadmiaaGreatDoor
open Go.RowKit

section
variable {k : Ky}
set_option maxRecDepth 100000 in
set_option maxHeartbeats 4000000 in
theorem rshown_any (k : Ky) (hk : okK k) (w : World) : Calls Tryz.prog 14 #[kyV k] w fun e w' => e = .returned (.int .i64 (shownK k)) ∧ Below w.heap.size w w' := by
  have hB := ky_box w k
  have hhas := rhas10_any k.mods 1 (by decide) (by decide) hk.mods.2 (w.alloc (.cells (kyC k) 25))
  have k0 := Blk.new w 25 (kyC k)
  have hsh : shownK k = if hasN k.mods 1 = false then k.code else if k.shift ≠ 0 then k.shift else if 97 ≤ k.code ∧ k.code ≤ 122 then k.code - 32 else k.code := rfl
  obtain ⟨p, hp⟩ : ∃ p, hasN k.mods 1 = p := ⟨_, rfl⟩
  have hc := hk.code
  rw [hp] at hhas hsh
  clear hk hp
  rw [kyV]
  rw [kyC] at hB hhas k0
  obtain ⟨code, mods, typ, shift, base, text⟩ := k
  simp only at hB hhas k0 hsh hc ⊢
  go_enter Tryz.func14, Tryz.ntmps14
  have a0 := k0.cell 0
  have a1 := k0.cell 1
  have a3 := k0.cell 3
  have HSH := Lib.hid hsh
  clear hsh
  go_wp2_with fail
  refine hhas.mono ?_
  clear hhas
  rintro e w1 ⟨rfl, hb1⟩
  have k1 := k0.below hb1 k0.lt
  have hB1 := hB.trans (hb1.mono hB.size)
  clear k0 hB hb1 a0 a1 a3
  have a0 := k1.cell 0
  have a3 := k1.cell 3
  cases p with
  | false =>
    go_wp2_with fail
    go_ret
    exact ⟨ret_i (by rw [HSH.out]; rfl), hB1⟩
  | true =>
    by_cases h3 : shift = 0
    · subst h3
      by_cases h4 : 97 ≤ code
      · by_cases h5 : code ≤ 122
        · go_wp2_with fail
          go_ret
          exact ⟨ret_i (by rw [HSH.out, if_neg (by decide), if_neg (fun h => h rfl), if_pos ⟨h4, h5⟩]), hB1⟩
        · have h6 : 122 < code := by omega
          go_wp2_with fail
          go_ret
          exact ⟨ret_i (by rw [HSH.out, if_neg (by decide), if_neg (fun h => h rfl), if_neg (by omega)]), hB1⟩
      · have h6 : code < 97 := by omega
        go_wp2_with fail
        go_ret
        exact ⟨ret_i (by rw [HSH.out, if_neg (by decide), if_neg (fun h => h rfl), if_neg (by omega)]), hB1⟩
    · have h5 : (shift == 0) = false := beq_false_of_ne h3
      have h6 : (shift != 0) = true := by simp [bne, h5]
      have H3 := Lib.hid h3
      clear h3
      go_wp2_with fail
      go_ret
      exact ⟨ret_i (by rw [HSH.out, if_neg (by decide), if_pos H3.out]), hB1⟩
end
section
end
section
end
end Go.Proofs.YtmagokkegadmiaaGreatDoor
namespace Go.Proofs.YtmagokkegadmiaaGreatDoor
open Go.RowKit Go.Maps

def foldP : List (Int × Int) := [(32, 0), (47, 31), (50, 0), (51, 27), (52, 28), (53, 29), (54, 30), (55, 31), (56, 127), (63, 127), (64, 0), (91, 27), (92, 28), (93, 29), (94, 30), (95, 31), (97, 1), (98, 2), (99, 3), (100, 4), (101, 5), (102, 6), (103, 7), (104, 8), (105, 9), (106, 10), (107, 11), (108, 12), (109, 13), (110, 14), (111, 15), (112, 16), (113, 17), (114, 18), (115, 19), (116, 20), (117, 21), (118, 22), (119, 23), (120, 24), (121, 25), (122, 26)]
def foldsL : List (Lit × DataW Value) := foldP.map fun q => (.int .i32 q.1, .held (.int .i64 q.2))
def foldE : List (Lit × Value) := [(.int .i32 32, .int .i64 0), (.int .i32 50, .int .i64 0), (.int .i32 64, .int .i64 0), (.int .i32 97, .int .i64 1), (.int .i32 98, .int .i64 2), (.int .i32 99, .int .i64 3), (.int .i32 100, .int .i64 4), (.int .i32 101, .int .i64 5), (.int .i32 102, .int .i64 6), (.int .i32 103, .int .i64 7), (.int .i32 104, .int .i64 8), (.int .i32 105, .int .i64 9), (.int .i32 106, .int .i64 10), (.int .i32 107, .int .i64 11), (.int .i32 108, .int .i64 12), (.int .i32 109, .int .i64 13), (.int .i32 110, .int .i64 14), (.int .i32 111, .int .i64 15), (.int .i32 112, .int .i64 16), (.int .i32 113, .int .i64 17), (.int .i32 114, .int .i64 18), (.int .i32 115, .int .i64 19), (.int .i32 116, .int .i64 20), (.int .i32 117, .int .i64 21), (.int .i32 118, .int .i64 22), (.int .i32 119, .int .i64 23), (.int .i32 120, .int .i64 24), (.int .i32 121, .int .i64 25), (.int .i32 122, .int .i64 26), (.int .i32 51, .int .i64 27), (.int .i32 91, .int .i64 27), (.int .i32 52, .int .i64 28), (.int .i32 92, .int .i64 28), (.int .i32 53, .int .i64 29), (.int .i32 93, .int .i64 29), (.int .i32 54, .int .i64 30), (.int .i32 94, .int .i64 30), (.int .i32 55, .int .i64 31), (.int .i32 47, .int .i64 31), (.int .i32 95, .int .i64 31), (.int .i32 56, .int .i64 127), (.int .i32 63, .int .i64 127)]
theorem fold_rise : foldsL.Pairwise (fun p q => p.1.before q.1 = true) := List.pairwise_map.2 ((show foldP.Pairwise (fun a b => a.1 < b.1) by decide +kernel).imp fun h => by simpa [Lit.before] using h)
theorem fold_lit : ∀ p ∈ foldsL, WideAt.IsKeyLit p.1 := by
  intro p hp
  obtain ⟨q, _, rfl⟩ := List.mem_map.1 hp
  exact trivial
/-- A character as it is looked for. -/
def lowC (c : Int) : Int := if 65 ≤ c ∧ c ≤ 90 then c + 32 else c
theorem fold_row : ∀ c : Fin 128, ((foldN (c.val : Int)).2 = true → (lowC (c.val : Int), (foldN (c.val : Int)).1) ∈ foldP) ∧ ((foldN (c.val : Int)).2 = false → ∀ q ∈ foldP, q.1 ≠ lowC (c.val : Int)) := by decide +kernel
theorem fold_large_no {c : Int} (h : c < 0 ∨ 128 ≤ c) : foldN c = (0, false) := by
  unfold foldN
  rw [if_neg (by omega), if_neg (by omega), if_neg (by omega), if_neg (by omega), if_neg (by omega), if_neg (by omega)]
theorem fold_at_map {c : Int} (h0 : 0 ≤ c) (h1 : c < 128) : (DataW.map foldsL : DataW Value).atKey (.int .i32 (lowC c)) (.held (.int .i64 0)) = .held (.int .i64 (foldN c).1) ∧ Maps.has (DataW.map foldsL : DataW Value) (.int .i32 (lowC c)) = (foldN c).2 := by
  obtain ⟨n, rfl⟩ := Int.eq_ofNat_of_zero_le h0
  have hr := fold_row ⟨n, by omega⟩
  have hrng := fold_rng (n : Int)
  cases hb : (foldN (n : Int)).2 with
  | true =>
    have hm : ((.int .i32 (lowC (n : Int)), .held (.int .i64 (foldN (n : Int)).1)) : Lit × DataW Value) ∈ foldsL := List.mem_map.2 ⟨_, hr.1 hb, rfl⟩
    exact ⟨WideAt.atKey_mem _ trivial (apart_of_rising fold_rise) hm, has_true_of_atKey fun z => WideAt.atKey_mem z trivial (apart_of_rising fold_rise) hm⟩
  | false =>
    have key : ∀ q ∈ foldsL, q.1 ≠ Lit.int .i32 (lowC (n : Int)) := by
      intro q hq
      obtain ⟨x, hx, rfl⟩ := List.mem_map.1 hq
      intro e
      exact hr.2 hb x hx (by injection e)
    rw [hrng.2 hb]
    exact ⟨WideAt.atKey_none _ key, has_false_of_atKey fun z => WideAt.atKey_none z key⟩
theorem below_but10 {B b : Nat} {a w w' : World} (h : Below B a w) (hg : w.grownBy w' (some b)) (hB : B ≤ w.heap.size) (hb : B ≤ b) : Below B a w' :=
  ⟨hg.os.trans h.os, hg.tape.trans h.tape, hg.output.trans h.output, Nat.le_trans h.size hg.size, fun k hk => (hg.block k (Nat.lt_of_lt_of_le hk hB) (fun e => by injection e with e; omega)).trans (h.block k hk)⟩
/-- Entries that are laid in turn. -/
inductive InsL (P : Program) (T K : TypeId) (a : Act) (b : Nat) : List Oper → List (Lit × Value) → List Oper → Prop
  | nil {l : List Oper} : InsL P T K a b l [] l
  | cons {o : Oper} {l r : List Oper} {k : Lit} {v : Value} {es : List (Lit × Value)} (h : ∃ m x y key, o.op = .insert T m x y ∧ o.guard = none ∧ o.dst = none ∧ a.eval m = .map (some b) ∧ a.eval x = key ∧ keyOf P K key = some k ∧ a.eval y = v)
      (hs : InsL P T K a b l es r) : InsL P T K a b (o :: l) ((k, v) :: es) r
def putsD : List (Lit × Value) → DataW Value → DataW Value
  | [], D => D
  | (k, v) :: es, D => putsD es (D.put k (.held v))
theorem wpList_insL {P : Program} {ops : Array Oper} {Q : Exit → Act → World → Prop} {T K E : TypeId} (KK : Keyed P K) (hT : P.underlying T = some (.map K E)) {a : Act} {b : Nat} {os r : List Oper} {es : List (Lit × Value)} (h : InsL P T K a b os es r) :
    ∀ {n : Nat} {D : DataW Value} {w : World}, w.ownsMap P K hel b n D → n + es.length < maxLen → (∀ w' m, w'.ownsMap P K hel b m (putsD es D) → w.grownBy w' (some b) → wpList P ops Q r a w') → wpList P ops Q os a w := by
  induction h with
  | nil => exact fun hown _ hK => hK _ _ hown (World.grownBy.refl _ _)
  | @cons o l r k v es ho _ ih =>
    intro n D w hown hn hK
    obtain ⟨m, x, y, key, hop, hg, hd, hm, hx, hkey, hv⟩ := ho
    obtain ⟨w', hrun, h1, h2⟩ := hown.store KK hT (by simp at hn; omega) hkey (show hel v = some (.held v, []) from rfl)
    refine wpList_plain hg fun K hKK => ?_
    unfold Oper.wp
    have e : (execOp a.eval o).run P w = .ok .skip w' := by
      unfold execOp
      rw [hop]
      simp [hm, hx, hv, hrun, Result.andThen]
    rw [e, Oper.upon_skip, hd]
    refine hKK _ _ (ih h1 (by simp at hn; omega) fun w2 m2 o2 g2 => hK w2 m2 o2 (h2.grown.trans g2))
def FoldsE (w : World) (e : Ending) (w' : World) : Prop := ∃ b n, e = .returned (.map (some b)) ∧ w'.ownsMap Tryz.prog 21 hel b n (.map foldsL) ∧ Below w.heap.size w w'
theorem fold_puts : putsD foldE (.map []) = .map foldsL := by kernel_rfl
set_option maxRecDepth 100000 in
set_option maxHeartbeats 8000000 in
theorem folds_any (w : World) : Calls Tryz.prog 107 #[] w (FoldsE w) := by
  go_enter Tryz.func107, Tryz.ntmps107
  go_wp2_with fail
  rename_i K hK
  rw [run_makeMap, Result.andThen_ok, Oper.upon_value]
  refine hK _ _ ?_
  have hown := World.ownsMap_made w Tryz.prog 21 hel
  have hb2 : Below w.heap.size w (w.alloc (.map #[] 0)) := (Below.refl _ w).alloc (Nat.le_refl _) _
  obtain ⟨b, hb⟩ : ∃ b, w.heap.size = b := ⟨_, rfl⟩
  have hsz : b ≤ (w.alloc (.map #[] 0)).heap.size := by simp; omega
  rw [hb] at hown hb2 ⊢
  obtain ⟨w2, hw2⟩ : ∃ w2, w.alloc (.map #[] 0) = w2 := ⟨_, rfl⟩
  rw [hw2] at hown hb2 hsz ⊢
  clear hw2 hK
  refine wpList_insL (T := 138) (K := 21) (E := 3) (int_keyed Tryz.underlying21) Tryz.underlying138 (b := b) (es := foldE) ((.cons ⟨_, _, _, _, rfl, rfl, rfl, by kernel_rfl, rfl, by kernel_rfl, by kernel_rfl⟩ (.cons ⟨_, _, _, _, rfl, rfl, rfl, by kernel_rfl, rfl, by kernel_rfl, by kernel_rfl⟩ (.cons ⟨_, _, _, _, rfl, rfl, rfl, by kernel_rfl, rfl, by kernel_rfl, by kernel_rfl⟩ (.cons ⟨_, _, _, _, rfl, rfl, rfl, by kernel_rfl, rfl, by kernel_rfl, by kernel_rfl⟩ (.cons ⟨_, _, _, _, rfl, rfl, rfl, by kernel_rfl, rfl, by kernel_rfl, by kernel_rfl⟩ (.cons ⟨_, _, _, _, rfl, rfl, rfl, by kernel_rfl, rfl, by kernel_rfl, by kernel_rfl⟩ (.cons ⟨_, _, _, _, rfl, rfl, rfl, by kernel_rfl, rfl, by kernel_rfl, by kernel_rfl⟩ (.cons ⟨_, _, _, _, rfl, rfl, rfl, by kernel_rfl, rfl, by kernel_rfl, by kernel_rfl⟩ (.cons ⟨_, _, _, _, rfl, rfl, rfl, by kernel_rfl, rfl, by kernel_rfl, by kernel_rfl⟩ (.cons ⟨_, _, _, _, rfl, rfl, rfl, by kernel_rfl, rfl, by kernel_rfl, by kernel_rfl⟩ (.cons ⟨_, _, _, _, rfl, rfl, rfl, by kernel_rfl, rfl, by kernel_rfl, by kernel_rfl⟩ (.cons ⟨_, _, _, _, rfl, rfl, rfl, by kernel_rfl, rfl, by kernel_rfl, by kernel_rfl⟩ (.cons ⟨_, _, _, _, rfl, rfl, rfl, by kernel_rfl, rfl, by kernel_rfl, by kernel_rfl⟩ (.cons ⟨_, _, _, _, rfl, rfl, rfl, by kernel_rfl, rfl, by kernel_rfl, by kernel_rfl⟩ (.cons ⟨_, _, _, _, rfl, rfl, rfl, by kernel_rfl, rfl, by kernel_rfl, by kernel_rfl⟩ (.cons ⟨_, _, _, _, rfl, rfl, rfl, by kernel_rfl, rfl, by kernel_rfl, by kernel_rfl⟩ (.cons ⟨_, _, _, _, rfl, rfl, rfl, by kernel_rfl, rfl, by kernel_rfl, by kernel_rfl⟩ (.cons ⟨_, _, _, _, rfl, rfl, rfl, by kernel_rfl, rfl, by kernel_rfl, by kernel_rfl⟩ (.cons ⟨_, _, _, _, rfl, rfl, rfl, by kernel_rfl, rfl, by kernel_rfl, by kernel_rfl⟩ (.cons ⟨_, _, _, _, rfl, rfl, rfl, by kernel_rfl, rfl, by kernel_rfl, by kernel_rfl⟩ (.cons ⟨_, _, _, _, rfl, rfl, rfl, by kernel_rfl, rfl, by kernel_rfl, by kernel_rfl⟩ (.cons ⟨_, _, _, _, rfl, rfl, rfl, by kernel_rfl, rfl, by kernel_rfl, by kernel_rfl⟩ (.cons ⟨_, _, _, _, rfl, rfl, rfl, by kernel_rfl, rfl, by kernel_rfl, by kernel_rfl⟩ (.cons ⟨_, _, _, _, rfl, rfl, rfl, by kernel_rfl, rfl, by kernel_rfl, by kernel_rfl⟩ (.cons ⟨_, _, _, _, rfl, rfl, rfl, by kernel_rfl, rfl, by kernel_rfl, by kernel_rfl⟩ (.cons ⟨_, _, _, _, rfl, rfl, rfl, by kernel_rfl, rfl, by kernel_rfl, by kernel_rfl⟩ (.cons ⟨_, _, _, _, rfl, rfl, rfl, by kernel_rfl, rfl, by kernel_rfl, by kernel_rfl⟩ (.cons ⟨_, _, _, _, rfl, rfl, rfl, by kernel_rfl, rfl, by kernel_rfl, by kernel_rfl⟩ (.cons ⟨_, _, _, _, rfl, rfl, rfl, by kernel_rfl, rfl, by kernel_rfl, by kernel_rfl⟩ (.cons ⟨_, _, _, _, rfl, rfl, rfl, by kernel_rfl, rfl, by kernel_rfl, by kernel_rfl⟩ (.cons ⟨_, _, _, _, rfl, rfl, rfl, by kernel_rfl, rfl, by kernel_rfl, by kernel_rfl⟩ (.cons ⟨_, _, _, _, rfl, rfl, rfl, by kernel_rfl, rfl, by kernel_rfl, by kernel_rfl⟩ (.cons ⟨_, _, _, _, rfl, rfl, rfl, by kernel_rfl, rfl, by kernel_rfl, by kernel_rfl⟩ (.cons ⟨_, _, _, _, rfl, rfl, rfl, by kernel_rfl, rfl, by kernel_rfl, by kernel_rfl⟩ (.cons ⟨_, _, _, _, rfl, rfl, rfl, by kernel_rfl, rfl, by kernel_rfl, by kernel_rfl⟩ (.cons ⟨_, _, _, _, rfl, rfl, rfl, by kernel_rfl, rfl, by kernel_rfl, by kernel_rfl⟩ (.cons ⟨_, _, _, _, rfl, rfl, rfl, by kernel_rfl, rfl, by kernel_rfl, by kernel_rfl⟩ (.cons ⟨_, _, _, _, rfl, rfl, rfl, by kernel_rfl, rfl, by kernel_rfl, by kernel_rfl⟩ (.cons ⟨_, _, _, _, rfl, rfl, rfl, by kernel_rfl, rfl, by kernel_rfl, by kernel_rfl⟩ (.cons ⟨_, _, _, _, rfl, rfl, rfl, by kernel_rfl, rfl, by kernel_rfl, by kernel_rfl⟩ (.cons ⟨_, _, _, _, rfl, rfl, rfl, by kernel_rfl, rfl, by kernel_rfl, by kernel_rfl⟩ (.cons ⟨_, _, _, _, rfl, rfl, rfl, by kernel_rfl, rfl, by kernel_rfl, by kernel_rfl⟩ .nil))))))))))))))))))))))))))))))))))))))))))) hown (by show 0 + 42 < maxLen; decide) (fun w3 m hown3 hg3 => ?_)
  rw [fold_puts] at hown3
  have hB3 := below_but10 hb2 hg3 hsz (Nat.le_refl _)
  go_wp2_with fail
  go_ret
  rw [← hb] at hB3
  exact ⟨b, _, rfl, hown3, hB3⟩
theorem zero_int (w : World) : (zeroValue 3).run Tryz.prog w = .ok (.int .i64 0) w := by kernel_rfl
theorem key_i32 {n : Int} (h0 : 0 ≤ n) (h1 : n < 128) : keyOf Tryz.prog 21 (.int .i32 n) = some (.int .i32 n) := keyOf_int_mk Tryz.underlying21 (WalkArith.wf_i32 (by omega))
theorem fold_look {w : World} {b k : Nat} {n v : Int} {q : Bool} (h : w.ownsMap Tryz.prog 21 hel b k (.map foldsL)) (hn0 : 0 ≤ n) (hn1 : n < 128) (ha : (DataW.map foldsL : DataW Value).atKey (.int .i32 n) (.held (.int .i64 0)) = .held (.int .i64 v)) (hq : Maps.has (DataW.map foldsL : DataW Value) (.int .i32 n) = q) :
    (Instr.lookup 138 (.map (some b)) (.int .i32 n) true).run Tryz.prog w = .ok (.tuple #[.int .i64 v, .bool q]) w := by
  obtain ⟨v1, p1, h1, e1⟩ := h.look_ok (int_keyed Tryz.underlying21) Tryz.underlying138 (zero_int w) (show hel (.int .i64 0) = some (.held (.int .i64 0), []) from rfl) (key_i32 hn0 hn1)
  rw [ha] at e1
  have e1' : v1 = .int .i64 v := by simpa [hel] using congrArg (Option.map Prod.fst) e1
  rw [e1', hq] at h1
  exact h1
set_option maxRecDepth 100000 in
set_option maxHeartbeats 8000000 in
theorem pfold_any (c : Int) (w : World) (_hc : in10 c) : Calls Tryz.prog 91 #[.int .i64 c] w fun e w' => e = .returned (.tuple #[.int .i64 (foldN c).1, .bool (foldN c).2]) ∧ Below w.heap.size w w' := by
  by_cases h0 : c < 0
  · rw [fold_large_no (.inl h0)]
    go_enter Tryz.func91, Tryz.ntmps91
    go_wp2_with fail
    go_ret2
    exact ⟨rfl, Below.refl _ _⟩
  by_cases h1 : 128 ≤ c
  · rw [fold_large_no (.inr h1)]
    go_enter Tryz.func91, Tryz.ntmps91
    go_wp2_with fail
    go_ret2
    exact ⟨rfl, Below.refl _ _⟩
  obtain ⟨ha, hq⟩ := fold_at_map (c := c) (by omega) (by omega)
  obtain ⟨v, hv⟩ : ∃ v, (foldN c).1 = v := ⟨_, rfl⟩
  obtain ⟨q, hq2⟩ : ∃ q, (foldN c).2 = q := ⟨_, rfl⟩
  rw [hv] at ha ⊢
  rw [hq2] at hq ⊢
  clear hv hq2
  have e0 : IntKind.i32.wrap c = c := by rw [IntKind.wrap_i32]; omega
  obtain ⟨d, hd⟩ : ∃ d, lowC c = d := ⟨_, rfl⟩
  rw [hd] at ha hq
  have HA := Lib.hid ha
  have HQ := Lib.hid hq
  clear ha hq
  by_cases hcap : 65 ≤ c ∧ c ≤ 90
  · obtain ⟨c1, c2⟩ := hcap
    have hdc : c + 32 = d := by rw [← hd]; unfold lowC; rw [if_pos ⟨c1, c2⟩]
    have e1 : IntKind.i32.wrap (c - 65) = c - 65 := by rw [IntKind.wrap_i32]; omega
    have e2 : IntKind.i32.wrap (c - 65 + 97) = d := by rw [IntKind.wrap_i32]; omega
    have d0 : 0 ≤ d := by omega
    have d1 : d < 128 := by omega
    clear hd hdc
    go_enter Tryz.func91, Tryz.ntmps91
    go_wp2_with fail
    refine (folds_any _).mono ?_
    rintro e w1 ⟨b, n, rfl, hown, hb1⟩
    have hl := fold_look hown d0 d1 HA.out HQ.out
    go_wp2_with fail
    go_ret2
    exact ⟨rfl, hb1⟩
  · have hdc : c = d := by rw [← hd]; unfold lowC; rw [if_neg hcap]
    subst hdc
    clear hd
    by_cases c1 : 65 ≤ c
    · have c2 : ¬ c ≤ 90 := by omega
      clear hcap
      go_enter Tryz.func91, Tryz.ntmps91
      go_wp2_with fail
      refine (folds_any _).mono ?_
      rintro e w1 ⟨b, n, rfl, hown, hb1⟩
      have hl := fold_look hown (by omega) (by omega) HA.out HQ.out
      go_wp2_with fail
      go_ret2
      exact ⟨rfl, hb1⟩
    · clear hcap
      go_enter Tryz.func91, Tryz.ntmps91
      go_wp2_with fail
      refine (folds_any _).mono ?_
      rintro e w1 ⟨b, n, rfl, hown, hb1⟩
      have hl := fold_look hown (by omega) (by omega) HA.out HQ.out
      go_wp2_with fail
      go_ret2
      exact ⟨rfl, hb1⟩
end Go.Proofs.YtmagokkegadmiaaGreatDoor
namespace Go.Proofs.YtmagokkegadmiaaGreatDoor
open Go.RowKit

section
variable {w w' : World} {g : Nat} {t : TypeId} {cs ds : Array Value}
theorem Blk.there (h : Blk w g t cs) : w.there g 0 cs.size := fun j hj => by
  rw [Nat.zero_add]
  exact ⟨by rw [h.cell j]; simp [hj], h.frozen j⟩
theorem Blk.range (h : Blk w g t cs) : w.rangeAt g 0 cs.toList := fun j v hv => by
  rw [Nat.zero_add, h.cell j]
  simpa using hv
theorem setCells_blk {g : Nat} {t : TypeId} : ∀ (vs pre old : List Value) (w : World), old.length = vs.length → Blk w g t (pre ++ old).toArray → Blk (w.setCells g pre.length vs) g t (pre ++ vs).toArray
  | [], pre, old, w, hl, h => by
    rw [List.length_eq_zero_iff.1 hl] at h
    exact h
  | v :: vs, pre, u :: old, w, hl, h => by
    have h1 : Blk (w.setCell ⟨g, pre.length, none⟩ v) g t ((pre ++ [v]) ++ old).toArray := by
      have h2 := h.set pre.length v
      have e : (pre ++ u :: old).toArray.setIfInBounds pre.length v = ((pre ++ [v]) ++ old).toArray := by
        rw [List.setIfInBounds_toArray, List.set_append_right _ _ (Nat.le_refl _), Nat.sub_self, List.set_cons_zero, List.append_assoc]
        rfl
      rwa [e] at h2
    have h3 := setCells_blk vs (pre ++ [v]) old _ (by simpa using hl) h1
    rw [List.length_append, List.append_assoc] at h3
    exact h3
/-- All of it is written. -/
theorem Blk.setAll (h : Blk w g t cs) (hs : ds.size = cs.size) : Blk (w.setCells g 0 ds.toList) g t ds := by
  obtain ⟨l⟩ := cs
  obtain ⟨m⟩ := ds
  have := setCells_blk (g := g) (t := t) m [] l w (by simpa using hs.symm) h
  exact this
/-- The store's run, as a rule. -/
theorem Blk.run_set {P : Program} (h : Blk w g t cs) (ds : Array Value) (hs : ds.size = cs.size) (hi : (P.info? t).map (·.size) = some cs.size) (h1 : ds.toList.all (·.oneCell') = true) :
    (Instr.storeAt t (.pointer (some ⟨g, 0, none⟩)) (.agg ds)).run P w = .ok () (w.setCells g 0 ds.toList) :=
  run_storeAt_mid w g 0 t ds (by rw [hs]; exact h.there) (by rw [hi, hs]) (by rw [← Array.all_toList]; exact h1)
/-- At the list of a plain region's operations: a struct stored whole. -/
theorem Blk.wp_set {P : Program} {ops : Array Oper} {rest : List Oper} {op : Oper} {a : Act} {Q : Exit → Act → World → Prop} (h : Blk w g t cs) (ds : Array Value) (hs : ds.size = cs.size) (hi : (P.info? t).map (·.size) = some cs.size) (h1 : ds.toList.all (·.oneCell') = true)
    (hgd : op.guard = none) (x y : Operand) (ho : op.op = .store t x y) (hx : a.eval x = .pointer (some ⟨g, 0, none⟩)) (hy : a.eval y = .agg ds)
    (hK : ∀ w', Blk w' g t ds → w.grownBy w' (some g) → wpList P ops Q rest (a.put op.dst undef) w') : wpList P ops Q (op :: rest) a w :=
  wpList_store_mid hgd t x y ho g 0 ds hx hy (by rw [hs]; exact h.there) (by rw [hi, hs]) (by rw [← Array.all_toList]; exact h1) (hK _ (h.setAll hs) (grown_setCells g _ 0 w))
end
end Go.Proofs.YtmagokkegadmiaaGreatDoor
namespace Go.Proofs.YtmagokkegadmiaaGreatDoor
open Go.RowKit

/-- A taker's box: the bytes, where it stands, the sequence's six fields. -/
def tkC (A : Option Addr) (n c at_ : Nat) (x0 x1 x2 x3 x4 x5 : Value) : Array Value := #[.slice A n c, .int .i64 (at_ : Int), x0, x1, x2, x3, x4, x5]
/-- A reader that has so many bytes left. -/
def Rdr (w : World) (g : Nat) (A : Option Addr) (c : Nat) (l : List UInt8) (x0 x1 x2 x3 x4 x5 : Value) (r : List UInt8) : Prop :=
  ∃ at_ : Nat, at_ ≤ l.length ∧ l.drop at_ = r ∧ RdIn g w A (bs l) ∧ Blk w g 91 (tkC A l.length c at_ x0 x1 x2 x3 x4 x5)
theorem bytesIn_of {w : World} {A : Option Addr} {l : List UInt8} (h : Rd w A (bs l)) : Lib.BytesIn w A l.length (l.map fun x => (x.toNat : Int)) := fun hn => by
  obtain ⟨b, o, rfl, _, hc⟩ := h.at_ hn
  refine ⟨b, o, rfl, fun i hi => ?_⟩
  rw [hc i hi]
  simp [List.getD, List.getElem?_eq_getElem hi]
theorem hasp_any (A1 A2 : Option Addr) (n c m d : Nat) (l t : List UInt8) (q : Bool) (w : World) (hl : l.length = n) (ht : t.length = m) (hc : n ≤ c) (hq : skipB t l = q) (h1 : Rd w A1 (bs l)) (h2 : Rd w A2 (bs t)) :
    Calls Tryz.prog 79 #[.slice A1 n c, .slice A2 m d] w fun e w' => e = .returned (.bool q) ∧ w = w' := by
  subst hl
  subst ht
  refine (Tryz.bytes_HasPrefix_all A1 A2 _ c _ d (l.map fun x => (x.toNat : Int)) (t.map fun x => (x.toNat : Int)) w (by simp) (by simp) hc (bytesIn_of h1) (bytesIn_of h2)).mono ?_
  rintro e w' ⟨rfl, rfl⟩
  refine ⟨?_, rfl⟩
  have e : ∀ k : List UInt8, Lib.bytesOf (k.map fun x => (x.toNat : Int)) = k := fun k => by
    unfold Lib.bytesOf
    rw [List.map_map]
    calc k.map ((fun n : Int => UInt8.ofNat n.toNat) ∘ fun x : UInt8 => (x.toNat : Int)) = k.map id := List.map_congr_left (fun x _ => by simp)
      _ = k := List.map_id k
  rw [e, e, ← hq]
  rfl
set_option maxRecDepth 100000 in
set_option maxHeartbeats 4000000 in
theorem skip_any (g : Nat) (A : Option Addr) (c : Nat) (l t r : List UInt8) (x0 x1 x2 x3 x4 x5 : Value) (q : Bool) (w : World) (hq : skipB t r = q) (hlc : l.length ≤ c) (hl : l.length ≤ 4294967296) (ht : t.length ≤ 4294967296) (h : Rdr w g A c l x0 x1 x2 x3 x4 x5 r) :
    Calls Tryz.prog 54 #[.pointer (some ⟨g, 0, none⟩), .string ⟨t.toArray⟩] w fun e w' => e = .returned (.bool q) ∧ Rdr w' g A c l x0 x1 x2 x3 x4 x5 (if q = true then r.drop t.length else r) ∧ w.grownBy w' (some g) := by
  obtain ⟨at_, hat, hr, hrd, hblk⟩ := h
  have hlt := hblk.lt
  obtain ⟨A', hcut, hrd2⟩ := cut_run (P := Tryz.prog) (T := 27) (e := 5) (by kernel_rfl) Tryz.underlying27 Tryz.sizeOf5 A l.length c at_ hat hlc
  have hrd3 := hrd2 g w l rfl hrd
  obtain ⟨C, X, hX⟩ := conv_all Tryz.prog 9 27 5 t Tryz.underlying9 Tryz.underlying27 Tryz.underlying5 (by simp only [maxLen]; omega)
  have hV := fun W => (hX W).1
  have HX := Lib.hid (fun W => (hX W).2.2)
  have c0 : w.cell? ⟨g, 0, none⟩ = some (.slice A l.length c) := hblk.cell 0
  have c1 : w.cell? ⟨g, 1, none⟩ = some (.int .i64 (at_ : Int)) := hblk.cell 1
  have fz := hblk.frozen 1
  have HQ := Lib.hid hq
  have HR := Lib.hid hr
  clear hq hr hX
  have n0 : (0 : Int) ≤ (at_ : Int) := by omega
  have n1 : (at_ : Int) ≤ (l.length : Int) := by omega
  go_enter Tryz.func54, Tryz.ntmps54
  go_wp2_with fail
  have HB : Hid (∀ W, Below w.heap.size w W → Below w.heap.size w (X W)) := Lib.hid fun W hb => hb.trans ((HX.out W).2.mono hb.size)
  have HS : Hid (∀ W, Below w.heap.size w W → W.cell? ⟨g, 0, none⟩ = some (.slice A l.length c) ∧ W.cell? ⟨g, 1, none⟩ = some (.int .i64 (at_ : Int)) ∧ Below w.heap.size w W) := Lib.hid fun W hb => ⟨(hb.cell (p := ⟨g, 0, none⟩) hlt).trans c0, (hb.cell (p := ⟨g, 1, none⟩) hlt).trans c1, hb⟩
  have HR3 : Hid (∀ W, Below w.heap.size w W → Rd W A' (bs (l.drop at_))) := Lib.hid fun W hb => ((hrd3.rd (Nat.le_of_lt hlt))).below hb
  have HL := Lib.hid (show (l.drop at_).length = l.length - at_ from List.length_drop)
  have HQ2 := Lib.hid (show skipB t (l.drop at_) = q by rw [HR.out]; exact HQ.out)
  have hlc2 : l.length - at_ ≤ c - at_ := by omega
  have hat2 := hat
  clear hrd2 hrd3
  go_region_held (fun w' => w'.cell? ⟨g, 0, none⟩ = some (.slice A l.length c) ∧ w'.cell? ⟨g, 1, none⟩ = some (.int .i64 (at_ : Int)) ∧ Below w.heap.size w w') (first | exact HS.out _ (Below.refl _ _).drew | exact HS.out _ (HB.out _ (Below.refl _ _).drew)) (first | (go_at_call 79; refine (hasp_any A' _ _ _ _ _ (l.drop at_) t q _ HL.out rfl hlc2 HQ2.out (HR3.out _ (HB.out _ (Below.refl _ _).drew)) (HX.out _).1).mono ?_; rintro e w2 ⟨rfl, rfl⟩))
  have hbX := HB.out _ (Below.refl w.heap.size w).drew
  clear hcut hV HX HS HB HR3 HL hlc2 HQ2
  generalize X w.drew = W1 at *
  clear X
  have hblk1 := hblk.below hbX hlt
  have hrd1 := hrd.below (hbX.mono (Nat.le_of_lt hlt))
  have d1 : W1.cell? ⟨g, 1, none⟩ = some (.int .i64 (at_ : Int)) := hblk1.cell 1
  have fz1 := hblk1.frozen 1
  have hg1 := grown_below (some g) hbX
  clear c0 c1 fz
  cases q with
  | false =>
    go_wp2_with fail
    go_ret
    exact ⟨rfl, ⟨at_, hat, HR.out, hrd1, hblk1⟩, hg1⟩
  | true =>
    have hp := skipB_some HQ.out
    have hlen := congrArg List.length hp
    rw [List.length_append, ← HR.out, List.length_drop] at hlen
    have hle : at_ + t.length ≤ l.length := by omega
    have HP := Lib.hid (show l.drop (at_ + t.length) = r.drop t.length by rw [← HR.out, List.drop_drop])
    clear hp hlen
    go_wp2_with fail
    go_ret
    refine ⟨rfl, ⟨at_ + t.length, hle, HP.out, ?_, ?_⟩, ?_⟩
    · exact RdIn.grown hrd1 (grown_setCell g 1 _ W1) hblk1.lt
    · have := hblk1.set 1 (.int .i64 ((at_ + t.length : Nat) : Int))
      rw [Int.natCast_add] at this
      exact this
    · exact grown_trans hg1 (grown_setCell g 1 _ W1)
end Go.Proofs.YtmagokkegadmiaaGreatDoor
