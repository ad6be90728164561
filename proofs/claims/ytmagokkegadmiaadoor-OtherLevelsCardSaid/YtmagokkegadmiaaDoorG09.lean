/-
  Layer 10, the landed mods: the map of what folds, and Fold. A block that is written whole, and read whole. A sequence of numbers, as a value, and the document's Put of it.
  Cut out of SqnW. Layer 3, walked: the program's small functions: formOf, char, within, isNone. Cut out of WirY: what names no function of any dump. Layer 3, walked: the program's reader: skip, run, one, part.
  Cut out of RdA.
-/
import Derived.Test.YtmagokkegadmiaaDoorG02
import Derived.Test.YtmagokkegadmiaaDoorG03
import Derived.Test.YtmagokkegadmiaaDoorG04
import Derived.Test.YtmagokkegadmiaaDoorG05
import Derived.Test.YtmagokkegadmiaaDoorG06
import Derived.Test.YtmagokkegadmiaaDoorG07
import Derived.Test.YtmagokkegadmiaaDoorG08
import Derived.Deep.MidRow
import Derived.Deep.RegionHeld
namespace Go.Proofs.YtmagokkegadmiaaDoor
open Go.RowKit Go.Maps

def foldP : List (Int × Int) := [(32, 0), (47, 31), (50, 0), (51, 27), (52, 28), (53, 29), (54, 30), (55, 31), (56, 127), (63, 127), (64, 0), (91, 27), (92, 28), (93, 29), (94, 30), (95, 31), (97, 1), (98, 2), (99, 3), (100, 4), (101, 5), (102, 6), (103, 7), (104, 8), (105, 9), (106, 10), (107, 11), (108, 12), (109, 13), (110, 14), (111, 15), (112, 16), (113, 17), (114, 18), (115, 19), (116, 20), (117, 21), (118, 22), (119, 23), (120, 24), (121, 25), (122, 26)]
def foldsL : List (Lit × DataW Value) := foldP.map fun q => (.int .i32 q.1, .held (.int .i64 q.2))
def foldE : List (Lit × Value) := [(.int .i32 32, .int .i64 0), (.int .i32 50, .int .i64 0), (.int .i32 64, .int .i64 0), (.int .i32 97, .int .i64 1), (.int .i32 98, .int .i64 2), (.int .i32 99, .int .i64 3), (.int .i32 100, .int .i64 4), (.int .i32 101, .int .i64 5), (.int .i32 102, .int .i64 6), (.int .i32 103, .int .i64 7), (.int .i32 104, .int .i64 8), (.int .i32 105, .int .i64 9), (.int .i32 106, .int .i64 10), (.int .i32 107, .int .i64 11), (.int .i32 108, .int .i64 12), (.int .i32 109, .int .i64 13), (.int .i32 110, .int .i64 14), (.int .i32 111, .int .i64 15), (.int .i32 112, .int .i64 16), (.int .i32 113, .int .i64 17), (.int .i32 114, .int .i64 18), (.int .i32 115, .int .i64 19), (.int .i32 116, .int .i64 20), (.int .i32 117, .int .i64 21), (.int .i32 118, .int .i64 22), (.int .i32 119, .int .i64 23), (.int .i32 120, .int .i64 24), (.int .i32 121, .int .i64 25), (.int .i32 122, .int .i64 26), (.int .i32 51, .int .i64 27), (.int .i32 91, .int .i64 27), (.int .i32 52, .int .i64 28), (.int .i32 92, .int .i64 28), (.int .i32 53, .int .i64 29), (.int .i32 93, .int .i64 29), (.int .i32 54, .int .i64 30), (.int .i32 94, .int .i64 30), (.int .i32 55, .int .i64 31), (.int .i32 47, .int .i64 31), (.int .i32 95, .int .i64 31), (.int .i32 56, .int .i64 127), (.int .i32 63, .int .i64 127)]
theorem fold_rise : foldsL.Pairwise (fun p q => p.1.before q.1 = true) := List.pairwise_map.2 ((show foldP.Pairwise (fun a b => a.1 < b.1) by decide +kernel).imp fun h => by simpa [Lit.before] using h)
theorem fold_lit : ∀ p ∈ foldsL, WideAt.IsKeyLit p.1 := by
  intro p hp
  obtain ⟨q, _, rfl⟩ := List.mem_map.1 hp
  exact trivial
/-- A character as it is looked for. -/
def lowC (c : Int) : Int := if 65 ≤ c ∧ c ≤ 90 then c + 32 else c
theorem fold_row : ∀ c : Fin 128, ((foldN (c.val : Int)).2 = true → (lowC (c.val : Int), (foldN (c.val : Int)).1) ∈ foldP) ∧ ((foldN (c.val : Int)).2 = false → ∀ q ∈ foldP, q.1 ≠ lowC (c.val : Int)) := by decide +kernel
theorem fold_large_no {c : Int} (h : c < 0 ∨ 128 ≤ c) : foldN c = (0, false) := by
  unfold foldN
  rw [if_neg (by omega), if_neg (by omega), if_neg (by omega), if_neg (by omega), if_neg (by omega), if_neg (by omega)]
theorem fold_at_map {c : Int} (h0 : 0 ≤ c) (h1 : c < 128) : (DataW.map foldsL : DataW Value).atKey (.int .i32 (lowC c)) (.held (.int .i64 0)) = .held (.int .i64 (foldN c).1) ∧ Maps.has (DataW.map foldsL : DataW Value) (.int .i32 (lowC c)) = (foldN c).2 := by
  obtain ⟨n, rfl⟩ := Int.eq_ofNat_of_zero_le h0
  have hr := fold_row ⟨n, by omega⟩
  have hrng := fold_rng (n : Int)
  cases hb : (foldN (n : Int)).2 with
  | true =>
    have hm : ((.int .i32 (lowC (n : Int)), .held (.int .i64 (foldN (n : Int)).1)) : Lit × DataW Value) ∈ foldsL := List.mem_map.2 ⟨_, hr.1 hb, rfl⟩
    exact ⟨WideAt.atKey_mem _ trivial (apart_of_rising fold_rise) hm, has_true_of_atKey fun z => WideAt.atKey_mem z trivial (apart_of_rising fold_rise) hm⟩
  | false =>
    have key : ∀ q ∈ foldsL, q.1 ≠ Lit.int .i32 (lowC (n : Int)) := by
      intro q hq
      obtain ⟨x, hx, rfl⟩ := List.mem_map.1 hq
      intro e
      exact hr.2 hb x hx (by injection e)
    rw [hrng.2 hb]
    exact ⟨WideAt.atKey_none _ key, has_false_of_atKey fun z => WideAt.atKey_none z key⟩
theorem below_but10 {B b : Nat} {a w w' : World} (h : Below B a w) (hg : w.grownBy w' (some b)) (hB : B ≤ w.heap.size) (hb : B ≤ b) : Below B a w' :=
  ⟨hg.os.trans h.os, hg.tape.trans h.tape, hg.output.trans h.output, Nat.le_trans h.size hg.size, fun k hk => (hg.block k (Nat.lt_of_lt_of_le hk hB) (fun e => by injection e with e; omega)).trans (h.block k hk)⟩
/-- Entries that are laid in turn. -/
inductive InsL (P : Program) (T K : TypeId) (a : Act) (b : Nat) : List Oper → List (Lit × Value) → List Oper → Prop
  | nil {l : List Oper} : InsL P T K a b l [] l
  | cons {o : Oper} {l r : List Oper} {k : Lit} {v : Value} {es : List (Lit × Value)} (h : ∃ m x y key, o.op = .insert T m x y ∧ o.guard = none ∧ o.dst = none ∧ a.eval m = .map (some b) ∧ a.eval x = key ∧ keyOf P K key = some k ∧ a.eval y = v)
      (hs : InsL P T K a b l es r) : InsL P T K a b (o :: l) ((k, v) :: es) r
def putsD : List (Lit × Value) → DataW Value → DataW Value
  | [], D => D
  | (k, v) :: es, D => putsD es (D.put k (.held v))
theorem wpList_insL {P : Program} {ops : Array Oper} {Q : Exit → Act → World → Prop} {T K E : TypeId} (KK : Keyed P K) (hT : P.underlying T = some (.map K E)) {a : Act} {b : Nat} {os r : List Oper} {es : List (Lit × Value)} (h : InsL P T K a b os es r) :
    ∀ {n : Nat} {D : DataW Value} {w : World}, w.ownsMap P K hel b n D → n + es.length < maxLen → (∀ w' m, w'.ownsMap P K hel b m (putsD es D) → w.grownBy w' (some b) → wpList P ops Q r a w') → wpList P ops Q os a w := by
  induction h with
  | nil => exact fun hown _ hK => hK _ _ hown (World.grownBy.refl _ _)
  | @cons o l r k v es ho _ ih =>
    intro n D w hown hn hK
    obtain ⟨m, x, y, key, hop, hg, hd, hm, hx, hkey, hv⟩ := ho
    obtain ⟨w', hrun, h1, h2⟩ := hown.store KK hT (by simp at hn; omega) hkey (show hel v = some (.held v, []) from rfl)
    refine wpList_plain hg fun K hKK => ?_
    unfold Oper.wp
    have e : (execOp a.eval o).run P w = .ok .skip w' := by
      unfold execOp
      rw [hop]
      simp [hm, hx, hv, hrun, Result.andThen]
    rw [e, Oper.upon_skip, hd]
    refine hKK _ _ (ih h1 (by simp at hn; omega) fun w2 m2 o2 g2 => hK w2 m2 o2 (h2.grown.trans g2))
def FoldsE (w : World) (e : Ending) (w' : World) : Prop := ∃ b n, e = .returned (.map (some b)) ∧ w'.ownsMap Tryd.prog 21 hel b n (.map foldsL) ∧ Below w.heap.size w w'
theorem fold_puts : putsD foldE (.map []) = .map foldsL := by kernel_rfl
set_option maxRecDepth 100000 in
set_option maxHeartbeats 8000000 in
theorem folds_any (w : World) : Calls Tryd.prog 69 #[] w (FoldsE w) := by
  go_enter Tryd.func69, Tryd.ntmps69
  go_wp2_with fail
  rename_i K hK
  rw [run_makeMap, Result.andThen_ok, Oper.upon_value]
  refine hK _ _ ?_
  have hown := World.ownsMap_made w Tryd.prog 21 hel
  have hb2 : Below w.heap.size w (w.alloc (.map #[] 0)) := (Below.refl _ w).alloc (Nat.le_refl _) _
  obtain ⟨b, hb⟩ : ∃ b, w.heap.size = b := ⟨_, rfl⟩
  have hsz : b ≤ (w.alloc (.map #[] 0)).heap.size := by simp; omega
  rw [hb] at hown hb2 ⊢
  obtain ⟨w2, hw2⟩ : ∃ w2, w.alloc (.map #[] 0) = w2 := ⟨_, rfl⟩
  rw [hw2] at hown hb2 hsz ⊢
  clear hw2 hK
  refine wpList_insL (T := 115) (K := 21) (E := 3) (int_keyed Tryd.underlying21) Tryd.underlying115 (b := b) (es := foldE) ((.cons ⟨_, _, _, _, rfl, rfl, rfl, by kernel_rfl, rfl, by kernel_rfl, by kernel_rfl⟩ (.cons ⟨_, _, _, _, rfl, rfl, rfl, by kernel_rfl, rfl, by kernel_rfl, by kernel_rfl⟩ (.cons ⟨_, _, _, _, rfl, rfl, rfl, by kernel_rfl, rfl, by kernel_rfl, by kernel_rfl⟩ (.cons ⟨_, _, _, _, rfl, rfl, rfl, by kernel_rfl, rfl, by kernel_rfl, by kernel_rfl⟩ (.cons ⟨_, _, _, _, rfl, rfl, rfl, by kernel_rfl, rfl, by kernel_rfl, by kernel_rfl⟩ (.cons ⟨_, _, _, _, rfl, rfl, rfl, by kernel_rfl, rfl, by kernel_rfl, by kernel_rfl⟩ (.cons ⟨_, _, _, _, rfl, rfl, rfl, by kernel_rfl, rfl, by kernel_rfl, by kernel_rfl⟩ (.cons ⟨_, _, _, _, rfl, rfl, rfl, by kernel_rfl, rfl, by kernel_rfl, by kernel_rfl⟩ (.cons ⟨_, _, _, _, rfl, rfl, rfl, by kernel_rfl, rfl, by kernel_rfl, by kernel_rfl⟩ (.cons ⟨_, _, _, _, rfl, rfl, rfl, by kernel_rfl, rfl, by kernel_rfl, by kernel_rfl⟩ (.cons ⟨_, _, _, _, rfl, rfl, rfl, by kernel_rfl, rfl, by kernel_rfl, by kernel_rfl⟩ (.cons ⟨_, _, _, _, rfl, rfl, rfl, by kernel_rfl, rfl, by kernel_rfl, by kernel_rfl⟩ (.cons ⟨_, _, _, _, rfl, rfl, rfl, by kernel_rfl, rfl, by kernel_rfl, by kernel_rfl⟩ (.cons ⟨_, _, _, _, rfl, rfl, rfl, by kernel_rfl, rfl, by kernel_rfl, by kernel_rfl⟩ (.cons ⟨_, _, _, _, rfl, rfl, rfl, by kernel_rfl, rfl, by kernel_rfl, by kernel_rfl⟩ (.cons ⟨_, _, _, _, rfl, rfl, rfl, by kernel_rfl, rfl, by kernel_rfl, by kernel_rfl⟩ (.cons ⟨_, _, _, _, rfl, rfl, rfl, by kernel_rfl, rfl, by kernel_rfl, by kernel_rfl⟩ (.cons ⟨_, _, _, _, rfl, rfl, rfl, by kernel_rfl, rfl, by kernel_rfl, by kernel_rfl⟩ (.cons ⟨_, _, _, _, rfl, rfl, rfl, by kernel_rfl, rfl, by kernel_rfl, by kernel_rfl⟩ (.cons ⟨_, _, _, _, rfl, rfl, rfl, by kernel_rfl, rfl, by kernel_rfl, by kernel_rfl⟩ (.cons ⟨_, _, _, _, rfl, rfl, rfl, by kernel_rfl, rfl, by kernel_rfl, by kernel_rfl⟩ (.cons ⟨_, _, _, _, rfl, rfl, rfl, by kernel_rfl, rfl, by kernel_rfl, by kernel_rfl⟩ (.cons ⟨_, _, _, _, rfl, rfl, rfl, by kernel_rfl, rfl, by kernel_rfl, by kernel_rfl⟩ (.cons ⟨_, _, _, _, rfl, rfl, rfl, by kernel_rfl, rfl, by kernel_rfl, by kernel_rfl⟩ (.cons ⟨_, _, _, _, rfl, rfl, rfl, by kernel_rfl, rfl, by kernel_rfl, by kernel_rfl⟩ (.cons ⟨_, _, _, _, rfl, rfl, rfl, by kernel_rfl, rfl, by kernel_rfl, by kernel_rfl⟩ (.cons ⟨_, _, _, _, rfl, rfl, rfl, by kernel_rfl, rfl, by kernel_rfl, by kernel_rfl⟩ (.cons ⟨_, _, _, _, rfl, rfl, rfl, by kernel_rfl, rfl, by kernel_rfl, by kernel_rfl⟩ (.cons ⟨_, _, _, _, rfl, rfl, rfl, by kernel_rfl, rfl, by kernel_rfl, by kernel_rfl⟩ (.cons ⟨_, _, _, _, rfl, rfl, rfl, by kernel_rfl, rfl, by kernel_rfl, by kernel_rfl⟩ (.cons ⟨_, _, _, _, rfl, rfl, rfl, by kernel_rfl, rfl, by kernel_rfl, by kernel_rfl⟩ (.cons ⟨_, _, _, _, rfl, rfl, rfl, by kernel_rfl, rfl, by kernel_rfl, by kernel_rfl⟩ (.cons ⟨_, _, _, _, rfl, rfl, rfl, by kernel_rfl, rfl, by kernel_rfl, by kernel_rfl⟩ (.cons ⟨_, _, _, _, rfl, rfl, rfl, by kernel_rfl, rfl, by kernel_rfl, by kernel_rfl⟩ (.cons ⟨_, _, _, _, rfl, rfl, rfl, by kernel_rfl, rfl, by kernel_rfl, by kernel_rfl⟩ (.cons ⟨_, _, _, _, rfl, rfl, rfl, by kernel_rfl, rfl, by kernel_rfl, by kernel_rfl⟩ (.cons ⟨_, _, _, _, rfl, rfl, rfl, by kernel_rfl, rfl, by kernel_rfl, by kernel_rfl⟩ (.cons ⟨_, _, _, _, rfl, rfl, rfl, by kernel_rfl, rfl, by kernel_rfl, by kernel_rfl⟩ (.cons ⟨_, _, _, _, rfl, rfl, rfl, by kernel_rfl, rfl, by kernel_rfl, by kernel_rfl⟩ (.cons ⟨_, _, _, _, rfl, rfl, rfl, by kernel_rfl, rfl, by kernel_rfl, by kernel_rfl⟩ (.cons ⟨_, _, _, _, rfl, rfl, rfl, by kernel_rfl, rfl, by kernel_rfl, by kernel_rfl⟩ (.cons ⟨_, _, _, _, rfl, rfl, rfl, by kernel_rfl, rfl, by kernel_rfl, by kernel_rfl⟩ .nil))))))))))))))))))))))))))))))))))))))))))) hown (by show 0 + 42 < maxLen; decide) (fun w3 m hown3 hg3 => ?_)
  rw [fold_puts] at hown3
  have hB3 := below_but10 hb2 hg3 hsz (Nat.le_refl _)
  go_wp2_with fail
  go_ret
  rw [← hb] at hB3
  exact ⟨b, _, rfl, hown3, hB3⟩
theorem zero_int (w : World) : (zeroValue 3).run Tryd.prog w = .ok (.int .i64 0) w := by kernel_rfl
theorem key_i32 {n : Int} (h0 : 0 ≤ n) (h1 : n < 128) : keyOf Tryd.prog 21 (.int .i32 n) = some (.int .i32 n) := keyOf_int_mk Tryd.underlying21 (WalkArith.wf_i32 (by omega))
theorem fold_look {w : World} {b k : Nat} {n v : Int} {q : Bool} (h : w.ownsMap Tryd.prog 21 hel b k (.map foldsL)) (hn0 : 0 ≤ n) (hn1 : n < 128) (ha : (DataW.map foldsL : DataW Value).atKey (.int .i32 n) (.held (.int .i64 0)) = .held (.int .i64 v)) (hq : Maps.has (DataW.map foldsL : DataW Value) (.int .i32 n) = q) :
    (Instr.lookup 115 (.map (some b)) (.int .i32 n) true).run Tryd.prog w = .ok (.tuple #[.int .i64 v, .bool q]) w := by
  obtain ⟨v1, p1, h1, e1⟩ := h.look_ok (int_keyed Tryd.underlying21) Tryd.underlying115 (zero_int w) (show hel (.int .i64 0) = some (.held (.int .i64 0), []) from rfl) (key_i32 hn0 hn1)
  rw [ha] at e1
  have e1' : v1 = .int .i64 v := by simpa [hel] using congrArg (Option.map Prod.fst) e1
  rw [e1', hq] at h1
  exact h1
set_option maxRecDepth 100000 in
set_option maxHeartbeats 8000000 in
theorem pfold_any (c : Int) (w : World) (_hc : in10 c) : Calls Tryd.prog 54 #[.int .i64 c] w fun e w' => e = .returned (.tuple #[.int .i64 (foldN c).1, .bool (foldN c).2]) ∧ Below w.heap.size w w' := by
  by_cases h0 : c < 0
  · rw [fold_large_no (.inl h0)]
    go_enter Tryd.func54, Tryd.ntmps54
    go_wp2_with fail
    go_ret2
    exact ⟨rfl, Below.refl _ _⟩
  by_cases h1 : 128 ≤ c
  · rw [fold_large_no (.inr h1)]
    go_enter Tryd.func54, Tryd.ntmps54
    go_wp2_with fail
    go_ret2
    exact ⟨rfl, Below.refl _ _⟩
  obtain ⟨ha, hq⟩ := fold_at_map (c := c) (by omega) (by omega)
  obtain ⟨v, hv⟩ : ∃ v, (foldN c).1 = v := ⟨_, rfl⟩
  obtain ⟨q, hq2⟩ : ∃ q, (foldN c).2 = q := ⟨_, rfl⟩
  rw [hv] at ha ⊢
  rw [hq2] at hq ⊢
  clear hv hq2
  have e0 : IntKind.i32.wrap c = c := by rw [IntKind.wrap_i32]; omega
  obtain ⟨d, hd⟩ : ∃ d, lowC c = d := ⟨_, rfl⟩
  rw [hd] at ha hq
  have HA := Lib.hid ha
  have HQ := Lib.hid hq
  clear ha hq
  by_cases hcap : 65 ≤ c ∧ c ≤ 90
  · obtain ⟨c1, c2⟩ := hcap
    have hdc : c + 32 = d := by rw [← hd]; unfold lowC; rw [if_pos ⟨c1, c2⟩]
    have e1 : IntKind.i32.wrap (c - 65) = c - 65 := by rw [IntKind.wrap_i32]; omega
    have e2 : IntKind.i32.wrap (c - 65 + 97) = d := by rw [IntKind.wrap_i32]; omega
    have d0 : 0 ≤ d := by omega
    have d1 : d < 128 := by omega
    clear hd hdc
    go_enter Tryd.func54, Tryd.ntmps54
    go_wp2_with fail
    refine (folds_any _).mono ?_
    rintro e w1 ⟨b, n, rfl, hown, hb1⟩
    have hl := fold_look hown d0 d1 HA.out HQ.out
    go_wp2_with fail
    go_ret2
    exact ⟨rfl, hb1⟩
  · have hdc : c = d := by rw [← hd]; unfold lowC; rw [if_neg hcap]
    subst hdc
    clear hd
    by_cases c1 : 65 ≤ c
    · have c2 : ¬ c ≤ 90 := by omega
      clear hcap
      go_enter Tryd.func54, Tryd.ntmps54
      go_wp2_with fail
      refine (folds_any _).mono ?_
      rintro e w1 ⟨b, n, rfl, hown, hb1⟩
      have hl := fold_look hown (by omega) (by omega) HA.out HQ.out
      go_wp2_with fail
      go_ret2
      exact ⟨rfl, hb1⟩
    · clear hcap
      go_enter Tryd.func54, Tryd.ntmps54
      go_wp2_with fail
      refine (folds_any _).mono ?_
      rintro e w1 ⟨b, n, rfl, hown, hb1⟩
      have hl := fold_look hown (by omega) (by omega) HA.out HQ.out
      go_wp2_with fail
      go_ret2
      exact ⟨rfl, hb1⟩
end Go.Proofs.YtmagokkegadmiaaDoor
namespace Go.Proofs.YtmagokkegadmiaaDoor
open Go.RowKit

section
variable {w w' : World} {g : Nat} {t : TypeId} {cs ds : Array Value}
theorem Blk.there (h : Blk w g t cs) : w.there g 0 cs.size := fun j hj => by
  rw [Nat.zero_add]
  exact ⟨by rw [h.cell j]; simp [hj], h.frozen j⟩
theorem Blk.range (h : Blk w g t cs) : w.rangeAt g 0 cs.toList := fun j v hv => by
  rw [Nat.zero_add, h.cell j]
  simpa using hv
theorem setCells_blk {g : Nat} {t : TypeId} : ∀ (vs pre old : List Value) (w : World), old.length = vs.length → Blk w g t (pre ++ old).toArray → Blk (w.setCells g pre.length vs) g t (pre ++ vs).toArray
  | [], pre, old, w, hl, h => by
    rw [List.length_eq_zero_iff.1 hl] at h
    exact h
  | v :: vs, pre, u :: old, w, hl, h => by
    have h1 : Blk (w.setCell ⟨g, pre.length, none⟩ v) g t ((pre ++ [v]) ++ old).toArray := by
      have h2 := h.set pre.length v
      have e : (pre ++ u :: old).toArray.setIfInBounds pre.length v = ((pre ++ [v]) ++ old).toArray := by
        rw [List.setIfInBounds_toArray, List.set_append_right _ _ (Nat.le_refl _), Nat.sub_self, List.set_cons_zero, List.append_assoc]
        rfl
      rwa [e] at h2
    have h3 := setCells_blk vs (pre ++ [v]) old _ (by simpa using hl) h1
    rw [List.length_append, List.append_assoc] at h3
    exact h3
/-- All of it is written. -/
theorem Blk.setAll (h : Blk w g t cs) (hs : ds.size = cs.size) : Blk (w.setCells g 0 ds.toList) g t ds := by
  obtain ⟨l⟩ := cs
  obtain ⟨m⟩ := ds
  have := setCells_blk (g := g) (t := t) m [] l w (by simpa using hs.symm) h
  exact this
/-- The store's run, as a rule. -/
theorem Blk.run_set {P : Program} (h : Blk w g t cs) (ds : Array Value) (hs : ds.size = cs.size) (hi : (P.info? t).map (·.size) = some cs.size) (h1 : ds.toList.all (·.oneCell') = true) :
    (Instr.storeAt t (.pointer (some ⟨g, 0, none⟩)) (.agg ds)).run P w = .ok () (w.setCells g 0 ds.toList) :=
  run_storeAt_mid w g 0 t ds (by rw [hs]; exact h.there) (by rw [hi, hs]) (by rw [← Array.all_toList]; exact h1)
/-- At the list of a plain region's operations: a struct stored whole. -/
theorem Blk.wp_set {P : Program} {ops : Array Oper} {rest : List Oper} {op : Oper} {a : Act} {Q : Exit → Act → World → Prop} (h : Blk w g t cs) (ds : Array Value) (hs : ds.size = cs.size) (hi : (P.info? t).map (·.size) = some cs.size) (h1 : ds.toList.all (·.oneCell') = true)
    (hgd : op.guard = none) (x y : Operand) (ho : op.op = .store t x y) (hx : a.eval x = .pointer (some ⟨g, 0, none⟩)) (hy : a.eval y = .agg ds)
    (hK : ∀ w', Blk w' g t ds → w.grownBy w' (some g) → wpList P ops Q rest (a.put op.dst undef) w') : wpList P ops Q (op :: rest) a w :=
  wpList_store_mid hgd t x y ho g 0 ds hx hy (by rw [hs]; exact h.there) (by rw [hi, hs]) (by rw [← Array.all_toList]; exact h1) (hK _ (h.setAll hs) (grown_setCells g _ 0 w))
end
end Go.Proofs.YtmagokkegadmiaaDoor
namespace Go.Proofs.YtmagokkegadmiaaDoor
open Go.RowKit

theorem sqn_v {kind f : Int} {l : List Int} {n : Nat} (hn : l.length = n) (f0 : 0 ≤ f) (f1 : f < 256) (A : Option Addr) (c : Nat) : sqV (sqN kind f l) A c = .agg #[.int .i64 kind, .int .u8 0, .slice A n c, .string ⟨#[]⟩, .int .u8 f, .string ⟨#[]⟩] := by
  have h : (sqN kind f l).params.length = n := by show (l.map fun n => [n]).length = n; rw [List.length_map]; exact hn
  unfold sqV
  rw [h]
  show Value.agg #[.int .i64 kind, .int .u8 0, .slice A n c, .string ⟨#[]⟩, .int .u8 ((byt f).toNat : Int), .string ⟨#[]⟩] = _
  rw [byt_nat f f0 f1]
end Go.Proofs.YtmagokkegadmiaaDoor
namespace Go.Proofs.YtmagokkegadmiaaDoor
open Go.RowKit

/-- A form as a value. -/
def fmV (f : Fm) : Value := .agg #[.string ⟨f.letter.toArray⟩, .bool f.body, .bool f.inter, .int .u8 (f.first.toNat : Int), .string ⟨f.en.toArray⟩]
def kindB (k : Int) : Bool := decide (k = 1 ∨ k = 2 ∨ k = 3 ∨ k = 4 ∨ k = 5)
theorem fm_0 {k : Int} (h1 : k ≠ 1) (h2 : k ≠ 2) (h3 : k ≠ 3) (h4 : k ≠ 4) (h5 : k ≠ 5) : formF k = ⟨[], false, false, 0, []⟩ := by
  unfold formF; rw [if_neg h1, if_neg h2, if_neg h3, if_neg h4, if_neg h5]

set_option maxRecDepth 100000 in
set_option maxHeartbeats 2000000 in
theorem formOf_any (k : Int) (w : World) :
    Calls Tryd.prog 22 #[.int .i64 k] w fun e w' => e = .returned (.tuple #[fmV (formF k), .bool (kindB k)]) ∧ Below w.heap.size w w' := by
  by_cases h1 : k = 1
  · subst h1
    go_enter Tryd.func22, Tryd.ntmps22
    go_wp2
    exact bodyPost_ret (v := .tuple #[fmV (formF 1), .bool (kindB 1)]) (by simp [results, Tryd.results22, go_sem, fmV, formF, kindB]) rfl ⟨rfl, (Below.refl _ _).alloc (Nat.le_refl _) _⟩
  · by_cases h2 : k = 2
    · subst h2
      go_enter Tryd.func22, Tryd.ntmps22
      go_wp2
      exact bodyPost_ret (v := .tuple #[fmV (formF 2), .bool (kindB 2)]) (by simp [results, Tryd.results22, go_sem, fmV, formF, kindB]) rfl ⟨rfl, (Below.refl _ _).alloc (Nat.le_refl _) _⟩
    · by_cases h3 : k = 3
      · subst h3
        go_enter Tryd.func22, Tryd.ntmps22
        go_wp2
        exact bodyPost_ret (v := .tuple #[fmV (formF 3), .bool (kindB 3)]) (by simp [results, Tryd.results22, go_sem, fmV, formF, kindB]) rfl ⟨rfl, (Below.refl _ _).alloc (Nat.le_refl _) _⟩
      · by_cases h4 : k = 4
        · subst h4
          go_enter Tryd.func22, Tryd.ntmps22
          go_wp2
          exact bodyPost_ret (v := .tuple #[fmV (formF 4), .bool (kindB 4)]) (by simp [results, Tryd.results22, go_sem, fmV, formF, kindB]) rfl ⟨rfl, (Below.refl _ _).alloc (Nat.le_refl _) _⟩
        · by_cases h5 : k = 5
          · subst h5
            go_enter Tryd.func22, Tryd.ntmps22
            go_wp2
            exact bodyPost_ret (v := .tuple #[fmV (formF 5), .bool (kindB 5)]) (by simp [results, Tryd.results22, go_sem, fmV, formF, kindB]) rfl ⟨rfl, (Below.refl _ _).alloc (Nat.le_refl _) _⟩
          · have E := Lib.hid (fm_0 h1 h2 h3 h4 h5)
            have EB := Lib.hid (show kindB k = false by unfold kindB; exact decide_eq_false (by omega))
            have t1 : (k == 1) = false := beq_false_of_ne h1
            have t2 : (k == 2) = false := beq_false_of_ne h2
            have t3 : (k == 3) = false := beq_false_of_ne h3
            have t4 : (k == 4) = false := beq_false_of_ne h4
            have t5 : (k == 5) = false := beq_false_of_ne h5
            clear h1 h2 h3 h4 h5
            go_enter Tryd.func22, Tryd.ntmps22
            go_wp2
            rw [E.out, EB.out]
            exact bodyPost_ret (v := .tuple #[fmV ⟨[], false, false, 0, []⟩, .bool false]) (by simp [results, Tryd.results22, go_sem, fmV]) rfl ⟨rfl, (Below.refl _ _).alloc (Nat.le_refl _) _⟩

theorem char_str (c : UInt8) (h : c.toNat < 128) : Utf8.encode (c.toNat : Int) = ⟨[c].toArray⟩ := by
  have v : Utf8.valid (c.toNat : Int) = true := by simp [Utf8.valid]; omega
  simp [Utf8.encode, v, h]
set_option maxRecDepth 100000 in
set_option maxHeartbeats 2000000 in
theorem pwithin_str (s : ByteArray) (a b : Nat) (q : Bool) (w : World) (hl : s.size ≤ 4294967296) (hq : s.data.toList.all (btw a b) = q) :
    Calls Tryd.prog 43 #[.string s, .int .u8 a, .int .u8 b] w fun e w' => e = .returned (.bool q) ∧ w = w' := by
  have HQ := Lib.hid hq
  clear hq
  go_enter Tryd.func43, Tryd.ntmps43
  go_wp2
  go_loop [10] (fun i => ∃ k : Nat, k ≤ s.size ∧ i = .int .i64 k ∧ (s.data.toList.take k).all (btw a b) = true) (fun i => s.size - (intOf i).toNat)
  case atStart => exact ⟨0, Nat.zero_le _, rfl, rfl⟩
  case round =>
    obtain ⟨k, hk, rfl, hall⟩ := hrel
    have HA := Lib.hid hall
    clear hall
    by_cases hlt : k < s.size
    · have hlt2 : k < s.data.toList.length := by simpa using hlt
      have hby := byte_at s k hlt
      have HB := Lib.hid hby
      have hd := (s[k]'hlt).toNat_lt
      have k0 : (0 : Int) ≤ (k : Int) := by omega
      have k1 : (k : Int) < (s.size : Int) := by omega
      clear hby
      by_cases h1 : (s[k]'hlt).toNat < a
      · have E := Lib.hid (HQ.out.symm.trans (all_no (p := btw a b) hlt2 ((btw_no a b _).2 (by rw [← HB.out]; omega))))
        go_wp2
        go_ret
        exact ⟨ret_b E.out.symm, rfl⟩
      · by_cases h2 : b < (s[k]'hlt).toNat
        · have E := Lib.hid (HQ.out.symm.trans (all_no (p := btw a b) hlt2 ((btw_no a b _).2 (by rw [← HB.out]; omega))))
          go_wp2
          go_ret
          exact ⟨ret_b E.out.symm, rfl⟩
        · have E := Lib.hid (show (s.data.toList.take (k + 1)).all (btw a b) = true by rw [List.take_succ_eq_append_getElem hlt2, List.all_append, HA.out, ← HB.out]; simp [(btw_iff a b _).2 ⟨Nat.le_of_not_lt h1, Nat.le_of_not_lt h2⟩])
          go_wp2
          go_round
          case rel => exact ⟨k + 1, by omega, by go_num, E.out⟩
          case measure => simp [intOf]; omega
    · have E := Lib.hid (show q = true by have := HA.out; rw [List.take_of_length_le (by simp; omega)] at this; exact HQ.out.symm.trans this)
      go_wp2
      go_ret
      exact ⟨ret_b E.out.symm, rfl⟩
theorem pwithin_any (l : List UInt8) (a b : Nat) (q : Bool) (w : World) (hl : l.length ≤ 4294967296) (hq : l.all (btw a b) = q) :
    Calls Tryd.prog 43 #[.string ⟨l.toArray⟩, .int .u8 a, .int .u8 b] w fun e w' => e = .returned (.bool q) ∧ w = w' := by
  exact pwithin_str ⟨l.toArray⟩ a b q w hl hq

end Go.Proofs.YtmagokkegadmiaaDoor
namespace Go.Proofs.YtmagokkegadmiaaDoor
open Go.RowKit

theorem may_1 {s : Sq} (h : s.data.length ≤ 4096) (h1 : okS s = false) : mayS s = 1 := by
  unfold mayS; rw [if_neg (by omega), if_neg (by rw [h1]; decide)]
theorem may_0 {s : Sq} (h : s.data.length ≤ 4096) (h1 : okS s = true) : mayS s = 0 := by
  unfold mayS; rw [if_neg (by omega), if_pos h1]
theorem may_4 {s : Sq} (h : 4096 < s.data.length) : mayS s = 4 := by unfold mayS; rw [if_pos h]
end Go.Proofs.YtmagokkegadmiaaDoor
namespace Go.Proofs.YtmagokkegadmiaaDoor
open Go.RowKit

/-- A string made bytes, at whatever world. -/
theorem conv_all (P : Program) (src dst e : TypeId) (t : List UInt8) (hs : P.underlying src = some .string) (hd : P.underlying dst = some (.slice e)) (he : P.underlying e = some (.int .u8)) (hm : t.length ≤ maxLen) :
    ∃ (C : World → Nat) (X : World → World), ∀ W, (convert src dst (.string ⟨t.toArray⟩)).run P W = .ok (.slice (some ⟨W.heap.size, 0, none⟩) t.length (C W)) (X W) ∧ t.length ≤ C W ∧
      Rd (X W) (some ⟨W.heap.size, 0, none⟩) (bs t) ∧ Below W.heap.size W (X W) := by
  refine ⟨fun W => grownCap W t.length 0 e, fun W => W.drew.alloc (.cells (bytesRow ⟨t.toArray⟩ (grownCap W t.length 0 e)) e ((bytesRow ⟨t.toArray⟩ (grownCap W t.length 0 e)).size, (bytesRow ⟨t.toArray⟩ (grownCap W t.length 0 e)).size + 1)), fun W => ⟨?_, grownCap_ge W t.length 0 e, ?_, ?_⟩⟩
  · have := run_bytes_of_string (P := P) W src dst e ⟨t.toArray⟩ hs hd he
    rw [this]
    rfl
  · obtain ⟨v', w', hr, ho, hg⟩ := run_conv (P := P) W 0 src dst e ⟨t.toArray⟩ hs hd he hm (Nat.zero_le _)
    rw [run_bytes_of_string (P := P) W src dst e ⟨t.toArray⟩ hs hd he] at hr
    injection hr with h1 h2
    subst h1
    subst h2
    exact ho.rd
  · exact ((Below.refl _ W).drew).alloc (by simp) _
end Go.Proofs.YtmagokkegadmiaaDoor
