/-
  Layer 10, the landed mods: the map of what folds, and Fold. Stage 11, the landed legacy: the map of forms, and what is found in it. Layer 9, the landed keys, walked: a row's entry.
-/
import Derived.Test.YtbjmfhcgkpjcfaaGreatDoorG06
import Derived.Test.YtbjmfhcgkpjcfaaGreatDoorG25
import Derived.Test.YtbjmfhcgkpjcfaaGreatDoorG34
namespace Go.Proofs.YtbjmfhcgkpjcfaaGreatDoor
open Go.RowKit Go.Maps

def foldP : List (Int × Int) := [(32, 0), (47, 31), (50, 0), (51, 27), (52, 28), (53, 29), (54, 30), (55, 31), (56, 127), (63, 127), (64, 0), (91, 27), (92, 28), (93, 29), (94, 30), (95, 31), (97, 1), (98, 2), (99, 3), (100, 4), (101, 5), (102, 6), (103, 7), (104, 8), (105, 9), (106, 10), (107, 11), (108, 12), (109, 13), (110, 14), (111, 15), (112, 16), (113, 17), (114, 18), (115, 19), (116, 20), (117, 21), (118, 22), (119, 23), (120, 24), (121, 25), (122, 26)]
def foldsL : List (Lit × DataW Value) := foldP.map fun q => (.int .i32 q.1, .held (.int .i64 q.2))
def foldE : List (Lit × Value) := [(.int .i32 32, .int .i64 0), (.int .i32 50, .int .i64 0), (.int .i32 64, .int .i64 0), (.int .i32 97, .int .i64 1), (.int .i32 98, .int .i64 2), (.int .i32 99, .int .i64 3), (.int .i32 100, .int .i64 4), (.int .i32 101, .int .i64 5), (.int .i32 102, .int .i64 6), (.int .i32 103, .int .i64 7), (.int .i32 104, .int .i64 8), (.int .i32 105, .int .i64 9), (.int .i32 106, .int .i64 10), (.int .i32 107, .int .i64 11), (.int .i32 108, .int .i64 12), (.int .i32 109, .int .i64 13), (.int .i32 110, .int .i64 14), (.int .i32 111, .int .i64 15), (.int .i32 112, .int .i64 16), (.int .i32 113, .int .i64 17), (.int .i32 114, .int .i64 18), (.int .i32 115, .int .i64 19), (.int .i32 116, .int .i64 20), (.int .i32 117, .int .i64 21), (.int .i32 118, .int .i64 22), (.int .i32 119, .int .i64 23), (.int .i32 120, .int .i64 24), (.int .i32 121, .int .i64 25), (.int .i32 122, .int .i64 26), (.int .i32 51, .int .i64 27), (.int .i32 91, .int .i64 27), (.int .i32 52, .int .i64 28), (.int .i32 92, .int .i64 28), (.int .i32 53, .int .i64 29), (.int .i32 93, .int .i64 29), (.int .i32 54, .int .i64 30), (.int .i32 94, .int .i64 30), (.int .i32 55, .int .i64 31), (.int .i32 47, .int .i64 31), (.int .i32 95, .int .i64 31), (.int .i32 56, .int .i64 127), (.int .i32 63, .int .i64 127)]
theorem fold_rise : foldsL.Pairwise (fun p q => p.1.before q.1 = true) := List.pairwise_map.2 ((show foldP.Pairwise (fun a b => a.1 < b.1) by decide +kernel).imp fun h => by simpa [Lit.before] using h)
theorem fold_lit : ∀ p ∈ foldsL, WideAt.IsKeyLit p.1 := by
  intro p hp
  obtain ⟨q, _, rfl⟩ := List.mem_map.1 hp
  exact trivial
/-- A character as it is looked for. -/
def lowC (c : Int) : Int := if 65 ≤ c ∧ c ≤ 90 then c + 32 else c
theorem fold_row : ∀ c : Fin 128, ((foldN (c.val : Int)).2 = true → (lowC (c.val : Int), (foldN (c.val : Int)).1) ∈ foldP) ∧ ((foldN (c.val : Int)).2 = false → ∀ q ∈ foldP, q.1 ≠ lowC (c.val : Int)) := by decide +kernel
theorem fold_large_no {c : Int} (h : c < 0 ∨ 128 ≤ c) : foldN c = (0, false) := by
  unfold foldN
  rw [if_neg (by omega), if_neg (by omega), if_neg (by omega), if_neg (by omega), if_neg (by omega), if_neg (by omega)]
theorem fold_at_map {c : Int} (h0 : 0 ≤ c) (h1 : c < 128) : (DataW.map foldsL : DataW Value).atKey (.int .i32 (lowC c)) (.held (.int .i64 0)) = .held (.int .i64 (foldN c).1) ∧ Maps.has (DataW.map foldsL : DataW Value) (.int .i32 (lowC c)) = (foldN c).2 := by
  obtain ⟨n, rfl⟩ := Int.eq_ofNat_of_zero_le h0
  have hr := fold_row ⟨n, by omega⟩
  have hrng := fold_rng (n : Int)
  cases hb : (foldN (n : Int)).2 with
  | true =>
    have hm : ((.int .i32 (lowC (n : Int)), .held (.int .i64 (foldN (n : Int)).1)) : Lit × DataW Value) ∈ foldsL := List.mem_map.2 ⟨_, hr.1 hb, rfl⟩
    exact ⟨WideAt.atKey_mem _ trivial (apart_of_rising fold_rise) hm, has_true_of_atKey fun z => WideAt.atKey_mem z trivial (apart_of_rising fold_rise) hm⟩
  | false =>
    have key : ∀ q ∈ foldsL, q.1 ≠ Lit.int .i32 (lowC (n : Int)) := by
      intro q hq
      obtain ⟨x, hx, rfl⟩ := List.mem_map.1 hq
      intro e
      exact hr.2 hb x hx (by injection e)
    rw [hrng.2 hb]
    exact ⟨WideAt.atKey_none _ key, has_false_of_atKey fun z => WideAt.atKey_none z key⟩
theorem below_but10 {B b : Nat} {a w w' : World} (h : Below B a w) (hg : w.grownBy w' (some b)) (hB : B ≤ w.heap.size) (hb : B ≤ b) : Below B a w' :=
  ⟨hg.os.trans h.os, hg.tape.trans h.tape, hg.output.trans h.output, Nat.le_trans h.size hg.size, fun k hk => (hg.block k (Nat.lt_of_lt_of_le hk hB) (fun e => by injection e with e; omega)).trans (h.block k hk)⟩
/-- Entries that are laid in turn. -/
inductive InsL (P : Program) (T K : TypeId) (a : Act) (b : Nat) : List Oper → List (Lit × Value) → List Oper → Prop
  | nil {l : List Oper} : InsL P T K a b l [] l
  | cons {o : Oper} {l r : List Oper} {k : Lit} {v : Value} {es : List (Lit × Value)} (h : ∃ m x y key, o.op = .insert T m x y ∧ o.guard = none ∧ o.dst = none ∧ a.eval m = .map (some b) ∧ a.eval x = key ∧ keyOf P K key = some k ∧ a.eval y = v)
      (hs : InsL P T K a b l es r) : InsL P T K a b (o :: l) ((k, v) :: es) r
def putsD : List (Lit × Value) → DataW Value → DataW Value
  | [], D => D
  | (k, v) :: es, D => putsD es (D.put k (.held v))
theorem wpList_insL {P : Program} {ops : Array Oper} {Q : Exit → Act → World → Prop} {T K E : TypeId} (KK : Keyed P K) (hT : P.underlying T = some (.map K E)) {a : Act} {b : Nat} {os r : List Oper} {es : List (Lit × Value)} (h : InsL P T K a b os es r) :
    ∀ {n : Nat} {D : DataW Value} {w : World}, w.ownsMap P K hel b n D → n + es.length < maxLen → (∀ w' m, w'.ownsMap P K hel b m (putsD es D) → w.grownBy w' (some b) → wpList P ops Q r a w') → wpList P ops Q os a w := by
  induction h with
  | nil => exact fun hown _ hK => hK _ _ hown (World.grownBy.refl _ _)
  | @cons o l r k v es ho _ ih =>
    intro n D w hown hn hK
    obtain ⟨m, x, y, key, hop, hg, hd, hm, hx, hkey, hv⟩ := ho
    obtain ⟨w', hrun, h1, h2⟩ := hown.store KK hT (by simp at hn; omega) hkey (show hel v = some (.held v, []) from rfl)
    refine wpList_plain hg fun K hKK => ?_
    unfold Oper.wp
    have e : (execOp a.eval o).run P w = .ok .skip w' := by
      unfold execOp
      rw [hop]
      simp [hm, hx, hv, hrun, Result.andThen]
    rw [e, Oper.upon_skip, hd]
    refine hKK _ _ (ih h1 (by simp at hn; omega) fun w2 m2 o2 g2 => hK w2 m2 o2 (h2.grown.trans g2))
def FoldsE (w : World) (e : Ending) (w' : World) : Prop := ∃ b n, e = .returned (.map (some b)) ∧ w'.ownsMap Tryz.prog 21 hel b n (.map foldsL) ∧ Below w.heap.size w w'
theorem fold_puts : putsD foldE (.map []) = .map foldsL := by kernel_rfl
set_option maxRecDepth 100000 in
set_option maxHeartbeats 8000000 in
theorem folds_any (w : World) : Calls Tryz.prog 62 #[] w (FoldsE w) := by
  go_enter Tryz.func62, Tryz.ntmps62
  go_wp2_with fail
  rename_i K hK
  rw [run_makeMap, Result.andThen_ok, Oper.upon_value]
  refine hK _ _ ?_
  have hown := World.ownsMap_made w Tryz.prog 21 hel
  have hb2 : Below w.heap.size w (w.alloc (.map #[] 0)) := (Below.refl _ w).alloc (Nat.le_refl _) _
  obtain ⟨b, hb⟩ : ∃ b, w.heap.size = b := ⟨_, rfl⟩
  have hsz : b ≤ (w.alloc (.map #[] 0)).heap.size := by simp; omega
  rw [hb] at hown hb2 ⊢
  obtain ⟨w2, hw2⟩ : ∃ w2, w.alloc (.map #[] 0) = w2 := ⟨_, rfl⟩
  rw [hw2] at hown hb2 hsz ⊢
  clear hw2 hK
  refine wpList_insL (T := 81) (K := 21) (E := 3) (int_keyed Tryz.underlying21) Tryz.underlying81 (b := b) (es := foldE) ((.cons ⟨_, _, _, _, rfl, rfl, rfl, by kernel_rfl, rfl, by kernel_rfl, by kernel_rfl⟩ (.cons ⟨_, _, _, _, rfl, rfl, rfl, by kernel_rfl, rfl, by kernel_rfl, by kernel_rfl⟩ (.cons ⟨_, _, _, _, rfl, rfl, rfl, by kernel_rfl, rfl, by kernel_rfl, by kernel_rfl⟩ (.cons ⟨_, _, _, _, rfl, rfl, rfl, by kernel_rfl, rfl, by kernel_rfl, by kernel_rfl⟩ (.cons ⟨_, _, _, _, rfl, rfl, rfl, by kernel_rfl, rfl, by kernel_rfl, by kernel_rfl⟩ (.cons ⟨_, _, _, _, rfl, rfl, rfl, by kernel_rfl, rfl, by kernel_rfl, by kernel_rfl⟩ (.cons ⟨_, _, _, _, rfl, rfl, rfl, by kernel_rfl, rfl, by kernel_rfl, by kernel_rfl⟩ (.cons ⟨_, _, _, _, rfl, rfl, rfl, by kernel_rfl, rfl, by kernel_rfl, by kernel_rfl⟩ (.cons ⟨_, _, _, _, rfl, rfl, rfl, by kernel_rfl, rfl, by kernel_rfl, by kernel_rfl⟩ (.cons ⟨_, _, _, _, rfl, rfl, rfl, by kernel_rfl, rfl, by kernel_rfl, by kernel_rfl⟩ (.cons ⟨_, _, _, _, rfl, rfl, rfl, by kernel_rfl, rfl, by kernel_rfl, by kernel_rfl⟩ (.cons ⟨_, _, _, _, rfl, rfl, rfl, by kernel_rfl, rfl, by kernel_rfl, by kernel_rfl⟩ (.cons ⟨_, _, _, _, rfl, rfl, rfl, by kernel_rfl, rfl, by kernel_rfl, by kernel_rfl⟩ (.cons ⟨_, _, _, _, rfl, rfl, rfl, by kernel_rfl, rfl, by kernel_rfl, by kernel_rfl⟩ (.cons ⟨_, _, _, _, rfl, rfl, rfl, by kernel_rfl, rfl, by kernel_rfl, by kernel_rfl⟩ (.cons ⟨_, _, _, _, rfl, rfl, rfl, by kernel_rfl, rfl, by kernel_rfl, by kernel_rfl⟩ (.cons ⟨_, _, _, _, rfl, rfl, rfl, by kernel_rfl, rfl, by kernel_rfl, by kernel_rfl⟩ (.cons ⟨_, _, _, _, rfl, rfl, rfl, by kernel_rfl, rfl, by kernel_rfl, by kernel_rfl⟩ (.cons ⟨_, _, _, _, rfl, rfl, rfl, by kernel_rfl, rfl, by kernel_rfl, by kernel_rfl⟩ (.cons ⟨_, _, _, _, rfl, rfl, rfl, by kernel_rfl, rfl, by kernel_rfl, by kernel_rfl⟩ (.cons ⟨_, _, _, _, rfl, rfl, rfl, by kernel_rfl, rfl, by kernel_rfl, by kernel_rfl⟩ (.cons ⟨_, _, _, _, rfl, rfl, rfl, by kernel_rfl, rfl, by kernel_rfl, by kernel_rfl⟩ (.cons ⟨_, _, _, _, rfl, rfl, rfl, by kernel_rfl, rfl, by kernel_rfl, by kernel_rfl⟩ (.cons ⟨_, _, _, _, rfl, rfl, rfl, by kernel_rfl, rfl, by kernel_rfl, by kernel_rfl⟩ (.cons ⟨_, _, _, _, rfl, rfl, rfl, by kernel_rfl, rfl, by kernel_rfl, by kernel_rfl⟩ (.cons ⟨_, _, _, _, rfl, rfl, rfl, by kernel_rfl, rfl, by kernel_rfl, by kernel_rfl⟩ (.cons ⟨_, _, _, _, rfl, rfl, rfl, by kernel_rfl, rfl, by kernel_rfl, by kernel_rfl⟩ (.cons ⟨_, _, _, _, rfl, rfl, rfl, by kernel_rfl, rfl, by kernel_rfl, by kernel_rfl⟩ (.cons ⟨_, _, _, _, rfl, rfl, rfl, by kernel_rfl, rfl, by kernel_rfl, by kernel_rfl⟩ (.cons ⟨_, _, _, _, rfl, rfl, rfl, by kernel_rfl, rfl, by kernel_rfl, by kernel_rfl⟩ (.cons ⟨_, _, _, _, rfl, rfl, rfl, by kernel_rfl, rfl, by kernel_rfl, by kernel_rfl⟩ (.cons ⟨_, _, _, _, rfl, rfl, rfl, by kernel_rfl, rfl, by kernel_rfl, by kernel_rfl⟩ (.cons ⟨_, _, _, _, rfl, rfl, rfl, by kernel_rfl, rfl, by kernel_rfl, by kernel_rfl⟩ (.cons ⟨_, _, _, _, rfl, rfl, rfl, by kernel_rfl, rfl, by kernel_rfl, by kernel_rfl⟩ (.cons ⟨_, _, _, _, rfl, rfl, rfl, by kernel_rfl, rfl, by kernel_rfl, by kernel_rfl⟩ (.cons ⟨_, _, _, _, rfl, rfl, rfl, by kernel_rfl, rfl, by kernel_rfl, by kernel_rfl⟩ (.cons ⟨_, _, _, _, rfl, rfl, rfl, by kernel_rfl, rfl, by kernel_rfl, by kernel_rfl⟩ (.cons ⟨_, _, _, _, rfl, rfl, rfl, by kernel_rfl, rfl, by kernel_rfl, by kernel_rfl⟩ (.cons ⟨_, _, _, _, rfl, rfl, rfl, by kernel_rfl, rfl, by kernel_rfl, by kernel_rfl⟩ (.cons ⟨_, _, _, _, rfl, rfl, rfl, by kernel_rfl, rfl, by kernel_rfl, by kernel_rfl⟩ (.cons ⟨_, _, _, _, rfl, rfl, rfl, by kernel_rfl, rfl, by kernel_rfl, by kernel_rfl⟩ (.cons ⟨_, _, _, _, rfl, rfl, rfl, by kernel_rfl, rfl, by kernel_rfl, by kernel_rfl⟩ .nil))))))))))))))))))))))))))))))))))))))))))) hown (by show 0 + 42 < maxLen; decide) (fun w3 m hown3 hg3 => ?_)
  rw [fold_puts] at hown3
  have hB3 := below_but10 hb2 hg3 hsz (Nat.le_refl _)
  go_wp2_with fail
  go_ret
  rw [← hb] at hB3
  exact ⟨b, _, rfl, hown3, hB3⟩
theorem zero_int (w : World) : (zeroValue 3).run Tryz.prog w = .ok (.int .i64 0) w := by kernel_rfl
theorem key_i32 {n : Int} (h0 : 0 ≤ n) (h1 : n < 128) : keyOf Tryz.prog 21 (.int .i32 n) = some (.int .i32 n) := keyOf_int_mk Tryz.underlying21 (WalkArith.wf_i32 (by omega))
theorem fold_look {w : World} {b k : Nat} {n v : Int} {q : Bool} (h : w.ownsMap Tryz.prog 21 hel b k (.map foldsL)) (hn0 : 0 ≤ n) (hn1 : n < 128) (ha : (DataW.map foldsL : DataW Value).atKey (.int .i32 n) (.held (.int .i64 0)) = .held (.int .i64 v)) (hq : Maps.has (DataW.map foldsL : DataW Value) (.int .i32 n) = q) :
    (Instr.lookup 81 (.map (some b)) (.int .i32 n) true).run Tryz.prog w = .ok (.tuple #[.int .i64 v, .bool q]) w := by
  obtain ⟨v1, p1, h1, e1⟩ := h.look_ok (int_keyed Tryz.underlying21) Tryz.underlying81 (zero_int w) (show hel (.int .i64 0) = some (.held (.int .i64 0), []) from rfl) (key_i32 hn0 hn1)
  rw [ha] at e1
  have e1' : v1 = .int .i64 v := by simpa [hel] using congrArg (Option.map Prod.fst) e1
  rw [e1', hq] at h1
  exact h1
set_option maxRecDepth 100000 in
set_option maxHeartbeats 8000000 in
theorem pfold_any (c : Int) (w : World) (_hc : in10 c) : Calls Tryz.prog 49 #[.int .i64 c] w fun e w' => e = .returned (.tuple #[.int .i64 (foldN c).1, .bool (foldN c).2]) ∧ Below w.heap.size w w' := by
  by_cases h0 : c < 0
  · rw [fold_large_no (.inl h0)]
    go_enter Tryz.func49, Tryz.ntmps49
    go_wp2_with fail
    go_ret2
    exact ⟨rfl, Below.refl _ _⟩
  by_cases h1 : 128 ≤ c
  · rw [fold_large_no (.inr h1)]
    go_enter Tryz.func49, Tryz.ntmps49
    go_wp2_with fail
    go_ret2
    exact ⟨rfl, Below.refl _ _⟩
  obtain ⟨ha, hq⟩ := fold_at_map (c := c) (by omega) (by omega)
  obtain ⟨v, hv⟩ : ∃ v, (foldN c).1 = v := ⟨_, rfl⟩
  obtain ⟨q, hq2⟩ : ∃ q, (foldN c).2 = q := ⟨_, rfl⟩
  rw [hv] at ha ⊢
  rw [hq2] at hq ⊢
  clear hv hq2
  have e0 : IntKind.i32.wrap c = c := by rw [IntKind.wrap_i32]; omega
  obtain ⟨d, hd⟩ : ∃ d, lowC c = d := ⟨_, rfl⟩
  rw [hd] at ha hq
  have HA := Lib.hid ha
  have HQ := Lib.hid hq
  clear ha hq
  by_cases hcap : 65 ≤ c ∧ c ≤ 90
  · obtain ⟨c1, c2⟩ := hcap
    have hdc : c + 32 = d := by rw [← hd]; unfold lowC; rw [if_pos ⟨c1, c2⟩]
    have e1 : IntKind.i32.wrap (c - 65) = c - 65 := by rw [IntKind.wrap_i32]; omega
    have e2 : IntKind.i32.wrap (c - 65 + 97) = d := by rw [IntKind.wrap_i32]; omega
    have d0 : 0 ≤ d := by omega
    have d1 : d < 128 := by omega
    clear hd hdc
    go_enter Tryz.func49, Tryz.ntmps49
    go_wp2_with fail
    refine (folds_any _).mono ?_
    rintro e w1 ⟨b, n, rfl, hown, hb1⟩
    have hl := fold_look hown d0 d1 HA.out HQ.out
    go_wp2_with fail
    go_ret2
    exact ⟨rfl, hb1⟩
  · have hdc : c = d := by rw [← hd]; unfold lowC; rw [if_neg hcap]
    subst hdc
    clear hd
    by_cases c1 : 65 ≤ c
    · have c2 : ¬ c ≤ 90 := by omega
      clear hcap
      go_enter Tryz.func49, Tryz.ntmps49
      go_wp2_with fail
      refine (folds_any _).mono ?_
      rintro e w1 ⟨b, n, rfl, hown, hb1⟩
      have hl := fold_look hown (by omega) (by omega) HA.out HQ.out
      go_wp2_with fail
      go_ret2
      exact ⟨rfl, hb1⟩
    · clear hcap
      go_enter Tryz.func49, Tryz.ntmps49
      go_wp2_with fail
      refine (folds_any _).mono ?_
      rintro e w1 ⟨b, n, rfl, hown, hb1⟩
      have hl := fold_look hown (by omega) (by omega) HA.out HQ.out
      go_wp2_with fail
      go_ret2
      exact ⟨rfl, hb1⟩
end Go.Proofs.YtbjmfhcgkpjcfaaGreatDoor
namespace Go.Proofs.YtbjmfhcgkpjcfaaGreatDoor
open Go.RowKit Go.Maps

/-- One entry, laid in turn. -/
theorem wpList_ins1 {P : Program} {ops : Array Oper} {Q : Exit → Act → World → Prop} {T K E : TypeId} (KK : Keyed P K) (hT : P.underlying T = some (.map K E)) {a : Act} {b : Nat} {o : Oper} {rest : List Oper} {k : Lit} {v key : Value} {m x y : Operand} (hop : o.op = .insert T m x y) (hg : o.guard = none) (hd : o.dst = none) (hm : a.eval m = .map (some b)) (hx : a.eval x = key) (hkey : keyOf P K key = some k) (hv : a.eval y = v) {n : Nat} {D : DataW Value} {w : World} (hown : w.ownsMap P K hel b n D) (hn : n < maxLen)
    (hK : ∀ w', w'.ownsMap P K hel b (n + 1) (D.put k (.held v)) → w.grownBy w' (some b) → wpList P ops Q rest a w') : wpList P ops Q (o :: rest) a w := by
  obtain ⟨w', hrun, h1, h2⟩ := hown.store KK hT hn hkey (show hel v = some (.held v, []) from rfl)
  refine wpList_plain hg fun K hKK => ?_
  unfold Oper.wp
  have e : (execOp a.eval o).run P w = .ok .skip w' := by
    unfold execOp
    rw [hop]
    simp [hm, hx, hv, hrun, Result.andThen]
  rw [e, Oper.upon_skip, hd]
  exact hKK _ _ (hK _ h1 h2.grown)
def lfmV (f : FuncId) (b : Bool) : Value := .agg #[.func (.func f) #[] #[], .bool b]
def lformsL : List (Lit × DataW Value) := [(.int .i64 1, .held (lfmV 28 true)), (.int .i64 2, .held (lfmV 29 true)), (.int .i64 3, .held (lfmV 30 false)), (.int .i64 4, .held (lfmV 31 false)), (.int .i64 5, .held (lfmV 32 false))]
def LFormsE (w : World) (v : Value) (w' : World) : Prop := ∃ b n, v = .map (some b) ∧ w'.ownsMap Tryz.prog 3 hel b n (.map lformsL) ∧ w.heap.size ≤ b
theorem lforms_puts : ((((((.map [] : DataW Value).put (.int .i64 1) (.held (lfmV 28 true))).put (.int .i64 2) (.held (lfmV 29 true))).put (.int .i64 3) (.held (lfmV 30 false))).put (.int .i64 4) (.held (lfmV 31 false))).put (.int .i64 5) (.held (lfmV 32 false))) = .map lformsL := by kernel_rfl
set_option maxRecDepth 100000 in
set_option maxHeartbeats 8000000 in
theorem lforms_any (w : World) : Calls Tryz.prog 11 #[] w fun e w' => ∃ v, e = .returned v ∧ LFormsE w v w' ∧ Below w.heap.size w w' := by
  have hmf : ∀ (fn : Fn) (first cap : Array Value) (w : World), (Instr.makeFunc fn first cap).run Tryz.prog w = .ok (.func fn first cap) w := fun _ _ _ _ => rfl
  go_enter Tryz.func11, Tryz.ntmps11
  go_wp2_with fail
  rename_i K hK
  rw [run_makeMap, Result.andThen_ok, Oper.upon_value]
  refine hK _ _ ?_
  have hown0 := World.ownsMap_made w Tryz.prog 3 hel
  have hb0 : Below w.heap.size w (w.alloc (.map #[] 0)) := (Below.refl _ w).alloc (Nat.le_refl _) _
  obtain ⟨b, hb⟩ : ∃ b, w.heap.size = b := ⟨_, rfl⟩
  have hsz : b ≤ (w.alloc (.map #[] 0)).heap.size := by simp; omega
  rw [hb] at hown0 hb0 ⊢
  obtain ⟨w0, hw0⟩ : ∃ w0, w.alloc (.map #[] 0) = w0 := ⟨_, rfl⟩
  rw [hw0] at hown0 hb0 hsz ⊢
  clear hw0 hK
  go_wp2_with (first
    | (refine wpList_ins1 (T := 42) (K := 3) (E := 40) (b := b) (k := .int .i64 1) (v := lfmV 28 true) (int_keyed Tryz.underlying3) Tryz.underlying42 rfl rfl rfl (by kernel_rfl) rfl (by kernel_rfl) (by kernel_rfl) hown0 (by decide) ?_; intro w1 hown1 hg1)
    | (refine wpList_ins1 (T := 42) (K := 3) (E := 40) (b := b) (k := .int .i64 2) (v := lfmV 29 true) (int_keyed Tryz.underlying3) Tryz.underlying42 rfl rfl rfl (by kernel_rfl) rfl (by kernel_rfl) (by kernel_rfl) hown1 (by decide) ?_; intro w2 hown2 hg2)
    | (refine wpList_ins1 (T := 42) (K := 3) (E := 40) (b := b) (k := .int .i64 3) (v := lfmV 30 false) (int_keyed Tryz.underlying3) Tryz.underlying42 rfl rfl rfl (by kernel_rfl) rfl (by kernel_rfl) (by kernel_rfl) hown2 (by decide) ?_; intro w3 hown3 hg3)
    | (refine wpList_ins1 (T := 42) (K := 3) (E := 40) (b := b) (k := .int .i64 4) (v := lfmV 31 false) (int_keyed Tryz.underlying3) Tryz.underlying42 rfl rfl rfl (by kernel_rfl) rfl (by kernel_rfl) (by kernel_rfl) hown3 (by decide) ?_; intro w4 hown4 hg4)
    | (refine wpList_ins1 (T := 42) (K := 3) (E := 40) (b := b) (k := .int .i64 5) (v := lfmV 32 false) (int_keyed Tryz.underlying3) Tryz.underlying42 rfl rfl rfl (by kernel_rfl) rfl (by kernel_rfl) (by kernel_rfl) hown4 (by decide) ?_; intro w5 hown5 hg5))
  have hB := below_but10 hb0 (((((hg1.trans hg2).trans hg3).trans hg4).trans hg5)) hsz (Nat.le_refl _)
  go_ret
  rw [lforms_puts] at hown5
  exact ⟨_, rfl, ⟨b, _, rfl, hown5, by omega⟩, hb ▸ hB⟩
theorem lforms_zero (w : World) : (zeroValue 40).run Tryz.prog w = .ok (.agg #[.nilFunc, .bool false]) w := by kernel_rfl
/-- What stands in the map. -/
def lformAt (k : Int) : Value × Bool := if k = 1 then (lfmV 28 true, true) else if k = 2 then (lfmV 29 true, true) else if k = 3 then (lfmV 30 false, true) else if k = 4 then (lfmV 31 false, true) else if k = 5 then (lfmV 32 false, true) else (.agg #[.nilFunc, .bool false], false)
theorem lforms_at {k : Int} (h0 : 0 ≤ k) (h1 : k < 8) : (DataW.map lformsL : DataW Value).atKey (.int .i64 k) (.held (.agg #[.nilFunc, .bool false])) = .held (lformAt k).1 ∧ Maps.has (DataW.map lformsL : DataW Value) (.int .i64 k) = (lformAt k).2 := by
  obtain ⟨n, rfl⟩ := Int.eq_ofNat_of_zero_le h0
  have h : ∀ q : Fin 8, (DataW.map lformsL : DataW Value).atKey (.int .i64 ((q.1 : Nat) : Int)) (.held (.agg #[.nilFunc, .bool false])) = .held (lformAt ((q.1 : Nat) : Int)).1 ∧ Maps.has (DataW.map lformsL : DataW Value) (.int .i64 ((q.1 : Nat) : Int)) = (lformAt ((q.1 : Nat) : Int)).2 := by
    intro q
    match q with
    | ⟨0, _⟩ | ⟨1, _⟩ | ⟨2, _⟩ | ⟨3, _⟩ | ⟨4, _⟩ | ⟨5, _⟩ | ⟨6, _⟩ | ⟨7, _⟩ => exact ⟨by kernel_rfl, by kernel_rfl⟩
  exact h ⟨n, by omega⟩
theorem lforms_look {w : World} {b n : Nat} {k : Int} {v : Value} {q : Bool} (h : w.ownsMap Tryz.prog 3 hel b n (.map lformsL)) (h0 : 0 ≤ k) (h1 : k < 8) (hv : lformAt k = (v, q)) :
    (Instr.lookup 42 (.map (some b)) (.int .i64 k) true).run Tryz.prog w = .ok (.tuple #[v, .bool q]) w := by
  obtain ⟨ha, hq⟩ := lforms_at h0 h1
  have hwf : (Lit.int .i64 k).wf = true := WalkArith.wf_i64 ⟨by omega, by omega⟩
  rw [hv] at ha hq
  obtain ⟨v1, p1, r1, e1⟩ := h.look_ok (int_keyed Tryz.underlying3) Tryz.underlying42 (lforms_zero w) (show hel (.agg #[.nilFunc, .bool false]) = some (.held (.agg #[.nilFunc, .bool false]), []) from rfl) (keyOf_int_mk Tryz.underlying3 hwf)
  rw [ha] at e1
  have e1' : v1 = v := by simpa [hel] using congrArg (Option.map Prod.fst) e1
  rw [e1', hq] at r1
  exact r1
end Go.Proofs.YtbjmfhcgkpjcfaaGreatDoor
namespace Go.Proofs.YtbjmfhcgkpjcfaaGreatDoor
open Go.RowKit

set_option maxRecDepth 100000 in
set_option maxHeartbeats 4000000 in
theorem entry_any (F L K : Int) (s : ByteArray) (ns : List Int) (m : Nat) (hm : ns.length = m) (u : ByteArray) (B : Bool) (A : Option Addr) (cp a : Nat) (ha : a ≤ 100000) (_hF : 0 ≤ F) (_hF2 : F ≤ 60000) (_hs : s.size ≤ 100) (hm2 : m ≤ 100) (_hu : u.size ≤ 100) (w : World) (hr : Rd w A (is_ ns)) :
    Calls Tryz.prog 26 #[.agg #[.int .i64 F, .int .i64 L, .int .i64 K, .string s, .slice A m cp, .string u, .bool B], .int .i64 (F + (a : Int))] w fun e w' => e = .returned (.agg #[.int .i64 K, .int .u8 (sbK s a), .int .i64 (ns.getD a 0), .int .i64 (sbK u a), .bool B]) ∧ Below w.heap.size w w' := by
  have hB : ∀ x y z, Below w.heap.size w (((w.alloc x).alloc y).alloc z) := fun x y z => (below_two x y).alloc (by simp; omega) _
  go_enter Tryz.func26, Tryz.ntmps26
  have e0 : F + (a : Int) - F = (a : Int) := by omega
  have k0 : (0 : Int) ≤ (a : Int) := by omega
  obtain HM : Hid (ns.length = m) := Lib.hid hm
  clear hm
  by_cases h1 : a < m
  · have q1 : (a : Int) < (m : Int) := by omega
    obtain ⟨b, o, rfl, hb, hc⟩ := hr.int_at (by rw [HM.out]; omega)
    have hx := hc a (by rw [HM.out]; exact h1)
    have N1 := Lib.hid (getD_yes (l := ns) (a := a) (by rw [HM.out]; exact h1))
    obtain ⟨x, hx2⟩ : ∃ x, ns[a]'(by rw [HM.out]; exact h1) = x := ⟨_, rfl⟩
    rw [hx2] at hx N1
    have hxW : ∀ o1 o2 o3, (((w.alloc o1).alloc o2).alloc o3).cell? ⟨b, o + a, none⟩ = some (.int .i64 x) := fun o1 o2 o3 => ((hB o1 o2 o3).cell (p := ⟨b, o + a, none⟩) hb).trans hx
    clear hc hx2
    by_cases h2 : a < s.size
    · have q2 : (a : Int) < (s.size : Int) := by omega
      have N2 := Lib.hid (sbK_yes h2)
      by_cases h3 : a < u.size
      · have q3 : (a : Int) < (u.size : Int) := by omega
        have N3 := Lib.hid (sbK_yes h3)
        have hd := (u[a]'h3).toNat_lt
        have wd : wrap64 ((u[a]'h3).toNat : Int) = ((u[a]'h3).toNat : Int) := by unfold wrap64; omega
        go_wp2
        refine bodyPost_ret (v := .agg #[.int .i64 K, .int .u8 (sbK s a), .int .i64 (ns.getD a 0), .int .i64 (sbK u a), .bool B]) (by rw [N2.out, N1.out, N3.out]; simp [results, Tryz.results26, go_sem]) rfl ⟨rfl, hB _ _ _⟩
      · have q3 : (u.size : Int) ≤ (a : Int) := by omega
        have N3 := Lib.hid (sbK_no h3)
        go_wp2
        refine bodyPost_ret (v := .agg #[.int .i64 K, .int .u8 (sbK s a), .int .i64 (ns.getD a 0), .int .i64 (sbK u a), .bool B]) (by rw [N2.out, N1.out, N3.out]; simp [results, Tryz.results26, go_sem]) rfl ⟨rfl, hB _ _ _⟩
    · have q2 : (s.size : Int) ≤ (a : Int) := by omega
      have N2 := Lib.hid (sbK_no h2)
      by_cases h3 : a < u.size
      · have q3 : (a : Int) < (u.size : Int) := by omega
        have N3 := Lib.hid (sbK_yes h3)
        have hd := (u[a]'h3).toNat_lt
        have wd : wrap64 ((u[a]'h3).toNat : Int) = ((u[a]'h3).toNat : Int) := by unfold wrap64; omega
        go_wp2
        refine bodyPost_ret (v := .agg #[.int .i64 K, .int .u8 (sbK s a), .int .i64 (ns.getD a 0), .int .i64 (sbK u a), .bool B]) (by rw [N2.out, N1.out, N3.out]; simp [results, Tryz.results26, go_sem]) rfl ⟨rfl, hB _ _ _⟩
      · have q3 : (u.size : Int) ≤ (a : Int) := by omega
        have N3 := Lib.hid (sbK_no h3)
        go_wp2
        refine bodyPost_ret (v := .agg #[.int .i64 K, .int .u8 (sbK s a), .int .i64 (ns.getD a 0), .int .i64 (sbK u a), .bool B]) (by rw [N2.out, N1.out, N3.out]; simp [results, Tryz.results26, go_sem]) rfl ⟨rfl, hB _ _ _⟩
  · have q1 : (m : Int) ≤ (a : Int) := by omega
    have N1 := Lib.hid (getD_no (l := ns) (a := a) (by rw [HM.out]; exact h1))
    by_cases h2 : a < s.size
    · have q2 : (a : Int) < (s.size : Int) := by omega
      have N2 := Lib.hid (sbK_yes h2)
      by_cases h3 : a < u.size
      · have q3 : (a : Int) < (u.size : Int) := by omega
        have N3 := Lib.hid (sbK_yes h3)
        have hd := (u[a]'h3).toNat_lt
        have wd : wrap64 ((u[a]'h3).toNat : Int) = ((u[a]'h3).toNat : Int) := by unfold wrap64; omega
        go_wp2
        refine bodyPost_ret (v := .agg #[.int .i64 K, .int .u8 (sbK s a), .int .i64 (ns.getD a 0), .int .i64 (sbK u a), .bool B]) (by rw [N2.out, N1.out, N3.out]; simp [results, Tryz.results26, go_sem]) rfl ⟨rfl, hB _ _ _⟩
      · have q3 : (u.size : Int) ≤ (a : Int) := by omega
        have N3 := Lib.hid (sbK_no h3)
        go_wp2
        refine bodyPost_ret (v := .agg #[.int .i64 K, .int .u8 (sbK s a), .int .i64 (ns.getD a 0), .int .i64 (sbK u a), .bool B]) (by rw [N2.out, N1.out, N3.out]; simp [results, Tryz.results26, go_sem]) rfl ⟨rfl, hB _ _ _⟩
    · have q2 : (s.size : Int) ≤ (a : Int) := by omega
      have N2 := Lib.hid (sbK_no h2)
      by_cases h3 : a < u.size
      · have q3 : (a : Int) < (u.size : Int) := by omega
        have N3 := Lib.hid (sbK_yes h3)
        have hd := (u[a]'h3).toNat_lt
        have wd : wrap64 ((u[a]'h3).toNat : Int) = ((u[a]'h3).toNat : Int) := by unfold wrap64; omega
        go_wp2
        refine bodyPost_ret (v := .agg #[.int .i64 K, .int .u8 (sbK s a), .int .i64 (ns.getD a 0), .int .i64 (sbK u a), .bool B]) (by rw [N2.out, N1.out, N3.out]; simp [results, Tryz.results26, go_sem]) rfl ⟨rfl, hB _ _ _⟩
      · have q3 : (u.size : Int) ≤ (a : Int) := by omega
        have N3 := Lib.hid (sbK_no h3)
        go_wp2
        refine bodyPost_ret (v := .agg #[.int .i64 K, .int .u8 (sbK s a), .int .i64 (ns.getD a 0), .int .i64 (sbK u a), .bool B]) (by rw [N2.out, N1.out, N3.out]; simp [results, Tryz.results26, go_sem]) rfl ⟨rfl, hB _ _ _⟩
end Go.Proofs.YtbjmfhcgkpjcfaaGreatDoor
