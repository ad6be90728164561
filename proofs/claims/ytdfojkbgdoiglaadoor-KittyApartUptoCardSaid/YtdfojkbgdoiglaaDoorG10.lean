/-
  A key's event in memory; words for layers that send keys. Layer 2, walked: what a code point is; the sizes, in their array. Layer 10, the landed mods: whether a number is modifiers. Layer 2, the mathematics of following bytes. Regions that draw their order (RegK's state), whose operations make what the run alone tells out of what it told ahead: an append onto a slice without room, a struct built, a name given. Layer 3, walked: the program's isNone and paramsMay.
-/
import Derived.Test.YtdfojkbgdoiglaaDoorG01
import Derived.Test.YtdfojkbgdoiglaaDoorG02
import Derived.Test.YtdfojkbgdoiglaaDoorG03
import Derived.Test.YtdfojkbgdoiglaaDoorG07
import Derived.Test.YtdfojkbgdoiglaaDoorG09
import Derived.BigQuiet
import Derived.Deep.QuietTactic
import Derived.Laws.Slices
import Derived.Test.YtdfojkbgdoiglaaDoorShelf
namespace Go.Proofs.YtdfojkbgdoiglaaDoor
open Go.RowKit
def kyV (k : Ky) : Value := .agg #[.int .i64 k.code, .int .i64 k.mods, .int .i64 k.typ, .int .i64 k.shift, .int .i64 k.base, .string k.text]
def kyC (k : Ky) : Array Value := #[.int .i64 k.code, .int .i64 k.mods, .int .i64 k.typ, .int .i64 k.shift, .int .i64 k.base, .string k.text]
theorem Own.capT {w : World} {base : Nat} {e : TypeId} {A : Option Addr} {n c : Nat} {xs : List Value} (h : Own w base e 1 (.slice A n c) n xs) : n ≤ c := by
 rcases h.2 with ⟨hv, h0⟩ | ⟨g, cap, hv, hb, hh, hnc, hcm, hx, hc⟩
 ·omega
 ·injection hv with _ _ h3
  omega
theorem below_none {w w' : World} (h : w.grownBy w' none) : Below w.heap.size w w' := ⟨h.os, h.tape, h.output, h.size, fun k hk => h.block k hk (by simp)⟩
theorem max0 (n N : Int) (h : max n 0 = N) {P : Program} : ∀ (ts : Array TypeId) (t : TypeId) (W : World), (Builtin.max_ ts t #[.int .i64 n, .int .i64 0]).run P W = .ok (.int .i64 N) W := fun ts t W => by
 rw [run_max_int2]
 congr 2
 split <;> omega
theorem ky_box (w : World) (k : Ky) : Below w.heap.size w (w.alloc (.cells (kyC k) 23)) := (Below.refl _ w).alloc (Nat.le_refl _) _
end Go.Proofs.YtdfojkbgdoiglaaDoor
namespace Go.Proofs.YtdfojkbgdoiglaaDoor
open Go.RowKit
set_option maxHeartbeats 1000000 in
theorem isPt_any (r : Int) (w : World) : Calls Tryd.prog 49 #[.int .i64 r] w fun e w' => e = .returned (.bool (isPt r)) ∧ w = w' := by
 by_cases h0 : 0 ≤ r
 ·by_cases h1 : r ≤ 1114111
  ·by_cases h2 : r < 55296
   ·go_enter Tryd.func49, Tryd.ntmps49
    go_wp2
    go_ret
    exact ⟨ret_b (((isPt_iff r).2 (by omega)).symm), rfl⟩
   ·by_cases h3 : 57343 < r
    ·go_enter Tryd.func49, Tryd.ntmps49
     go_wp2
     go_ret
     exact ⟨ret_b (((isPt_iff r).2 (by omega)).symm), rfl⟩
    ·go_enter Tryd.func49, Tryd.ntmps49
     go_wp2
     go_ret
     exact ⟨ret_b (((isPt_no r).2 (by omega)).symm), rfl⟩
  ·go_enter Tryd.func49, Tryd.ntmps49
   go_wp2
   go_ret
   exact ⟨ret_b (((isPt_no r).2 (by omega)).symm), rfl⟩
 ·go_enter Tryd.func49, Tryd.ntmps49
  go_wp2
  go_ret
  exact ⟨ret_b (((isPt_no r).2 (by omega)).symm), rfl⟩
def sizC : Array Value := #[.int .i64 1, .int .i64 0, .int .i64 0, .int .i64 2, .int .i64 128, .int .i64 192, .int .i64 3, .int .i64 2048, .int .i64 224, .int .i64 4, .int .i64 65536, .int .i64 240]
def Siz (w : World) : Prop := ∃ t fz, w.heap[1]? = some (.cells sizC t fz)
theorem Siz.below {w w' : World} {B : Nat} (h : Siz w) (hb : Below B w w') (hB : w.heap.size ≤ B) : Siz w' := by
 obtain ⟨t, fz, hh⟩ := h
 have := (Array.getElem?_eq_some_iff.1 hh).1
 exact ⟨t, fz, (hb.block _ (by omega)).trans hh⟩
theorem Siz.below' {w w' : World} (h : Siz w) (hb : Below w.heap.size w w') : Siz w' := h.below hb (Nat.le_refl _)
def szA : Nat → Array Value
 | 0 => #[.int .i64 1, .int .i64 0, .int .i64 0]
 | 1 => #[.int .i64 2, .int .i64 128, .int .i64 192]
 | 2 => #[.int .i64 3, .int .i64 2048, .int .i64 224]
 | _ => #[.int .i64 4, .int .i64 65536, .int .i64 240]
def ixP (r : Int) (k : Nat) : Nat := if 3 < k ∧ 65536 ≤ r then 3 else if 2 < k ∧ 2048 ≤ r then 2 else if 1 < k ∧ 128 ≤ r then 1 else 0
def ixF (r : Int) (k : Nat) : Nat := if 3 < k ∧ 240 ≤ r then 3 else if 2 < k ∧ 224 ≤ r then 2 else if 1 < k ∧ 192 ≤ r then 1 else 0
end Go.Proofs.YtdfojkbgdoiglaaDoor
namespace Go.Proofs.YtdfojkbgdoiglaaDoor
open Go.RowKit
def areN (n : Int) : Bool := decide (0 ≤ n) && decide (n ≤ 255)
set_option maxRecDepth 100000 in
theorem are_any (n : Int) (w : World) : Calls Tryd.prog 32 #[.int .i64 n] w fun e w' => e = .returned (.bool (areN n)) ∧ Below w.heap.size w w' := by
 obtain ⟨R, hR⟩ : ∃ R, areN n = R := ⟨_, rfl⟩
 rw [hR]
 have HR := Lib.hid hR
 clear hR
 by_cases h0 : 0 ≤ n
 ·by_cases h1 : n ≤ 255
  ·have HF := Lib.hid (show true = R by rw [← HR.out]; simp [areN, h0, h1])
   go_enter Tryd.func32, Tryd.ntmps32
   go_wp2_with fail
   go_ret
   exact ⟨ret_b HF.out, Below.refl _ _⟩
  ·have HF := Lib.hid (show false = R by rw [← HR.out]; simp [areN, h1])
   go_enter Tryd.func32, Tryd.ntmps32
   go_wp2_with fail
   go_ret
   exact ⟨ret_b HF.out, Below.refl _ _⟩
 ·have HF := Lib.hid (show false = R by rw [← HR.out]; simp [areN, h0])
  go_enter Tryd.func32, Tryd.ntmps32
  go_wp2_with fail
  go_ret
  exact ⟨ret_b HF.out, Below.refl _ _⟩
theorem are_at {n : Int} {q : Bool} (h : areN n = q) (w : World) : Calls Tryd.prog 32 #[.int .i64 n] w fun e w' => e = .returned (.bool q) ∧ Below w.heap.size w w' := by
 rw [← h]
 exact are_any n w
end Go.Proofs.YtdfojkbgdoiglaaDoor
namespace Go.Proofs.YtdfojkbgdoiglaaDoor
def accL (x : Int) : List UInt8 → Option Int
 | [] => some x
 | c :: t => if fol c = true then accL (x * 64 + ((c.toNat : Int) - 128)) t else none
theorem accL_append (x : Int) (t u : List UInt8) : accL x (t ++ u) = (accL x t).bind fun y => accL y u := by
 induction t generalizing x with
 | nil => rfl
 | cons c t ih =>
   by_cases hf : fol c = true
   ·have e1 : ∀ t, accL x (c :: t) = accL (x * 64 + ((c.toNat : Int) - 128)) t := fun t => if_pos hf
    rw [List.cons_append, e1, e1]
    exact ih _
   ·have e1 : ∀ t, accL x (c :: t) = none := fun t => if_neg hf
    rw [List.cons_append, e1, e1]
    rfl
theorem accL_step (x : Int) (l : List UInt8) (k : Nat) (h : k < l.length) (y : Int) (hy : accL x (l.take k) = some y) :
 accL x (l.take (k + 1)) = if fol l[k] = true then some (y * 64 + ((l[k].toNat : Int) - 128)) else none := by
 rw [List.take_succ_eq_append_getElem h, accL_append, hy]
 rfl
theorem accL_none (x : Int) (l : List UInt8) (k j : Nat) (hk : k ≤ j) (h : accL x (l.take k) = none) : accL x (l.take j) = none := by
 have e : l.take j = l.take k ++ (l.drop k).take (j - k) := by
  rw [← List.take_add, show k + (j - k) = j by omega]
 rw [e, accL_append, h]; rfl
theorem accL_bd : ∀ (t : List UInt8) (x y : Int), 0 ≤ x → accL x t = some y → 0 ≤ y := by
 intro t
 induction t with
 | nil => intro x y h0 h; injection h with h; omega
 | cons c t ih =>
   intro x y h0 h
   unfold accL at h
   split at h
   ·rename_i hf
    have := (fol_iff c).1 hf
    exact ih _ y (by omega) h
   ·cases h
theorem accL_up (x : Int) (l : List UInt8) (k : Nat) (hk : k ≤ 3) (h0 : 0 ≤ x) (h1 : x < 256) (y : Int) (h : accL x (l.take k) = some y) : 0 ≤ y ∧ y < 67108864 := by
 refine ⟨accL_bd _ _ _ h0 h, ?_⟩
 have step : ∀ (t : List UInt8) (x y B : Int), x < B → accL x t = some y → y < B * 64 ^ t.length := by
  intro t
  induction t with
  | nil => intro x y B hB h; injection h with h; simp; omega
  | cons c t ih =>
    intro x y B hB h
    unfold accL at h
    split at h
    ·rename_i hf
     have := (fol_iff c).1 hf
     have h2 := ih _ y (B * 64) (by omega) h
     rw [List.length_cons, show B * 64 ^ (t.length + 1) = B * 64 * 64 ^ t.length by rw [Int.pow_succ]; simp only [Int.mul_assoc]; rw [Int.mul_comm (64 ^ t.length)]]
     exact h2
    ·cases h
 have hs := step _ x y 256 h1 h
 have hl : (l.take k).length ≤ 3 := Nat.le_trans (List.length_take_le _ _) hk
 have : (l.take k).length = 0 ∨ (l.take k).length = 1 ∨ (l.take k).length = 2 ∨ (l.take k).length = 3 := by omega
 rcases this with e | e | e | e <;> (rw [e] at hs; simp at hs; omega)
end Go.Proofs.YtdfojkbgdoiglaaDoor
namespace Go.Proofs.YtdfojkbgdoiglaaDoor
open Go.RowKit
section
variable {P : Program} {ops : Array Oper} {md : Region.Mode} {w1 : World} {K : List Fact} {ix iz : Nat} {R0 R1 : (Tmp → Value) → World → World → Prop} {aF : (Tmp → Value) → Act} {i : Nat} {o : Oper}
theorem goesK_any {d : Tmp} (hst : ∀ f ∈ K, f.ok) (hah : Ahead md ops ix i) (hio : ops[i]? = some o) (hx : i ≠ ix) (hz : i ≠ iz) {F : Value → World → Prop} (p : Nat) (hat : K[p]? = some ⟨i, d, F⟩) (huq : ((List.range K.length).all fun q => q == p || ((K[q]?).map fun f => f.i != i && f.d != d).getD true) = true) (hw : ∀ g, Region.wanted o (yielded ops (aF g).tmps) = true) (h0 : o.dst = some d) (hd : ∀ g, (aF g).tmps[d]? = some (g d))
 (hr : ∀ g w, Below w1.heap.size w1 w → (∀ (q : Nat) (f : Fact), K[q]? = some f → edgeB md ops i f.i = true → f.F (g f.d) w) → ∃ v w', (execOp (aF g).eval o).run P w = .ok (.value v) w' ∧ F v w' ∧ Below w.heap.size w w') :
 GoesM P md ops aF (SK md ops w1 K ix iz R0 R1) i o := fun l g w hsz hf hrd hS => by
 rw [if_pos (hw g)]
 have hfx := hah l hsz hS.shut hf
 obtain ⟨h1, h2⟩ := hS.pre hfx
 obtain ⟨v, w', hrun, hme, hb⟩ := hr g w h1 fun q f' hf' he => h2 f' (List.mem_of_getElem? hf') (by
  unfold edgeB at he
  rw [hio] at he
  obtain ⟨e, he, hb⟩ := Array.any_eq_true'.1 he
  simp only [Bool.and_eq_true, beq_iff_eq] at hb
  rw [← hb.2]
  exact hrd e he hb.1)
 exact .inl ⟨v, w', .inl hrun, upd g d v, .inr ⟨d, _, h0, rfl⟩, (fun d' h' => by rw [h0] at h'; cases h'; rw [hd, upd_at]), hS.ghost hst (hS.shut.step hio hrd) hb hx hz hfx (only_me hat huq hme) (only_ot hat huq)⟩
theorem goesK_name {d d' : Tmp} {i' p' : Nat} (hst : ∀ f ∈ K, f.ok) (hah : Ahead md ops ix i) (hio : ops[i]? = some o) (hx : i ≠ ix) (hz : i ≠ iz) {F : Value → World → Prop} (p : Nat) (hat : K[p]? = some ⟨i, d, F⟩) (hat' : K[p']? = some ⟨i', d', F⟩) (hed : edgeB md ops i i' = true) (huq : ((List.range K.length).all fun q => q == p || ((K[q]?).map fun f => f.i != i && f.d != d).getD true) = true) (hw : ∀ g, Region.wanted o (yielded ops (aF g).tmps) = true) (h0 : o.dst = some d) (hd : ∀ g, (aF g).tmps[d]? = some (g d))
 (hr : ∀ g w, (execOp (aF g).eval o).run P w = .ok (.value (g d')) w) :
 GoesM P md ops aF (SK md ops w1 K ix iz R0 R1) i o :=
 goesK_any hst hah hio hx hz p hat huq hw h0 hd fun g w _ hK => ⟨g d', w, hr g w, hK p' _ hat' hed, Below.refl _ _⟩
end
end Go.Proofs.YtdfojkbgdoiglaaDoor
namespace Go.Proofs.YtdfojkbgdoiglaaDoor
open Go.RowKit
theorem none_key (ps : List (List Int)) : ps.length ≠ 1 ∧ decide (ps = [[-1]]) = false ∨ ∃ (h : ps.length = 1), ((ps[0]'(by omega)).length ≠ 1 ∧ decide (ps = [[-1]]) = false ∨ ∃ (h2 : (ps[0]'(by omega)).length = 1), ((ps[0]'(by omega))[0]'(by omega) ≠ -1 ∧ decide (ps = [[-1]]) = false ∨ (ps[0]'(by omega))[0]'(by omega) = -1 ∧ decide (ps = [[-1]]) = true)) := by
 by_cases h1 : ps.length = 1
 ·refine .inr ⟨h1, ?_⟩
  match ps, h1 with
  | [p], _ =>
    by_cases h2 : p.length = 1
    ·refine .inr ⟨h2, ?_⟩
     match p, h2 with
     | [x], _ =>
       by_cases h3 : x = -1
       ·exact .inr ⟨h3, by rw [h3]; rfl⟩
       ·exact .inl ⟨h3, decide_eq_false (by simpa using h3)⟩
    ·exact .inl ⟨h2, decide_eq_false (fun e => h2 (by injection e with e; rw [e]; rfl))⟩
 ·exact .inl ⟨h1, decide_eq_false (fun e => h1 (by rw [e]; rfl))⟩
set_option maxRecDepth 100000 in
set_option maxHeartbeats 4000000 in
theorem isNone_any (A : Option Addr) (n c : Nat) (ps : List (List Int)) (q : Bool) (w : World) (hn : ps.length = n) (hq : decide (ps = [[-1]]) = q) (hl : n ≤ 4294967296) (hr : RdP w A ps) :
 Calls Tryd.prog 75 #[.slice A n c] w fun e w' => e = .returned (.bool q) ∧ w = w' := by
 subst hn
 rcases none_key ps with ⟨h1, h⟩ | ⟨h1, ⟨h2, h⟩ | ⟨h2, ⟨h3, h⟩ | ⟨h3, h⟩⟩⟩
 all_goals
  rw [h] at hq
  subst hq
  clear h
 ·have t1 : ((ps.length : Int) == 1) = false := beq_false_of_ne (by omega)
  clear h1
  go_enter Tryd.func75, Tryd.ntmps75
  go_wp2
  go_ret
  exact ⟨rfl, rfl⟩
 ·obtain ⟨b, o, hA, hb, hcc⟩ := hr (by omega)
  obtain ⟨A', c', hck, hrk⟩ := hcc 0 (by omega)
  rw [Nat.add_zero] at hck
  cases hA
  obtain ⟨m, hm⟩ : ∃ m, (ps[0]'(by omega)).length = m := ⟨_, rfl⟩
  rw [hm] at hck h2
  clear hm hcc hrk
  have t1 : ((ps.length : Int) == 1) = true := beq_iff_eq.2 (by omega)
  have p0 : 0 < ps.length := by omega
  have t2 : ((m : Int) == 1) = false := beq_false_of_ne (by omega)
  clear h1 h2
  go_enter Tryd.func75, Tryd.ntmps75
  go_wp2
  go_ret
  exact ⟨rfl, rfl⟩
 all_goals
  obtain ⟨b, o, hA, hb, hcc⟩ := hr (by omega)
  obtain ⟨A', c', hck, hrk⟩ := hcc 0 (by omega)
  rw [Nat.add_zero] at hck
  obtain ⟨b2, o2, hA2, hb2, hc2⟩ := hrk.int_at (by omega)
  have hc3 := hc2 0 (by omega)
  rw [Nat.add_zero] at hc3
  cases hA
  cases hA2
  obtain ⟨x, hx⟩ : ∃ x, (ps[0]'(by omega))[0]'(by omega) = x := ⟨_, rfl⟩
  rw [hx] at hc3 h3
  rw [h2] at hck
  have t1 : ((ps.length : Int) == 1) = true := beq_iff_eq.2 (by omega)
  have p0 : 0 < ps.length := by omega
  clear hx hc2 hcc hrk h2 h1
 ·have t3 : (x == -1) = false := beq_false_of_ne h3
  clear h3
  go_enter Tryd.func75, Tryd.ntmps75
  go_wp2
  go_ret
  exact ⟨rfl, rfl⟩
 ·subst h3
  go_enter Tryd.func75, Tryd.ntmps75
  go_wp2
  go_ret
  exact ⟨rfl, rfl⟩
theorem fold_min (l : List Int) : ∀ a m : Int, m ≤ l.foldl min a ↔ m ≤ a ∧ ∀ x ∈ l, m ≤ x := by
 induction l with
 | nil => intro a m; simp
 | cons c l ih =>
   intro a m
   rw [List.foldl_cons, ih]
   simp only [List.mem_cons, forall_eq_or_imp]
   exact ⟨fun h => ⟨by omega, by omega, h.2⟩, fun h => ⟨by omega, h.2.2⟩⟩
theorem fold_max (l : List Int) : ∀ a m : Int, l.foldl max a ≤ m ↔ a ≤ m ∧ ∀ x ∈ l, x ≤ m := by
 induction l with
 | nil => intro a m; simp
 | cons c l ih =>
   intro a m
   rw [List.foldl_cons, ih]
   simp only [List.mem_cons, forall_eq_or_imp]
   exact ⟨fun h => ⟨by omega, by omega, h.2⟩, fun h => ⟨by omega, h.2.2⟩⟩
theorem part_minmax {p : List Int} (h : 1 ≤ p.length) : p.all numOk = true ↔ -1 ≤ Lib.minOf p ∧ Lib.maxOf p ≤ 1114111 := by
 match p, h with
 | a :: p, _ =>
   unfold Lib.minOf Lib.maxOf
   rw [fold_min, fold_max]
   simp only [List.headD_cons, List.all_eq_true, numOk_iff]
   constructor
   ·intro h
    exact ⟨⟨(h a (List.mem_cons_self ..)).1, fun x hx => (h x hx).1⟩, (h a (List.mem_cons_self ..)).2, fun x hx => (h x hx).2⟩
   ·intro h x hx
    exact ⟨h.1.2 x hx, h.2.2 x hx⟩
set_option maxRecDepth 100000 in
set_option maxHeartbeats 4000000 in
theorem pparams_any (A : Option Addr) (c : Nat) (ps : List (List Int)) (q : Bool) (w : World) (hq : parOk ps = q) (hl : ps.length ≤ 4294967296) (hp : ∀ p ∈ ps, p.length ≤ 4294967296) (hr : RdP w A ps) :
 Calls Tryd.prog 69 #[.slice A ps.length c] w fun e w' => e = .returned (.bool q) ∧ w = w' := by
 by_cases h16 : 16 < ps.length
 ·obtain rfl : false = q := (par_long h16).symm.trans hq
  clear hq
  go_enter Tryd.func69, Tryd.ntmps69
  go_wp2
  go_ret
  exact ⟨rfl, rfl⟩
 ·have HQ := Lib.hid hq
  clear hq
  cases hN : decide (ps = [[-1]]) with
  | true =>
    have HN := Lib.hid hN
    have he := of_decide_eq_true hN
    obtain rfl : false = q := by rw [← HQ.out, he]; rfl
    clear hN he
    go_enter Tryd.func69, Tryd.ntmps69
    go_wp2_with fail
    refine (isNone_any A _ c ps true _ rfl HN.out hl hr).mono ?_
    rintro e w1 ⟨rfl, rfl⟩
    go_wp2_with fail
    go_ret
    exact ⟨rfl, rfl⟩
  | false =>
    have HN := Lib.hid hN
    have HNE := Lib.hid (of_decide_eq_false hN)
    clear hN
    go_enter Tryd.func69, Tryd.ntmps69
    go_wp2_with fail
    refine (isNone_any A _ c ps false _ rfl HN.out hl hr).mono ?_
    rintro e w1 ⟨rfl, rfl⟩
    go_wp2_with fail
    go_loop [14] (fun i => ∃ k : Nat, k ≤ ps.length ∧ i = .int .i64 k ∧ (ps.take k).all partB = true) (fun i => ps.length - (intOf i).toNat)
    case atStart => exact ⟨0, Nat.zero_le _, rfl, rfl⟩
    case round =>
     obtain ⟨k, hk, rfl, hall⟩ := hrel
     have HA := Lib.hid hall
     clear hall
     by_cases hlt : k < ps.length
     ·obtain ⟨b, o, hA, hb, hcc⟩ := hr (by omega)
      cases hA
      obtain ⟨A', c', hck, hrk⟩ := hcc k hlt
      obtain ⟨p, hp'⟩ : ∃ p, (ps[k]'hlt) = p := ⟨_, rfl⟩
      have hpl := hp _ (List.getElem_mem hlt)
      rw [hp'] at hck hrk hpl
      have HP := Lib.hid hp'
      clear hp' hcc
      obtain ⟨n, hn⟩ : ∃ n, p.length = n := ⟨_, rfl⟩
      rw [hn] at hck hpl
      have HLN := Lib.hid hn
      clear hn
      by_cases hs : 1 ≤ n ∧ n ≤ 8
      ·obtain ⟨n1, n8⟩ := hs
       obtain ⟨b2, o2, hA2, hb2, hc2⟩ := hrk.int_at (by rw [HLN.out]; omega)
       cases hA2
       have HC2 := Lib.hid (fun j (hj : j < p.length) => (hc2 j hj).trans (show some (Value.int .i64 p[j]) = some (.int .i64 (p.getD j 0)) by rw [List.getD_eq_getElem?_getD, List.getElem?_eq_getElem hj]; rfl))
       clear hc2
       have HT := Lib.hid (show p.take n = p from List.take_of_length_le (by rw [HLN.out]; omega))
       have HM := Lib.hid (part_minmax (p := p) (by rw [HLN.out]; omega))
       obtain ⟨mn, hmn⟩ : ∃ mn, Lib.minOf (p.take n) = mn := ⟨_, rfl⟩
       obtain ⟨mx, hmx⟩ : ∃ mx, Lib.maxOf (p.take n) = mx := ⟨_, rfl⟩
       have HMN := Lib.hid hmn
       have HMX := Lib.hid hmx
       clear hmn hmx
       by_cases m1 : -1 ≤ mn
       ·by_cases m2 : mx ≤ 1114111
        ·have E := Lib.hid (show (ps.take (k + 1)).all partB = true by
          rw [List.take_succ_eq_append_getElem hlt, List.all_append, HA.out, HP.out]
          simp only [List.all_cons, List.all_nil, Bool.and_true, Bool.true_and]
          refine partB_yes (by rw [HLN.out]; omega) (by rw [HLN.out]; omega) (HM.out.2 ?_)
          have e1 := HMN.out
          have e2 := HMX.out
          rw [HT.out] at e1 e2
          rw [e1, e2]
          exact ⟨m1, m2⟩)
         go_wp2_with fail
         refine (Tryd.slices_Min_int _ _ n _ p _ (by omega) (by rw [HLN.out]; omega) (by omega) HC2.out).mono ?_
         rw [HMN.out]
         rintro e w1 ⟨rfl, rfl⟩
         go_wp2_with fail
         refine (Tryd.slices_Max_int _ _ n _ p _ (by omega) (by rw [HLN.out]; omega) (by omega) HC2.out).mono ?_
         rw [HMX.out]
         rintro e w1 ⟨rfl, rfl⟩
         go_wp2_with fail
         go_round
         case rel => exact ⟨k + 1, by omega, by go_num, E.out⟩
         case measure => simp [intOf]; omega
        ·have E := Lib.hid (show false = q by
          rw [← HQ.out]
          refine (par_no hlt ?_).symm
          rw [HP.out]
          cases hB : partB p with
          | false => rfl
          | true =>
            exfalso
            unfold partB at hB
            simp only [Bool.and_eq_true] at hB
            have := (HM.out.1 hB.2).2
            have e2 := HMX.out
            rw [HT.out] at e2
            omega)
         go_wp2_with fail
         refine (Tryd.slices_Min_int _ _ n _ p _ (by omega) (by rw [HLN.out]; omega) (by omega) HC2.out).mono ?_
         rw [HMN.out]
         rintro e w1 ⟨rfl, rfl⟩
         go_wp2_with fail
         refine (Tryd.slices_Max_int _ _ n _ p _ (by omega) (by rw [HLN.out]; omega) (by omega) HC2.out).mono ?_
         rw [HMX.out]
         rintro e w1 ⟨rfl, rfl⟩
         go_wp2_with fail
         go_ret
         exact ⟨ret_b E.out, rfl⟩
       ·have E := Lib.hid (show false = q by
         rw [← HQ.out]
         refine (par_no hlt ?_).symm
         rw [HP.out]
         cases hB : partB p with
         | false => rfl
         | true =>
           exfalso
           unfold partB at hB
           simp only [Bool.and_eq_true] at hB
           have := (HM.out.1 hB.2).1
           have e2 := HMN.out
           rw [HT.out] at e2
           omega)
        go_wp2_with fail
        refine (Tryd.slices_Min_int _ _ n _ p _ (by omega) (by rw [HLN.out]; omega) (by omega) HC2.out).mono ?_
        rw [HMN.out]
        rintro e w1 ⟨rfl, rfl⟩
        go_wp2_with fail
        go_ret
        exact ⟨ret_b E.out, rfl⟩
      ·have E := Lib.hid (show false = q by
        rw [← HQ.out]
        refine (par_no hlt ?_).symm
        rw [HP.out]
        exact part_len (by rw [HLN.out]; exact hs))
       by_cases n1 : n < 1
       ·clear hs
        go_wp2_with fail
        go_ret
        exact ⟨ret_b E.out, rfl⟩
       ·have n8 : 8 < n := by omega
        clear hs
        go_wp2_with fail
        go_ret
        exact ⟨ret_b E.out, rfl⟩
     ·have E := Lib.hid (show true = q by
       have := HA.out
       rw [List.take_of_length_le (by omega)] at this
       rw [← HQ.out]
       exact (parOk_yes (by omega) HNE.out this).symm)
      go_wp2_with fail
      go_ret
      exact ⟨ret_b E.out, rfl⟩
end Go.Proofs.YtdfojkbgdoiglaaDoor
