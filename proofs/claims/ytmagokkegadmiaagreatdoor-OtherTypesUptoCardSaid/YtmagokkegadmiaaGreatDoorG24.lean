/-
  Layer 6's mathematics: what modes leave of each other. A region that draws its order, with one new block that is stored into (and one slice that is handed to a call): what each operation keeps. Layer 3, walked: the program's reader: one, part.
-/
import Derived.Test.YtmagokkegadmiaaGreatDoorG05
import Derived.Test.YtmagokkegadmiaaGreatDoorG08
import Derived.Test.YtmagokkegadmiaaGreatDoorG23
namespace Go.Proofs.YtmagokkegadmiaaGreatDoor

/-- A mode leaves all others as they were, but those of the mouse each other, and its codings, too. -/
theorem set_other (m : Mo) {n k : Int} (on : Bool) (hk : k ≠ n) (hm : mouseN k = false) (hc : codingN k = false) : getM (setM m true n on).1 true k = getM m true k := by
  by_cases h : canM true k = true
  · rw [get_is h, get_is h]
    have key : isM (setM m true n on).1 true k = isM m true k := by
      have hx : k = 1 ∨ k = 66 ∨ k = 67 ∨ k = 1004 ∨ k = 2004 := by simpa [canM, hm, hc] using h
      unfold isM setM
      simp only [Bool.true_eq_false, if_false]
      rcases hx with rfl | rfl | rfl | rfl | rfl
      all_goals
        simp only [if_true, show ¬ ((66 : Int) = 1) by decide, show ¬ ((67 : Int) = 1) by decide, show ¬ ((67 : Int) = 66) by decide, show ¬ ((1004 : Int) = 1) by decide, show ¬ ((1004 : Int) = 66) by decide, show ¬ ((1004 : Int) = 67) by decide, show ¬ ((2004 : Int) = 1) by decide, show ¬ ((2004 : Int) = 66) by decide, show ¬ ((2004 : Int) = 67) by decide, show ¬ ((2004 : Int) = 1004) by decide, if_false]
        (repeat' split) <;> first | rfl | (exfalso; omega)
    rw [key]
  · have h' : canM true k = false := by simpa using h
    rw [get_no h', get_no h']
theorem set_plain (m : Mo) (n k : Int) (on : Bool) : getM (setM m true n on).1 false k = getM m false k := by
  by_cases h : canM false k = true
  · rw [get_is h, get_is h]
    have key : isM (setM m true n on).1 false k = isM m false k := by
      unfold isM setM
      simp only [Bool.true_eq_false, if_false, if_true]
      (repeat' split) <;> rfl
    rw [key]
  · have h' : canM false k = false := by simpa using h
    rw [get_no h', get_no h']
theorem set_keeps (m : Mo) (p : Bool) (n : Int) (on : Bool) : (setM m p n on).1.other = m.other := by
  unfold setM plainM
  (repeat' split) <;> rfl
theorem set_priv (m : Mo) (n : Int) (on : Bool) : (setM m true n on).1.lock = m.lock ∧ (setM m true n on).1.line = m.line := by
  unfold setM
  simp only [Bool.true_eq_false, if_false]
  (repeat' split) <;> exact ⟨rfl, rfl⟩
/-- Two modes, the first of neither the mouse's nor of its codings, in either turn. -/
theorem set_turns (m : Mo) {n k : Int} (a b : Bool) (hk : n ≠ k) (hm : mouseN n = false) (hc : codingN n = false) : (setM (setM m true n a).1 true k b).1 = (setM (setM m true k b).1 true n a).1 := by
  by_cases h : canM true n = true
  · have hx : n = 1 ∨ n = 66 ∨ n = 67 ∨ n = 1004 ∨ n = 2004 := by simpa [canM, hm, hc] using h
    unfold setM
    simp only [Bool.true_eq_false, if_false]
    rcases hx with rfl | rfl | rfl | rfl | rfl
    all_goals
      simp only [if_true, show ¬ ((66 : Int) = 1) by decide, show ¬ ((67 : Int) = 1) by decide, show ¬ ((67 : Int) = 66) by decide, show ¬ ((1004 : Int) = 1) by decide, show ¬ ((1004 : Int) = 66) by decide, show ¬ ((1004 : Int) = 67) by decide, show ¬ ((2004 : Int) = 1) by decide, show ¬ ((2004 : Int) = 66) by decide, show ¬ ((2004 : Int) = 67) by decide, show ¬ ((2004 : Int) = 1004) by decide, if_false]
      (repeat' split) <;> first | rfl | (exfalso; omega) | (exfalso; simp_all; done)
  · have h' : canM true n = false := by simpa using h
    rw [set_no h', set_no h']
/-- A list's modes set in turn. -/
def setsM (m : Mo) : List (Int × Bool) → Mo
  | [] => m
  | (n, on) :: l => setsM (setM m true n on).1 l
theorem sets_snoc (m : Mo) (l : List (Int × Bool)) (n : Int) (on : Bool) : setsM m (l ++ [(n, on)]) = (setM (setsM m l) true n on).1 := by
  induction l generalizing m with
  | nil => rfl
  | cons x l ih => exact ih _
theorem may_sets (m : Mo) (l : List (Int × Bool)) (h : mayM m = true) : mayM (setsM m l) = true := by
  induction l generalizing m with
  | nil => exact h
  | cons x l ih => exact ih _ (may_set m true x.1 x.2 h)
theorem may_mo0 : mayM mo0 = true := by decide
/-- How many of the mouse's modes, and of its codings, are set, of the first of those that may be. -/
def mouseT (m : Mo) (x : Int) : Bool := decide (getM m true x = 1) && (decide (x = 9) || (decide (1000 ≤ x) && decide (x ≤ 1003)))
def codingT (m : Mo) (x : Int) : Bool := decide (getM m true x = 1) && (decide (1005 ≤ x) && decide (x ≤ 1015))
def miceM (m : Mo) (i : Nat) : Nat := ((ownM.take i).filter (mouseT m)).length
def codsM (m : Mo) (i : Nat) : Nat := ((ownM.take i).filter (codingT m)).length
theorem mod_take_step (i : Nat) (h : i < 12) : ownM.take (i + 1) = ownM.take i ++ [ownM[i]] := List.take_succ_eq_append_getElem (l := ownM) h
theorem mice_step (m : Mo) (i : Nat) (h : i < 12) : miceM m (i + 1) = miceM m i + (if mouseT m (ownM[i]'h) = true then 1 else 0) := by
  unfold miceM
  rw [mod_take_step i h, List.filter_append, List.length_append]
  congr 1
  by_cases hh : mouseT m (ownM[i]'h) = true
  · rw [if_pos hh, List.filter_cons_of_pos hh]; rfl
  · rw [if_neg hh, List.filter_cons_of_neg hh]; rfl
theorem cods_step (m : Mo) (i : Nat) (h : i < 12) : codsM m (i + 1) = codsM m i + (if codingT m (ownM[i]'h) = true then 1 else 0) := by
  unfold codsM
  rw [mod_take_step i h, List.filter_append, List.length_append]
  congr 1
  by_cases hh : codingT m (ownM[i]'h) = true
  · rw [if_pos hh, List.filter_cons_of_pos hh]; rfl
  · rw [if_neg hh, List.filter_cons_of_neg hh]; rfl
theorem own_can {x : Int} (h : x ∈ ownM) : canM true x = true := by
  simp only [ownM, List.mem_cons, List.mem_nil_iff, or_false] at h
  rcases h with rfl | rfl | rfl | rfl | rfl | rfl | rfl | rfl | rfl | rfl | rfl | rfl <;> decide
theorem mouse_is {m : Mo} {x : Int} (hx : x ∈ ownM) (h : mouseT m x = true) : x = m.mouse := by
  simp only [mouseT, Bool.and_eq_true, Bool.or_eq_true, decide_eq_true_eq] at h
  have h1 := h.1
  rw [get_is (own_can hx)] at h1
  have h2 : isM m true x = true := by
    by_cases hh : isM m true x = true
    · exact hh
    · rw [if_neg hh] at h1; omega
  simp only [ownM, List.mem_cons, List.mem_nil_iff, or_false] at hx
  have hm : mouseN x = true := by rw [mouseN_iff]; omega
  unfold isM at h2
  rw [if_neg (by decide), if_neg (by omega), if_neg (by omega), if_neg (by omega), if_neg (by omega), if_neg (by omega), if_pos hm] at h2
  exact (of_decide_eq_true h2).symm
theorem coding_is {m : Mo} {x : Int} (hx : x ∈ ownM) (h : codingT m x = true) : x = m.coding := by
  simp only [codingT, Bool.and_eq_true, decide_eq_true_eq] at h
  have h1 := h.1
  rw [get_is (own_can hx)] at h1
  have h2 : isM m true x = true := by
    by_cases hh : isM m true x = true
    · exact hh
    · rw [if_neg hh] at h1; omega
  simp only [ownM, List.mem_cons, List.mem_nil_iff, or_false] at hx
  have hm : ¬ mouseN x = true := by rw [mouseN_iff]; omega
  unfold isM at h2
  rw [if_neg (by decide), if_neg (by omega), if_neg (by omega), if_neg (by omega), if_neg (by omega), if_neg (by omega), if_neg hm] at h2
  exact (of_decide_eq_true h2).symm
theorem filter_one (p : Int → Bool) (y : Int) : ∀ (l : List Int), l.Nodup → (∀ x ∈ l, p x = true → x = y) → (l.filter p).length ≤ 1
  | [], _, _ => by simp
  | x :: l, hn, h => by
    obtain ⟨h1, h2⟩ := List.nodup_cons.1 hn
    by_cases hx : p x = true
    · rw [List.filter_cons_of_pos hx]
      have e : l.filter p = [] := by
        rw [List.filter_eq_nil_iff]
        intro z hz hpz
        have := h z (List.mem_cons_of_mem _ hz) hpz
        have := h x (List.mem_cons_self ..) hx
        exact h1 (by rw [this, ← ‹z = y›]; exact hz)
      rw [e]; simp
    · rw [List.filter_cons_of_neg hx]
      exact filter_one p y l h2 fun z hz => h z (List.mem_cons_of_mem _ hz)
theorem own_nodup : ownM.Nodup := by decide
theorem mice_one (m : Mo) (i : Nat) : miceM m i ≤ 1 :=
  filter_one _ m.mouse _ (own_nodup.sublist (List.take_sublist _ _)) fun _ hx h => mouse_is (List.mem_of_mem_take hx) h
theorem cods_one (m : Mo) (i : Nat) : codsM m i ≤ 1 :=
  filter_one _ m.coding _ (own_nodup.sublist (List.take_sublist _ _)) fun _ hx h => coding_is (List.mem_of_mem_take hx) h
theorem can_own (n : Int) : canM true n = ownM.contains n := by
  rw [Bool.eq_iff_iff, List.contains_iff_mem]
  constructor
  · intro h
    have hx : (n = 1 ∨ n = 66 ∨ n = 67 ∨ n = 1004 ∨ n = 2004) ∨ (n = 9 ∨ n = 1000 ∨ n = 1002 ∨ n = 1003) ∨ (n = 1005 ∨ n = 1006 ∨ n = 1015) := by simpa [canM, mouseN, codingN] using h
    simp only [ownM, List.mem_cons, List.mem_nil_iff, or_false]
    omega
  · exact own_can
end Go.Proofs.YtmagokkegadmiaaGreatDoor
namespace Go.Proofs.YtmagokkegadmiaaGreatDoor
open Go.RowKit

section
variable {P : Program} {ops : Array Oper} {md : Region.Mode}
theorem getD_up {l : Array Bool} {i j : Nat} (h : l.getD j false = true) : (l.setIfInBounds i true).getD j false = true := by
  by_cases hij : i = j
  · subst hij
    have hlt : i < l.size := by
      rcases Nat.lt_or_ge i l.size with h1 | h1
      · exact h1
      · rw [Array.getD_eq_getD_getElem?, Array.getElem?_eq_none h1] at h
        cases h
    rw [Array.getD_eq_getD_getElem?, Array.getElem?_setIfInBounds_self_of_lt hlt]
    rfl
  · rw [getD_set_ne false hij]
    exact h
theorem getD_dn {l : Array Bool} {i j : Nat} (h : (l.setIfInBounds i true).getD j false = false) : l.getD j false = false := by
  cases hh : l.getD j false with
  | false => rfl
  | true =>
    rw [getD_up hh] at h
    cases h
theorem getD_self {l : Array Bool} {i : Nat} (h : i < l.size) : (l.setIfInBounds i true).getD i false = true := by
  rw [Array.getD_eq_getD_getElem?, Array.getElem?_setIfInBounds_self_of_lt h]
  rfl
/-- A region's state: one new block (made by operation ia into slot d, stored by operation iz), one slice that is handed on (made by operation ih into slot dh, wanted till operation ic). -/
structure SM (w1 : World) (ia iz : Nat) (d : Tmp) (ty : TypeId) (z cs : Array Value) (ih ic : Nat) (dh : Tmp) (n : Nat) (xs : List Value) (l : Array Bool) (g : Tmp → Value) (w : World) : Prop where
  below : Below w1.heap.size w1 w
  made : l.getD ia false = true → ∃ b, g d = .pointer (some ⟨b, 0, none⟩) ∧ w1.heap.size ≤ b ∧ Blk w b ty (if l.getD iz false = true then cs else z)
  hand : l.getD ih false = true → l.getD ic false = false → ∃ A c, g dh = .slice A n c ∧ Rd w A xs
  turn : l.getD iz false = true → l.getD ia false = true
variable {w1 : World} {ia iz : Nat} {d : Tmp} {ty : TypeId} {z cs : Array Value} {ih ic : Nat} {dh : Tmp} {n : Nat} {xs : List Value} {l : Array Bool} {g : Tmp → Value} {w w' : World} {aF : (Tmp → Value) → Act} {i : Nat} {o : Oper}
theorem SM.quiet (h : SM w1 ia iz d ty z cs ih ic dh n xs l g w) (hb : Below w.heap.size w w') (hia : i ≠ ia) (hiz : i ≠ iz) (hih : i ≠ ih) : SM w1 ia iz d ty z cs ih ic dh n xs (l.setIfInBounds i true) g w' := by
  refine ⟨h.below.trans (hb.mono h.below.size), fun ha => ?_, fun ha hc => ?_, fun hz => ?_⟩
  · rw [getD_set_ne false hia] at ha
    obtain ⟨b, h1, h2, h3⟩ := h.made ha
    refine ⟨b, h1, h2, ?_⟩
    rw [getD_set_ne false hiz]
    exact h3.below hb h3.lt
  · rw [getD_set_ne false hih] at ha
    obtain ⟨A, c, h1, h2⟩ := h.hand ha (getD_dn hc)
    exact ⟨A, c, h1, h2.below hb⟩
  · rw [getD_set_ne false hiz] at hz
    exact getD_up (h.turn hz)
theorem no_laid (k j : Nat) : (Array.replicate k false).getD j false = false := by
  rw [Array.getD_eq_getD_getElem?, Array.getElem?_replicate]
  split <;> rfl
theorem SM.zero (w1 : World) (hb : Below w1.heap.size w1 w) (k : Nat) : SM w1 ia iz d ty z cs ih ic dh n xs (Array.replicate k false) g w :=
  ⟨hb, (fun h => by rw [no_laid] at h; cases h), (fun h => by rw [no_laid] at h; cases h), (fun h => by rw [no_laid] at h; cases h)⟩
theorem SM.end_ (h : SM w1 ia iz d ty z cs ih ic dh n xs l g w) (ha : l.getD ia false = true) (hz : l.getD iz false = true) : ∃ b, g d = .pointer (some ⟨b, 0, none⟩) ∧ w1.heap.size ≤ b ∧ Blk w b ty cs := by
  obtain ⟨b, h1, h2, h3⟩ := h.made ha
  rw [if_pos hz] at h3
  exact ⟨b, h1, h2, h3⟩
/-- A list of looks, one an operation. -/
def GoesL (P : Program) (md : Region.Mode) (ops : Array Oper) (aF : (Tmp → Value) → Act) (S : Array Bool → (Tmp → Value) → World → Prop) : Nat → List Oper → Prop
  | _, [] => True
  | i, o :: os => GoesM P md ops aF S i o ∧ GoesL P md ops aF S (i + 1) os
theorem goes_cons {S : Array Bool → (Tmp → Value) → World → Prop} {os : List Oper} (h : GoesM P md ops aF S i o) (hs : GoesL P md ops aF S (i + 1) os) : GoesL P md ops aF S i (o :: os) := ⟨h, hs⟩
theorem goes_nil {S : Array Bool → (Tmp → Value) → World → Prop} : GoesL P md ops aF S i [] := trivial
theorem goesL_get {S : Array Bool → (Tmp → Value) → World → Prop} : ∀ (os : List Oper) (k : Nat), GoesL P md ops aF S k os → ∀ (j : Nat) (o : Oper), os[j]? = some o → GoesM P md ops aF S (k + j) o
  | [], _, _, _, _, h => by simp at h
  | x :: os, k, h, 0, o, ho => by
    simp at ho
    subst ho
    exact h.1
  | x :: os, k, h, j + 1, o, ho => by
    have := goesL_get os (k + 1) h.2 j o (by simpa using ho)
    rwa [show k + 1 + j = k + (j + 1) by omega] at this
theorem goesAllM_of_list {S : Array Bool → (Tmp → Value) → World → Prop} (h : GoesL P md ops aF S 0 ops.toList) : GoesAllM P md ops aF S := fun i o ho => by
  have := goesL_get ops.toList 0 h i o (by rw [← ho, Array.getElem?_toList])
  rwa [Nat.zero_add] at this
/-- A value, and the world as it was. -/
theorem goesM_val (v : (Tmp → Value) → Value) (hia : i ≠ ia) (hiz : i ≠ iz) (hih : i ≠ ih) (hw : ∀ g, Region.wanted o (yielded ops (aF g).tmps) = true) {d0 : Tmp} (h0 : o.dst = some d0) (hd : ∀ g, (aF g).tmps[d0]? = some (v g)) (h : ∀ g w, Below w1.heap.size w1 w → (execOp (aF g).eval o).run P w = .ok (.value (v g)) w) :
    GoesM P md ops aF (SM w1 ia iz d ty z cs ih ic dh n xs) i o := fun l g w _ _ _ hS => by
  rw [if_pos (hw g)]
  exact .inl ⟨v g, w, .inl (h g w hS.below), g, .inl rfl, (fun d' h' => by rw [h0] at h'; cases h'; exact hd g), hS.quiet (Below.refl _ _) hia hiz hih⟩
/-- A struct, or an array, of a known block. -/
theorem goesM_load {t : TypeId} {x : Operand} {b : Nat} {es : Array Value} {td : TypeDesc} (hia : i ≠ ia) (hiz : i ≠ iz) (hih : i ≠ ih) (hw : ∀ g, Region.wanted o (yielded ops (aF g).tmps) = true) {d0 : Tmp} (h0 : o.dst = some d0) (hd : ∀ g, (aF g).tmps[d0]? = some (.agg es)) (ho : o.op = .load t x) (hx : ∀ g, (aF g).eval x = .pointer (some ⟨b, 0, none⟩)) (hk : ∀ w, Below w1.heap.size w1 w → Blk w b t es) (hu : P.underlying t = some td) (hr : td.isRow = true) (hi : (P.info? t).map (·.size) = some es.size) :
    GoesM P md ops aF (SM w1 ia iz d ty z cs ih ic dh n xs) i o :=
  goesM_val (fun _ => .agg es) hia hiz hih hw h0 hd fun g w hb => by
    unfold execOp
    simp only [ho, hx, Instr.loadAt, Instr.sureAddr, Sem.run_bind, Sem.run_pure, Result.andThen_ok, run_loadVar_mid w b 0 t es.toList td (hk w hb).range hu hr (by rw [hi]; simp)]
/-- The same, out of the midst of a known block. -/
theorem goesM_row {t : TypeId} {x : Operand} {b q : Nat} {es : Array Value} {td : TypeDesc} (hia : i ≠ ia) (hiz : i ≠ iz) (hih : i ≠ ih) (hw : ∀ g, Region.wanted o (yielded ops (aF g).tmps) = true) {d0 : Tmp} (h0 : o.dst = some d0) (hd : ∀ g, (aF g).tmps[d0]? = some (.agg es)) (ho : o.op = .load t x) (hx : ∀ g, (aF g).eval x = .pointer (some ⟨b, q, none⟩)) (hk : ∀ w, Below w1.heap.size w1 w → w.rangeAt b q es.toList) (hu : P.underlying t = some td) (hr : td.isRow = true) (hi : (P.info? t).map (·.size) = some es.size) :
    GoesM P md ops aF (SM w1 ia iz d ty z cs ih ic dh n xs) i o :=
  goesM_val (fun _ => .agg es) hia hiz hih hw h0 hd fun g w hb => by
    unfold execOp
    simp only [ho, hx, Instr.loadAt, Instr.sureAddr, Sem.run_bind, Sem.run_pure, Result.andThen_ok, run_loadVar_mid w b q t es.toList td (hk w hb) hu hr (by rw [hi]; simp)]
theorem run_loadVar_one {t : TypeId} {a : Addr} {v : Value} {w : World} (hag : ∀ w, (isAgg t).run P w = .ok false w) (hc : w.cell? a = some v) : (loadVar t a).run P w = .ok v w := by
  simp [loadVar, hag, hc, Result.andThen]
/-- One cell. -/
theorem goesM_cell {t : TypeId} {x : Operand} {a : Addr} {v : Value} (hia : i ≠ ia) (hiz : i ≠ iz) (hih : i ≠ ih) (hw : ∀ g, Region.wanted o (yielded ops (aF g).tmps) = true) {d0 : Tmp} (h0 : o.dst = some d0) (hd : ∀ g, (aF g).tmps[d0]? = some v) (ho : o.op = .load t x) (hx : ∀ g, (aF g).eval x = .pointer (some a)) (hk : ∀ w, Below w1.heap.size w1 w → w.cell? a = some v) (hag : ∀ w, (isAgg t).run P w = .ok false w) :
    GoesM P md ops aF (SM w1 ia iz d ty z cs ih ic dh n xs) i o :=
  goesM_val (fun _ => v) hia hiz hih hw h0 hd fun g w hb => by
    unfold execOp
    simp only [ho, hx, Instr.loadAt, Instr.sureAddr, Sem.run_bind, Sem.run_pure, Result.andThen_ok, run_loadVar_one hag (hk w hb)]
/-- The place of a slice's element, of one cell. -/
theorem goesM_index {t : TypeId} {x y : Operand} {b q m c k : Nat} (hia : i ≠ ia) (hiz : i ≠ iz) (hih : i ≠ ih) (hw : ∀ g, Region.wanted o (yielded ops (aF g).tmps) = true) {d0 : Tmp} (h0 : o.dst = some d0) (hd : ∀ g, (aF g).tmps[d0]? = some (.pointer (some ⟨b, q + k, none⟩))) (ho : o.op = .indexAddr t x y) (hx : ∀ g, (aF g).eval x = .slice (some ⟨b, q, none⟩) m c) (hy : ∀ g, (aF g).eval y = .int .i64 (k : Int)) (hk : k < m) (ht : P.underlying t = some (.slice (P.elem t))) (hs : ∀ w, (sizeOf (P.elem t)).run P w = .ok 1 w) :
    GoesM P md ops aF (SM w1 ia iz d ty z cs ih ic dh n xs) i o :=
  goesM_val (fun _ => .pointer (some ⟨b, q + k, none⟩)) hia hiz hih hw h0 hd fun g w _ => by
    unfold execOp
    have e : (⟨b, q, none⟩ : Addr).add k = ⟨b, q + k, none⟩ := by unfold Addr.add; split <;> simp_all
    simp only [ho, hx, hy, Sem.run_bind, run_indexAt_slice w t _ m c .i64 (k : Int) ht, if_pos (show (0 : Int) ≤ (k : Int) ∧ (k : Int) < (m : Int) by omega), hs, Result.andThen_ok, Int.toNat_natCast, Nat.mul_one, e, Sem.run_pure]
/-- Two values, weighed or reckoned with. -/
theorem goesM_bin {op : BinOp} {t t2 : TypeId} {x y : Operand} {xv yv v : Value} (hia : i ≠ ia) (hiz : i ≠ iz) (hih : i ≠ ih) (hw : ∀ g, Region.wanted o (yielded ops (aF g).tmps) = true) {d0 : Tmp} (h0 : o.dst = some d0) (hd : ∀ g, (aF g).tmps[d0]? = some v) (ho : o.op = .binOp op t x y t2) (hx : ∀ g, (aF g).eval x = xv) (hy : ∀ g, (aF g).eval y = yv) (hr : ∀ w, (do eqGuard op t x y xv yv; binOp op t xv yv : Sem Value).run P w = .ok v w) :
    GoesM P md ops aF (SM w1 ia iz d ty z cs ih ic dh n xs) i o :=
  goesM_val (fun _ => v) hia hiz hih hw h0 hd fun g w _ => by
    unfold execOp
    have h := hr w
    simp only [Sem.run_bind] at h
    simp only [ho, hx, hy, Sem.run_bind, h, Result.andThen_ok, Sem.run_pure]
/-- A call whose answer is known. -/
theorem goesM_call {v : Value} {f : FuncId} {args : (Tmp → Value) → Array Value} (hia : i ≠ ia) (hiz : i ≠ iz) (hih : i ≠ ih) (hw : ∀ g, Region.wanted o (yielded ops (aF g).tmps) = true) {d0 : Tmp} (h0 : o.dst = some d0) (hd : ∀ g, (aF g).tmps[d0]? = some v) (hr : ∀ g w, (execOp (aF g).eval o).run P w = .ok (.enter f (args g)) w)
    (hc : ∀ l g w, l.size = ops.size → l.getD i false = false → (∀ e ∈ o.after, Region.binds md e = true → l.getD e.on false = true) → SM w1 ia iz d ty z cs ih ic dh n xs l g w → Calls P f (args g) w fun e w' => e = .returned v ∧ Below w.heap.size w w') :
    GoesM P md ops aF (SM w1 ia iz d ty z cs ih ic dh n xs) i o := fun l g w hz hf hrd hS => by
  rw [if_pos (hw g)]
  exact .inr ⟨f, args g, w, hr g w, (hc l g w hz hf hrd hS).mono fun e w' ⟨he, hb⟩ => ⟨v, he, g, .inl rfl, (fun d' h' => by rw [h0] at h'; cases h'; exact hd g), hS.quiet hb hia hiz hih⟩⟩
/-- The new block. -/
theorem goesM_alloc (hi : i = ia) (haz : ia ≠ iz) (hah : ia ≠ ih) (hdd : dh ≠ d) (hw : ∀ g, Region.wanted o (yielded ops (aF g).tmps) = true) (ho : o.dst = some d) (hd : ∀ g, (aF g).tmps[d]? = some (g d)) (hr : ∀ g w, (execOp (aF g).eval o).run P w = .ok (.value (.pointer (some ⟨w.heap.size, 0, none⟩))) (w.alloc (.cells z ty))) :
    GoesM P md ops aF (SM w1 ia iz d ty z cs ih ic dh n xs) i o := fun l g w hsz hf _ hS => by
  subst hi
  rw [if_pos (hw g)]
  have hz0 : l.getD iz false = false := by
    cases hh : l.getD iz false with
    | false => rfl
    | true =>
      rw [hS.turn hh] at hf
      cases hf
  refine .inl ⟨_, _, .inl (hr g w), upd g d (.pointer (some ⟨w.heap.size, 0, none⟩)), .inr ⟨d, _, ho, rfl⟩, fun d' h' => ?_, hS.below.alloc hS.below.size _, fun _ => ⟨w.heap.size, upd_at _ _ _, hS.below.size, ?_⟩, fun ha hc => ?_, fun hh => ?_⟩
  · rw [ho] at h'
    cases h'
    rw [hd, upd_at]
  · rw [getD_set_ne false haz, hz0]
    exact Blk.new w ty z
  · rw [getD_set_ne false hah] at ha
    obtain ⟨A, c, h1, h2⟩ := hS.hand ha (getD_dn hc)
    exact ⟨A, c, by rw [upd_ne g _ hdd]; exact h1, h2.alloc _⟩
  · rw [getD_set_ne false haz, hz0] at hh
    cases hh
/-- The store into it. -/
theorem goesM_store {x y : Operand} (hi : i = iz) (hio : ops[i]? = some o) (hzh : iz ≠ ih) (hza : iz ≠ ia) (hw : ∀ g, Region.wanted o (yielded ops (aF g).tmps) = true) (hop : o.op = .store ty x y) (ho : o.dst = none) (hx : ∀ g, (aF g).eval x = g d) (hy : ∀ g, (aF g).eval y = .agg cs)
    (hs : cs.size = z.size) (hin : (P.info? ty).map (·.size) = some z.size) (h1 : cs.toList.all (·.oneCell') = true)
    (hdone : ∀ l : Array Bool, l.size = ops.size → (∀ e ∈ o.after, Region.binds md e = true → l.getD e.on false = true) → l.getD ia false = true ∧ (l.getD ih false = true → l.getD ic false = true)) :
    GoesM P md ops aF (SM w1 ia iz d ty z cs ih ic dh n xs) i o := fun l g w hsz hf hrd hS => by
  subst hi
  rw [if_pos (hw g)]
  obtain ⟨la, lh⟩ := hdone l hsz hrd
  obtain ⟨b, g1, g2, g3⟩ := hS.made la
  rw [hf] at g3
  replace g3 : Blk w b ty z := g3
  have hlt : i < l.size := by rw [hsz]; exact (Array.getElem?_eq_some_iff.1 hio).1
  have hrun := g3.run_set (P := P) cs hs hin h1
  refine .inl ⟨undef, w.setCells b 0 cs.toList, .inr ⟨?_, rfl⟩, g, .inl rfl, (fun d' h' => by rw [ho] at h'; cases h'), hS.below.grown (grown_setCells b _ 0 w) hS.below.size (fun k e => by cases e; exact g2), fun _ => ⟨b, g1, g2, ?_⟩, fun ha hc => ?_, fun _ => ?_⟩
  · unfold execOp
    simp only [hop, hx, hy, g1, Sem.run_bind, hrun, Result.andThen_ok, Sem.run_pure]
  · rw [getD_self hlt, if_pos rfl]
    exact g3.setAll hs
  · rw [getD_set_ne false hzh] at ha
    rw [getD_up (lh ha)] at hc
    cases hc
  · exact getD_up la
/-- The slice, out of a call. -/
theorem goesM_hand {f : FuncId} {args : (Tmp → Value) → Array Value} (hi : i = ih) (hha : ih ≠ ia) (hhz : ih ≠ iz) (hdd : d ≠ dh) (hw : ∀ g, Region.wanted o (yielded ops (aF g).tmps) = true) (ho : o.dst = some dh) (hd : ∀ g, (aF g).tmps[dh]? = some (g dh)) (hr : ∀ g w, (execOp (aF g).eval o).run P w = .ok (.enter f (args g)) w)
    (hc : ∀ g w, Below w1.heap.size w1 w → Calls P f (args g) w fun e w' => ∃ A c, e = .returned (.slice A n c) ∧ Rd w' A xs ∧ Below w.heap.size w w') :
    GoesM P md ops aF (SM w1 ia iz d ty z cs ih ic dh n xs) i o := fun l g w hsz hf _ hS => by
  subst hi
  rw [if_pos (hw g)]
  refine .inr ⟨f, args g, w, hr g w, (hc g w hS.below).mono fun e w' ⟨A, c, he, hR, hb⟩ => ⟨.slice A n c, he, upd g dh (.slice A n c), .inr ⟨dh, _, ho, rfl⟩, fun d' h' => ?_, hS.below.trans (hb.mono hS.below.size), fun ha => ?_, fun _ _ => ⟨A, c, upd_at _ _ _, hR⟩, fun hh => ?_⟩⟩
  · rw [ho] at h'
    cases h'
    rw [hd, upd_at]
  · rw [getD_set_ne false hha] at ha
    obtain ⟨b, h1, h2, h3⟩ := hS.made ha
    refine ⟨b, by rw [upd_ne g _ hdd]; exact h1, h2, ?_⟩
    rw [getD_set_ne false hhz]
    exact h3.below hb h3.lt
  · rw [getD_set_ne false hhz] at hh
    exact getD_up (hS.turn hh)
/-- The slice, out of a list of its own. -/
theorem goesM_slice {te : TypeId} {es : Array Value} (hi : i = ih) (hha : ih ≠ ia) (hhz : ih ≠ iz) (hdd : d ≠ dh) (hw : ∀ g, Region.wanted o (yielded ops (aF g).tmps) = true) (ho : o.dst = some dh) (hd : ∀ g, (aF g).tmps[dh]? = some (g dh)) (hr : ∀ g w, (execOp (aF g).eval o).run P w = .ok (.value (.slice (some ⟨w.heap.size, 0, none⟩) n n)) (w.alloc (.cells es te))) (hxs : es.toList = xs) :
    GoesM P md ops aF (SM w1 ia iz d ty z cs ih ic dh n xs) i o := fun l g w hsz hf _ hS => by
  subst hi
  rw [if_pos (hw g)]
  refine .inl ⟨_, _, .inl (hr g w), upd g dh (.slice (some ⟨w.heap.size, 0, none⟩) n n), .inr ⟨dh, _, ho, rfl⟩, fun d' h' => ?_, hS.below.alloc hS.below.size _, fun ha => ?_, fun _ _ => ⟨_, _, upd_at _ _ _, Rd.block (heap_alloc_new w (.cells es te)) (by rw [hxs, List.take_length])⟩, fun hh => ?_⟩
  · rw [ho] at h'
    cases h'
    rw [hd, upd_at]
  · rw [getD_set_ne false hha] at ha
    obtain ⟨b, h1, h2, h3⟩ := hS.made ha
    refine ⟨b, by rw [upd_ne g _ hdd]; exact h1, h2, ?_⟩
    rw [getD_set_ne false hhz]
    exact h3.alloc _
  · rw [getD_set_ne false hhz] at hh
    exact getD_up (hS.turn hh)
/-- The region, whatever order is picked. -/
theorem wp_region_one {Q : Exit → Act → World → Prop} {id : Nat} {a : Act} {w0 : World} (ds : List Tmp) (aL : Value → Value → Act) (vals : List Value) (hm : P.follows .mixedOrders = true) (hc : regCheck .any ops = true) (hs : Region.noSelect ops = true)
    (hL : ∀ g, fillA (aL undef undef) ds g = aL (g d) (g dh)) (hn : goF a ops.toList vals = aL undef undef) (hS : Below w1.heap.size w1 w0.drew) (hia : ia < ops.size) (hiz : iz < ops.size)
    (hg : GoesL P .any ops (fun g => aL (g d) (g dh)) (SM w1 ia iz d ty z cs ih ic dh n xs) 0 ops.toList)
    (hQ : ∀ b v w, w1.heap.size ≤ b → Below w1.heap.size w1 w → Blk w b ty cs → Q .normal (aL (.pointer (some ⟨b, 0, none⟩)) v) w) :
    (Code.region id ops true).wp P Q a w0 :=
  wp_region_made (a0 := aL undef undef) (S := SM w1 ia iz d ty z cs ih ic dh n xs) ds hm hc hs (fun _ => undef) (by rw [hL]; exact near_of vals hn) (SM.zero w1 hS _) (by rw [show fillA (aL undef undef) ds = fun g => aL (g d) (g dh) from funext hL]; exact goesAllM_of_list hg) fun l g w hall h => by
    obtain ⟨b, h1, h2, h3⟩ := h.end_ (hall _ hia) (hall _ hiz)
    rw [hL, h1]
    exact hQ b (g dh) w h2 h.below h3
end
end Go.Proofs.YtmagokkegadmiaaGreatDoor
namespace Go.Proofs.YtmagokkegadmiaaGreatDoor
open Go.RowKit

/-- The table, and all of it below a block. -/
def TabIn (n₁ : Nat) (w : World) : Prop := Lib.TabBelow Tryz.prog n₁ w "internal/strconv.uint64pow10" .u64 Lib.pow10Tab
theorem TabIn.tab {n₁ : Nat} {w : World} (h : TabIn n₁ w) : Tab w := h.here
theorem TabIn.below {n₁ : Nat} {w w' : World} (h : TabIn n₁ w) (hb : Below n₁ w w') : TabIn n₁ w' := h.on hb
theorem TabIn.grown {n₁ : Nat} {w w' : World} (h : TabIn n₁ w) (hg : w.grownBy w' (some n₁)) (hn : n₁ < w.heap.size) : TabIn n₁ w' := h.on (below_grown hg (Nat.le_refl _) hn)
theorem Rdr.lt {w : World} {g : Nat} {A : Option Addr} {c : Nat} {l r : List UInt8} {x0 x1 x2 x3 x4 x5 : Value} (h : Rdr w g A c l x0 x1 x2 x3 x4 x5 r) : g < w.heap.size := by
  obtain ⟨_, _, _, _, hb⟩ := h
  exact hb.lt
theorem Rdr.below {B : Nat} {w w' : World} {g : Nat} {A : Option Addr} {c : Nat} {l r : List UInt8} {x0 x1 x2 x3 x4 x5 : Value} (h : Rdr w g A c l x0 x1 x2 x3 x4 x5 r) (hb : Below B w w') (hB : g < B) : Rdr w' g A c l x0 x1 x2 x3 x4 x5 r := by
  obtain ⟨p, h1, h2, h3, h4⟩ := h
  exact ⟨p, h1, h2, h3.below (hb.mono (Nat.le_of_lt hB)), h4.below hb hB⟩
theorem Rdr.drewN {w : World} {g : Nat} {A : Option Addr} {c : Nat} {l r : List UInt8} {x0 x1 x2 x3 x4 x5 : Value} (h : Rdr w g A c l x0 x1 x2 x3 x4 x5 r) (n : Nat) : Rdr (w.drewN n) g A c l x0 x1 x2 x3 x4 x5 r := h

theorem skip_yes (g : Nat) (A : Option Addr) (c : Nat) (l t r : List UInt8) (x0 x1 x2 x3 x4 x5 : Value) (w : World) (hq : skipB t r = true) (hlc : l.length ≤ c) (hl : l.length ≤ 4294967296) (ht : t.length ≤ 4294967296) (h : Rdr w g A c l x0 x1 x2 x3 x4 x5 r) :
    Calls Tryz.prog 54 #[.pointer (some ⟨g, 0, none⟩), .string ⟨t.toArray⟩] w fun e w' => e = .returned (.bool true) ∧ Rdr w' g A c l x0 x1 x2 x3 x4 x5 (r.drop t.length) ∧ w.grownBy w' (some g) :=
  skip_any g A c l t r x0 x1 x2 x3 x4 x5 true w hq hlc hl ht h
theorem skip_no (g : Nat) (A : Option Addr) (c : Nat) (l t r : List UInt8) (x0 x1 x2 x3 x4 x5 : Value) (w : World) (hq : skipB t r = false) (hlc : l.length ≤ c) (hl : l.length ≤ 4294967296) (ht : t.length ≤ 4294967296) (h : Rdr w g A c l x0 x1 x2 x3 x4 x5 r) :
    Calls Tryz.prog 54 #[.pointer (some ⟨g, 0, none⟩), .string ⟨t.toArray⟩] w fun e w' => e = .returned (.bool false) ∧ Rdr w' g A c l x0 x1 x2 x3 x4 x5 r ∧ w.grownBy w' (some g) :=
  skip_any g A c l t r x0 x1 x2 x3 x4 x5 false w hq hlc hl ht h

set_option maxRecDepth 100000 in
set_option maxHeartbeats 4000000 in
theorem one_any (g : Nat) (A : Option Addr) (c a b : Nat) (l r : List UInt8) (x : UInt8) (x0 x1 x2 x3 x4 x5 : Value) (w : World) (hx : oneF a b r = x) (ha : 1 ≤ a) (hlc : l.length ≤ c) (hl : l.length ≤ 4294967296) (h : Rdr w g A c l x0 x1 x2 x3 x4 x5 r) :
    Calls Tryz.prog 80 #[.pointer (some ⟨g, 0, none⟩), .int .u8 a, .int .u8 b] w fun e w' => e = .returned (.int .u8 (x.toNat : Int)) ∧ Rdr w' g A c l x0 x1 x2 x3 x4 x5 (r.drop (runF a b 1 r).length) ∧ w.grownBy w' (some g) := by
  have hone := one_run a b r ha
  rw [hx] at hone
  by_cases h0 : x = 0
  · subst h0
    have HU := Lib.hid (show runF a b 1 r = [] from hone)
    clear hone hx
    go_enter Tryz.func80, Tryz.ntmps80
    go_wp2_with fail
    refine (run2_any g A c a b 1 l r [] x0 x1 x2 x3 x4 x5 _ HU.out hlc hl (by omega) h).mono ?_
    rintro e w1 ⟨rfl, h1, hg1⟩
    go_wp2_with fail
    go_ret
    rw [HU.out]
    exact ⟨rfl, h1, hg1⟩
  · have HU := Lib.hid (show runF a b 1 r = [x] by rw [hone]; exact if_neg h0)
    clear hone hx h0
    go_enter Tryz.func80, Tryz.ntmps80
    go_wp2_with fail
    refine (run2_any g A c a b 1 l r [x] x0 x1 x2 x3 x4 x5 _ HU.out hlc hl (by omega) h).mono ?_
    rintro e w1 ⟨rfl, h1, hg1⟩
    go_wp2_with fail
    go_ret
    rw [HU.out]
    exact ⟨rfl, h1, hg1⟩

set_option maxRecDepth 100000 in
set_option maxHeartbeats 4000000 in
theorem part2_any (g : Nat) (A : Option Addr) (c : Nat) (l r r' : List UInt8) (n : Int) (x0 x1 x2 x3 x4 x5 : Value) (w : World) (hn : partF r = (n, r')) (hlc : l.length ≤ c) (hl : l.length ≤ 4294967296) (ht : TabIn g w) (h : Rdr w g A c l x0 x1 x2 x3 x4 x5 r) :
    Calls Tryz.prog 112 #[.pointer (some ⟨g, 0, none⟩)] w fun e w' => e = .returned (.int .i64 n) ∧ Rdr w' g A c l x0 x1 x2 x3 x4 x5 r' ∧ w.grownBy w' (some g) := by
  have hh := h
  obtain ⟨at_, hat, hr, hrd, hblk⟩ := h
  have hlt := hblk.lt
  obtain ⟨A', hcut, hrd2⟩ := cut_run (P := Tryz.prog) (T := 27) (e := 5) (by kernel_rfl) Tryz.underlying27 Tryz.sizeOf5 A l.length c at_ hat hlc
  have hrd3 := hrd2 g w l rfl hrd
  rw [hr] at hrd3
  have c0 : w.cell? ⟨g, 0, none⟩ = some (.slice A l.length c) := hblk.cell 0
  have c1 : w.cell? ⟨g, 1, none⟩ = some (.int .i64 (at_ : Int)) := hblk.cell 1
  have HL := Lib.hid (show r.length = l.length - at_ by rw [← hr, List.length_drop])
  have n0 : (0 : Int) ≤ (at_ : Int) := by omega
  have n1 : (at_ : Int) ≤ (l.length : Int) := by omega
  have hrl : r.length ≤ 4294967296 := by have := HL.out; omega
  have HS : Hid (∀ W, Below w.heap.size w W → W.cell? ⟨g, 0, none⟩ = some (.slice A l.length c) ∧ W.cell? ⟨g, 1, none⟩ = some (.int .i64 (at_ : Int)) ∧ Below w.heap.size w W) := Lib.hid fun W hb => ⟨(hb.cell (p := ⟨g, 0, none⟩) hlt).trans c0, (hb.cell (p := ⟨g, 1, none⟩) hlt).trans c1, hb⟩
  have HR3 : Hid (∀ W, Below w.heap.size w W → Rd W A' (bs r)) := Lib.hid fun W hb => ((hrd3.rd (Nat.le_of_lt hlt))).below hb
  obtain ⟨v, hv⟩ : ∃ v, satv r = v := ⟨_, rfl⟩
  have hvle := satv_le r
  rw [hv] at hvle
  have HV := Lib.hid hv
  have HN := Lib.hid hn
  obtain ⟨d, hd⟩ : ∃ d, digs r = d := ⟨_, rfl⟩
  have HD := Lib.hid hd
  clear hr hv hrd2 hrd3 hn hd
  go_enter Tryz.func112, Tryz.ntmps112
  go_wp2_with fail
  go_region_held (fun w' => w'.cell? ⟨g, 0, none⟩ = some (.slice A l.length c) ∧ w'.cell? ⟨g, 1, none⟩ = some (.int .i64 (at_ : Int)) ∧ Below w.heap.size w w') (first | exact HS.out _ (Below.refl _ _).drew | exact HS.out _ ((Below.refl _ _).drew.trans hb2)) (first | (go_at_call 119; refine (take_at A' _ r _ _ HL.out hrl (HR3.out _ (Below.refl _ _).drew)).mono ?_; rw [HV.out, HD.out]; rintro e w2 ⟨rfl, hb2⟩))
  have hb2w : Below w.heap.size w w2 := (Below.refl _ _).drew.trans hb2
  have h2 := hh.below hb2w hlt
  have ht2 := ht.below (hb2w.mono (Nat.le_of_lt hlt))
  have hg2 := grown_below (some g) hb2w
  clear hb2
  obtain ⟨T, hT⟩ : ∃ T, textL (v : Int) = T := ⟨_, rfl⟩
  have HT := Lib.hid hT
  have hTl := textL_length (v : Int) (by omega)
  rw [hT] at hTl
  clear hT HS HR3 hcut c0 c1 hrd hblk hh
  have key : skipB T r = true ∧ n = (v : Int) ∧ r' = r.drop T.length ∨ skipB T r = false ∧ n = -1 ∧ r' = r := by
    have := HN.out
    unfold partF at this
    rw [HV.out, HT.out] at this
    cases hs : skipB T r with
    | true => rw [hs, if_pos rfl] at this; injection this with e1 e2; exact .inl ⟨rfl, e1.symm, e2.symm⟩
    | false => rw [hs, if_neg (by simp)] at this; injection this with e1 e2; exact .inr ⟨rfl, e1.symm, e2.symm⟩
  clear HN
  rcases key with ⟨hs, rfl, rfl⟩ | ⟨hs, rfl, rfl⟩
  · have HSK := Lib.hid hs
    clear hs
    go_wp2_with fail
    refine (text_any (v : Int) _ (by omega) (by omega) ht2.tab).mono ?_
    rw [HT.out]
    rintro e w3 ⟨rfl, hb3⟩
    go_wp2_with fail
    refine (skip_any g A c l T r x0 x1 x2 x3 x4 x5 true _ HSK.out hlc hl (by omega) (h2.below hb3 h2.lt)).mono ?_
    rintro e w4 ⟨rfl, h4, hg4⟩
    go_wp2_with fail
    go_ret
    exact ⟨rfl, h4, grown_trans hg2 (grown_trans (grown_below _ hb3) hg4)⟩
  · have HSK := Lib.hid hs
    clear hs
    go_wp2_with fail
    refine (text_any (v : Int) _ (by omega) (by omega) ht2.tab).mono ?_
    rw [HT.out]
    rintro e w3 ⟨rfl, hb3⟩
    go_wp2_with fail
    refine (skip_any g A c l T r' x0 x1 x2 x3 x4 x5 false _ HSK.out hlc hl (by omega) (h2.below hb3 h2.lt)).mono ?_
    rintro e w4 ⟨rfl, h4, hg4⟩
    go_wp2_with fail
    go_ret
    exact ⟨rfl, h4, grown_trans hg2 (grown_trans (grown_below _ hb3) hg4)⟩
end Go.Proofs.YtmagokkegadmiaaGreatDoor
