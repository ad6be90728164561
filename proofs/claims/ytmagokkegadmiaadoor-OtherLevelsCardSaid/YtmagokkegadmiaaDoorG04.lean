/-
  From a walk to a law's row, for all laws: arguments read behind the call as they read before, out of the frame alone; a slice of bytes is opened as a list. Layer 6's mathematics: what modes leave of each other. Numbers in figures, plainly: no program is named here. (Later layers' texts take this in the place of layer 1's own.) Layer 3's mathematics: a sequence, whether it may be, its bytes, and the sequence with which bytes begin. A key's event in memory; words for layers that send keys. 'There is an input that fits', where a listed variable is a slice: the shape of the world by the elder law's second form.
-/
import Derived.Test.YtmagokkegadmiaaDoorG01
import Derived.Test.YtmagokkegadmiaaDoorG02
import Derived.Test.YtmagokkegadmiaaDoorG03
import Derived.Deep.DeepHandedRow
import Derived.Lib.LaidTab
import Derived.SizedLaws
import Derived.Lib.ItoaLen
import Derived.Deep.DeepWitnessRef
namespace Go.Proofs.YtmagokkegadmiaaDoor
open Go.RowKit Go.WideShapes Go.ChangeShapes Go.ChangeAt Go.ChangeMaps

section
variable {H : Type} {enc : TypeId × Value → H} {P : Program}
theorem trodAll_below (hl : laidOutB P = true) {W W' : World} (hb : Below W.heap.size W W') : ∀ {ts : List TypeId} {vs : List Value} {ds : List (DataW H)} {ps : List MemPlace},
    (ts.all fun t => P.readableRec t && decide (t < P.types.size)) = true → (∀ x ∈ ps, x.block < W.heap.size) → DataW.TrodAll enc P W 0 (fun _ => true) true ts vs ds ps →
    DataW.TrodAll enc P W' 0 (fun b => decide (b < W.heap.size)) true ts vs ds ps
  | [], [], [], _, _, _, h => h
  | t :: ts, v :: vs, d :: ds, ps, hr, hlt, h => by
    obtain ⟨p, q, h1, h2, rfl⟩ := h
    simp only [List.all_cons, Bool.and_eq_true, decide_eq_true_eq] at hr
    exact ⟨p, q, Below.trod hl hr.1.1 hr.1.2 h1 hb (fun x hx => hlt x (List.mem_append_left _ hx)), trodAll_below hl hb hr.2 (fun x hx => hlt x (List.mem_append_right _ hx)) h2, rfl⟩

/-- A law's end: true, and what came in reads as it did. -/
theorem law_end (hl : laidOutB P = true) {f : Func} {s : ChangeSpec} {W W' : World} {args : Array Value} {ds : List (DataW H)} {before : List MemPlace} {T : TypeId} (hT : P.underlying T = some .bool)
    (hv : s.vars = []) (hrt : f.resultTypes = #[T]) (hread : (f.params.toList.all fun t => P.readableRec t && decide (t < P.types.size)) = true)
    (hW : DataW.Whole enc P f.params.toList s.vars false W args.toList ds [] before) (hA : DataW.TrodAll enc P W 0 (fun _ => true) true f.params.toList args.toList ds before)
    (hs : s.fn H (ds ++ []) = { results := [.lit (.bool true)], args := ds }) (hb : Below W.heap.size W W') :
    s.post enc P f false true false false W args (.bool true) W' := by
  have hlt : ∀ p ∈ before, p.block < W.heap.size := fun p hp => hW.lt p hp
  refine ⟨ds, [], before, [], before, [], hW, ?_, ?_, ?_, World.keptBut_mono (fun p hp => ⟨hp, .inr (.inl hp)⟩) (hb.frame (· ∈ before)), fun hd => absurd hd (by simp)⟩
  · rw [hs, hrt]; exact trodAll_mk1 (shut_bool hT _)
  · rw [hs]; exact trodAll_below hl hb hread hlt hA
  · rw [hs, hv]; exact rfl

/-- A slice of bytes that came in. -/
theorem open_bytes {t e : TypeId} (ht : P.underlying t = some (.slice e)) (he : P.underlying e = some (.int .u8)) (hc : P.cellsOf e = 1) {r : Reach} {b0 : Nat} {W : World} {v : Value} {d : DataW H} {ps : List MemPlace}
    (hval : Value.okWide P W r b0 t v) (h : DataW.Trod enc P W 0 (fun _ => true) true t v d ps) : ∃ A l c, v = .slice A (l : List UInt8).length c ∧ Rd W A (bs l) := by
  obtain ⟨a0, len, cap, rfl⟩ := okWide_slice ht hval
  obtain ⟨fuel, hf⟩ := h
  rcases open_ints ht he hc hf with ⟨hcs, _⟩ | ⟨a, len', cap', zs, hcs, _, hl, _, hz, _, hcell, hwf⟩
  · simp [Value.cells] at hcs
    obtain ⟨rfl, rfl, rfl⟩ := hcs
    exact ⟨none, [], 0, rfl, Rd.nil _ _⟩
  · simp [Value.cells] at hcs
    obtain ⟨rfl, rfl, rfl⟩ := hcs
    simp only [if_true] at hz
    refine ⟨some a, (zs.take len).map (fun z => UInt8.ofNat z.toNat), cap, ?_, fun hp => ?_⟩
    · congr 1
      rw [List.length_map, List.length_take]
      omega
    · rw [bs_length, List.length_map, List.length_take] at hp
      obtain ⟨b, off, rfl, hc2⟩ := ints_at hcell (by omega)
      have h0 := hc2 0 (by omega)
      refine ⟨b, off, rfl, World.block_lt_of_cell? W _ h0, fun k u hu => ?_⟩
      have hk : k < len := by
        have := (List.getElem?_eq_some_iff.1 hu).1
        rw [bs_length, List.length_map, List.length_take] at this
        omega
      rw [hc2 k (by omega)]
      have hkz : k < zs.length := by omega
      have hw := hwf _ (List.getElem_mem hkz)
      have hbd := bounds_u8 hw
      rw [← hu]
      simp only [bs, List.map_map, List.getElem?_map, List.getElem?_take, if_pos hk, List.getElem?_eq_getElem hkz, Option.map_some, Function.comp_apply, B8, List.getD, Option.getD_some]
      have e : ((UInt8.ofNat (zs[k]).toNat).toNat : Int) = zs[k] := by
        rw [UInt8.toNat_ofNat_of_lt' (by show (zs[k]).toNat < 256; omega)]; omega
      rw [e]

/-- The same, and how many places it takes as data. -/
theorem open_bytes_sized {t e : TypeId} (ht : P.underlying t = some (.slice e)) (he : P.underlying e = some (.int .u8)) (hc : P.cellsOf e = 1) {r : Reach} {b0 : Nat} {W : World} {v : Value} {d : DataW H} {ps : List MemPlace}
    (hval : Value.okWide P W r b0 t v) (h : DataW.Trod enc P W 0 (fun _ => true) true t v d ps) : ∃ A l c, v = .slice A (l : List UInt8).length c ∧ Rd W A (bs l) ∧ (l = [] ∨ ∃ elems spare, d = .slice elems spare ∧ l.length ≤ elems.length + spare.length) := by
  obtain ⟨A, l, c, rfl, hr⟩ := open_bytes ht he hc hval h
  refine ⟨A, l, c, rfl, hr, ?_⟩
  obtain ⟨fuel, hf⟩ := h
  rcases open_ints ht he hc hf with ⟨hcs, _⟩ | ⟨a, len', cap', zs, hcs, _, hl, _, hz, hx, _, _⟩
  · simp [Value.cells] at hcs
    exact .inl hcs.2.1
  · simp [Value.cells] at hcs
    obtain ⟨rfl, h2, rfl⟩ := hcs
    simp only [if_true] at hz
    simp only [Prod.mk.injEq] at hx
    refine .inr ⟨_, _, hx.1, ?_⟩
    simp only [lits, List.length_map, List.length_take, List.length_drop]
    omega
theorem bytes_reach {ts : List TypeId} {ds : List (DataW H)} (hR : (DataW.weightsEach P ts ds).all (· ≤ reachBytes) = true) {j : Nat} {t e : TypeId} {d : DataW H} {l : List UInt8} (ht : ts[j]? = some t) (hd : ds[j]? = some d) (hu : P.underlying t = some (.slice e)) (hb : P.bytesOf e = 1)
    (h : l = [] ∨ ∃ elems spare, d = .slice elems spare ∧ l.length ≤ elems.length + spare.length) : l.length ≤ 140737488351232 := by
  rcases h with rfl | ⟨elems, spare, rfl, hl⟩
  · simp
  · have := sized_slice hR ht hd hu
    rw [hb] at this
    have hr : reachBytes = 140737488351232 := by decide
    omega
end
end Go.Proofs.YtmagokkegadmiaaDoor
namespace Go.Proofs.YtmagokkegadmiaaDoor

/-- A mode leaves all others as they were, but those of the mouse each other, and its codings, too. -/
theorem set_other (m : Mo) {n k : Int} (on : Bool) (hk : k ≠ n) (hm : mouseN k = false) (hc : codingN k = false) : getM (setM m true n on).1 true k = getM m true k := by
  by_cases h : canM true k = true
  · rw [get_is h, get_is h]
    have key : isM (setM m true n on).1 true k = isM m true k := by
      have hx : k = 1 ∨ k = 66 ∨ k = 67 ∨ k = 1004 ∨ k = 2004 := by simpa [canM, hm, hc] using h
      unfold isM setM
      simp only [Bool.true_eq_false, if_false]
      rcases hx with rfl | rfl | rfl | rfl | rfl
      all_goals
        simp only [if_true, show ¬ ((66 : Int) = 1) by decide, show ¬ ((67 : Int) = 1) by decide, show ¬ ((67 : Int) = 66) by decide, show ¬ ((1004 : Int) = 1) by decide, show ¬ ((1004 : Int) = 66) by decide, show ¬ ((1004 : Int) = 67) by decide, show ¬ ((2004 : Int) = 1) by decide, show ¬ ((2004 : Int) = 66) by decide, show ¬ ((2004 : Int) = 67) by decide, show ¬ ((2004 : Int) = 1004) by decide, if_false]
        (repeat' split) <;> first | rfl | (exfalso; omega)
    rw [key]
  · have h' : canM true k = false := by simpa using h
    rw [get_no h', get_no h']
theorem set_plain (m : Mo) (n k : Int) (on : Bool) : getM (setM m true n on).1 false k = getM m false k := by
  by_cases h : canM false k = true
  · rw [get_is h, get_is h]
    have key : isM (setM m true n on).1 false k = isM m false k := by
      unfold isM setM
      simp only [Bool.true_eq_false, if_false, if_true]
      (repeat' split) <;> rfl
    rw [key]
  · have h' : canM false k = false := by simpa using h
    rw [get_no h', get_no h']
theorem set_keeps (m : Mo) (p : Bool) (n : Int) (on : Bool) : (setM m p n on).1.other = m.other := by
  unfold setM plainM
  (repeat' split) <;> rfl
theorem set_priv (m : Mo) (n : Int) (on : Bool) : (setM m true n on).1.lock = m.lock ∧ (setM m true n on).1.line = m.line := by
  unfold setM
  simp only [Bool.true_eq_false, if_false]
  (repeat' split) <;> exact ⟨rfl, rfl⟩
/-- Two modes, the first of neither the mouse's nor of its codings, in either turn. -/
theorem set_turns (m : Mo) {n k : Int} (a b : Bool) (hk : n ≠ k) (hm : mouseN n = false) (hc : codingN n = false) : (setM (setM m true n a).1 true k b).1 = (setM (setM m true k b).1 true n a).1 := by
  by_cases h : canM true n = true
  · have hx : n = 1 ∨ n = 66 ∨ n = 67 ∨ n = 1004 ∨ n = 2004 := by simpa [canM, hm, hc] using h
    unfold setM
    simp only [Bool.true_eq_false, if_false]
    rcases hx with rfl | rfl | rfl | rfl | rfl
    all_goals
      simp only [if_true, show ¬ ((66 : Int) = 1) by decide, show ¬ ((67 : Int) = 1) by decide, show ¬ ((67 : Int) = 66) by decide, show ¬ ((1004 : Int) = 1) by decide, show ¬ ((1004 : Int) = 66) by decide, show ¬ ((1004 : Int) = 67) by decide, show ¬ ((2004 : Int) = 1) by decide, show ¬ ((2004 : Int) = 66) by decide, show ¬ ((2004 : Int) = 67) by decide, show ¬ ((2004 : Int) = 1004) by decide, if_false]
      (repeat' split) <;> first | rfl | (exfalso; omega) | (exfalso; simp_all; done)
  · have h' : canM true n = false := by simpa using h
    rw [set_no h', set_no h']
/-- A list's modes set in turn. -/
def setsM (m : Mo) : List (Int × Bool) → Mo
  | [] => m
  | (n, on) :: l => setsM (setM m true n on).1 l
theorem sets_snoc (m : Mo) (l : List (Int × Bool)) (n : Int) (on : Bool) : setsM m (l ++ [(n, on)]) = (setM (setsM m l) true n on).1 := by
  induction l generalizing m with
  | nil => rfl
  | cons x l ih => exact ih _
theorem may_sets (m : Mo) (l : List (Int × Bool)) (h : mayM m = true) : mayM (setsM m l) = true := by
  induction l generalizing m with
  | nil => exact h
  | cons x l ih => exact ih _ (may_set m true x.1 x.2 h)
theorem may_mo0 : mayM mo0 = true := by decide
/-- How many of the mouse's modes, and of its codings, are set, of the first of those that may be. -/
def mouseT (m : Mo) (x : Int) : Bool := decide (getM m true x = 1) && (decide (x = 9) || (decide (1000 ≤ x) && decide (x ≤ 1003)))
def codingT (m : Mo) (x : Int) : Bool := decide (getM m true x = 1) && (decide (1005 ≤ x) && decide (x ≤ 1015))
def miceM (m : Mo) (i : Nat) : Nat := ((ownM.take i).filter (mouseT m)).length
def codsM (m : Mo) (i : Nat) : Nat := ((ownM.take i).filter (codingT m)).length
theorem mod_take_step (i : Nat) (h : i < 12) : ownM.take (i + 1) = ownM.take i ++ [ownM[i]] := List.take_succ_eq_append_getElem (l := ownM) h
theorem mice_step (m : Mo) (i : Nat) (h : i < 12) : miceM m (i + 1) = miceM m i + (if mouseT m (ownM[i]'h) = true then 1 else 0) := by
  unfold miceM
  rw [mod_take_step i h, List.filter_append, List.length_append]
  congr 1
  by_cases hh : mouseT m (ownM[i]'h) = true
  · rw [if_pos hh, List.filter_cons_of_pos hh]; rfl
  · rw [if_neg hh, List.filter_cons_of_neg hh]; rfl
theorem cods_step (m : Mo) (i : Nat) (h : i < 12) : codsM m (i + 1) = codsM m i + (if codingT m (ownM[i]'h) = true then 1 else 0) := by
  unfold codsM
  rw [mod_take_step i h, List.filter_append, List.length_append]
  congr 1
  by_cases hh : codingT m (ownM[i]'h) = true
  · rw [if_pos hh, List.filter_cons_of_pos hh]; rfl
  · rw [if_neg hh, List.filter_cons_of_neg hh]; rfl
theorem own_can {x : Int} (h : x ∈ ownM) : canM true x = true := by
  simp only [ownM, List.mem_cons, List.mem_nil_iff, or_false] at h
  rcases h with rfl | rfl | rfl | rfl | rfl | rfl | rfl | rfl | rfl | rfl | rfl | rfl <;> decide
theorem mouse_is {m : Mo} {x : Int} (hx : x ∈ ownM) (h : mouseT m x = true) : x = m.mouse := by
  simp only [mouseT, Bool.and_eq_true, Bool.or_eq_true, decide_eq_true_eq] at h
  have h1 := h.1
  rw [get_is (own_can hx)] at h1
  have h2 : isM m true x = true := by
    by_cases hh : isM m true x = true
    · exact hh
    · rw [if_neg hh] at h1; omega
  simp only [ownM, List.mem_cons, List.mem_nil_iff, or_false] at hx
  have hm : mouseN x = true := by rw [mouseN_iff]; omega
  unfold isM at h2
  rw [if_neg (by decide), if_neg (by omega), if_neg (by omega), if_neg (by omega), if_neg (by omega), if_neg (by omega), if_pos hm] at h2
  exact (of_decide_eq_true h2).symm
theorem coding_is {m : Mo} {x : Int} (hx : x ∈ ownM) (h : codingT m x = true) : x = m.coding := by
  simp only [codingT, Bool.and_eq_true, decide_eq_true_eq] at h
  have h1 := h.1
  rw [get_is (own_can hx)] at h1
  have h2 : isM m true x = true := by
    by_cases hh : isM m true x = true
    · exact hh
    · rw [if_neg hh] at h1; omega
  simp only [ownM, List.mem_cons, List.mem_nil_iff, or_false] at hx
  have hm : ¬ mouseN x = true := by rw [mouseN_iff]; omega
  unfold isM at h2
  rw [if_neg (by decide), if_neg (by omega), if_neg (by omega), if_neg (by omega), if_neg (by omega), if_neg (by omega), if_neg hm] at h2
  exact (of_decide_eq_true h2).symm
theorem filter_one (p : Int → Bool) (y : Int) : ∀ (l : List Int), l.Nodup → (∀ x ∈ l, p x = true → x = y) → (l.filter p).length ≤ 1
  | [], _, _ => by simp
  | x :: l, hn, h => by
    obtain ⟨h1, h2⟩ := List.nodup_cons.1 hn
    by_cases hx : p x = true
    · rw [List.filter_cons_of_pos hx]
      have e : l.filter p = [] := by
        rw [List.filter_eq_nil_iff]
        intro z hz hpz
        have := h z (List.mem_cons_of_mem _ hz) hpz
        have := h x (List.mem_cons_self ..) hx
        exact h1 (by rw [this, ← ‹z = y›]; exact hz)
      rw [e]; simp
    · rw [List.filter_cons_of_neg hx]
      exact filter_one p y l h2 fun z hz => h z (List.mem_cons_of_mem _ hz)
theorem own_nodup : ownM.Nodup := by decide
theorem mice_one (m : Mo) (i : Nat) : miceM m i ≤ 1 :=
  filter_one _ m.mouse _ (own_nodup.sublist (List.take_sublist _ _)) fun _ hx h => mouse_is (List.mem_of_mem_take hx) h
theorem cods_one (m : Mo) (i : Nat) : codsM m i ≤ 1 :=
  filter_one _ m.coding _ (own_nodup.sublist (List.take_sublist _ _)) fun _ hx h => coding_is (List.mem_of_mem_take hx) h
theorem can_own (n : Int) : canM true n = ownM.contains n := by
  rw [Bool.eq_iff_iff, List.contains_iff_mem]
  constructor
  · intro h
    have hx : (n = 1 ∨ n = 66 ∨ n = 67 ∨ n = 1004 ∨ n = 2004) ∨ (n = 9 ∨ n = 1000 ∨ n = 1002 ∨ n = 1003) ∨ (n = 1005 ∨ n = 1006 ∨ n = 1015) := by simpa [canM, mouseN, codingN] using h
    simp only [ownM, List.mem_cons, List.mem_nil_iff, or_false]
    omega
  · exact own_can
end Go.Proofs.YtmagokkegadmiaaDoor
namespace Go.Proofs.YtmagokkegadmiaaDoor

/-- A number in figures. -/
def textL (n : Int) : List UInt8 := if n < 0 then [] else Lib.decDigits n.toNat
theorem textL_neg (n : Int) (h : n < 0) : textL n = [] := if_pos h
theorem textL_small (n : Int) (h0 : 0 ≤ n) (h : n < 10) : textL n = [UInt8.ofNat (48 + n.toNat)] := by
  unfold textL; rw [if_neg (by omega), Lib.decDigits, dif_pos (by omega)]
theorem textL_big (n : Int) (h : 10 ≤ n) : textL n = textL (n / 10) ++ [UInt8.ofNat (48 + (n % 10).toNat)] := by
  unfold textL
  rw [if_neg (by omega), if_neg (by omega), Lib.decDigits, dif_neg (by omega)]
  rw [show (n / 10).toNat = n.toNat / 10 by omega, show (n % 10).toNat = n.toNat % 10 by omega]
theorem textL_length (n : Int) (h1 : n ≤ 9223372036854775807) : (textL n).length ≤ 21 := by
  by_cases h : n < 0
  · rw [textL_neg n h]; simp
  · rw [show textL n = Lib.itoa n by unfold textL Lib.itoa; rw [if_neg h, if_neg h]]
    exact Lib.itoa_length_le n (by omega) h1

def isD (c : UInt8) : Bool := decide (48 ≤ c.toNat ∧ c.toNat ≤ 57)
theorem digit_isD (k : Nat) (h : k < 10) : isD (UInt8.ofNat (48 + k)) = true ∧ (UInt8.ofNat (48 + k)).toNat = 48 + k := by
  have e : (UInt8.ofNat (48 + k)).toNat = 48 + k := UInt8.toNat_ofNat_of_lt' (by show 48 + k < 256; omega)
  unfold isD
  rw [e]
  exact ⟨decide_eq_true (by omega), rfl⟩
theorem dec_step (u : Nat) (h : ¬ u < 10) : Lib.decDigits u = Lib.decDigits (u / 10) ++ [UInt8.ofNat (48 + u % 10)] := by rw [Lib.decDigits, dif_neg h]
theorem dec_small (u : Nat) (h : u < 10) : Lib.decDigits u = [UInt8.ofNat (48 + u)] := by rw [Lib.decDigits, dif_pos h]
theorem dec_all (u : Nat) : ∀ c ∈ Lib.decDigits u, isD c = true := by
  induction u using Nat.strongRecOn with
  | _ u ih =>
    by_cases h : u < 10
    · rw [dec_small u h]
      intro c hc
      rw [List.mem_singleton] at hc
      subst hc
      exact (digit_isD u h).1
    · rw [dec_step u h]
      intro c hc
      rcases List.mem_append.1 hc with hc | hc
      · exact ih (u / 10) (by omega) c hc
      · rw [List.mem_singleton] at hc
        subst hc
        exact (digit_isD (u % 10) (by omega)).1
theorem dec_ne (u : Nat) : Lib.decDigits u ≠ [] := by
  by_cases h : u < 10
  · rw [dec_small u h]; simp
  · rw [dec_step u h]; simp
/-- Figures read on, held down at a greatest number. -/
def rd (M : Int) (n : Int) (c : UInt8) : Int := min (10 * max n 0 + ((c.toNat : Int) - 48)) M
theorem dec_read (M : Int) (u : Nat) (hM : 9 ≤ M) : (Lib.decDigits u).foldl (rd M) (-1) = min (u : Int) M := by
  induction u using Nat.strongRecOn with
  | _ u ih =>
    by_cases h : u < 10
    · rw [dec_small u h, List.foldl_cons, List.foldl_nil, rd, (digit_isD u h).2]; omega
    · rw [dec_step u h, List.foldl_append, ih (u / 10) (by omega), List.foldl_cons, List.foldl_nil, rd, (digit_isD (u % 10) (by omega)).2]; omega
theorem text_read (M n : Int) (hM : 9 ≤ M) (h : 0 ≤ n) : (textL n).foldl (rd M) (-1) = min n M := by
  unfold textL
  rw [if_neg (by omega), dec_read M _ hM]
  omega
theorem text_all_isD (n : Int) : ∀ c ∈ textL n, isD c = true := by
  unfold textL
  split
  · intro c hc; cases hc
  · exact dec_all _
theorem text_ne (n : Int) (h : 0 ≤ n) : textL n ≠ [] := by
  unfold textL
  rw [if_neg (by omega)]
  exact dec_ne _
end Go.Proofs.YtmagokkegadmiaaDoor
namespace Go.Proofs.YtmagokkegadmiaaDoor

structure Sq where
  kind : Int
  priv : UInt8
  params : List (List Int)
  inter : List UInt8
  final : UInt8
  data : List UInt8

/-- From one byte to another one. -/
def btw (a b : Nat) (c : UInt8) : Bool := decide (a ≤ c.toNat) && decide (c.toNat ≤ b)
theorem btw_iff (a b : Nat) (c : UInt8) : btw a b c = true ↔ a ≤ c.toNat ∧ c.toNat ≤ b := by simp [btw]
theorem btw_no (a b : Nat) (c : UInt8) : btw a b c = false ↔ ¬ (a ≤ c.toNat ∧ c.toNat ≤ b) := by rw [← btw_iff]; simp
def parOk (l : List (List Int)) : Bool := decide (l.length ≤ 16) && decide (l ≠ [[-1]]) && l.all fun p => decide (1 ≤ p.length) && decide (p.length ≤ 8) && p.all fun n => decide (-1 ≤ n) && decide (n ≤ 1114111)
def lastOk (s : Sq) : Bool :=
  if s.kind = 1 ∨ s.kind = 2 ∨ s.kind = 3 then btw 64 126 s.final
  else if s.kind = 5 then btw 48 126 s.final && (decide (s.inter ≠ []) || !([79, 80, 88, 91, 93, 92, 94, 95] : List UInt8).contains s.final)
  else decide (s.kind = 4) && decide (s.final = 0)
def bareOk (s : Sq) : Bool :=
  !(decide (s.kind = 2 ∨ s.kind = 4 ∨ s.kind = 5) && (decide (s.priv ≠ 0) || decide (s.params ≠ []))) && !(decide (s.kind = 2 ∨ s.kind = 4) && decide (s.inter ≠ [])) && (decide (s.data = []) || decide (s.kind = 3 ∨ s.kind = 4))
def privOk (c : UInt8) : Bool := decide (c = 0) || btw 60 63 c
def okS (s : Sq) : Bool := privOk s.priv && parOk s.params && decide (s.inter.length ≤ 2) && s.inter.all (btw 32 47) && s.data.all (btw 32 126) && lastOk s && bareOk s
/-- The error's number. -/
def mayS (s : Sq) : Int := if 4096 < s.data.length then 4 else if okS s = true then 0 else 1

/-- A parameter's parts; all parameters; the body. -/
def partL : List Int → List UInt8
  | [] => []
  | [n] => textL n
  | n :: m :: p => textL n ++ (58 :: partL (m :: p))
def parL : List (List Int) → List UInt8
  | [] => []
  | [p] => partL p
  | p :: q :: l => partL p ++ (59 :: parL (q :: l))
def privL (c : UInt8) : List UInt8 := if c = 0 then [] else [c]
def bodyL (s : Sq) : List UInt8 := privL s.priv ++ parL s.params ++ s.inter
def putS (s : Sq) : List UInt8 :=
  if s.kind = 1 then 27 :: 91 :: (bodyL s ++ [s.final])
  else if s.kind = 2 then [27, 79, s.final]
  else if s.kind = 3 then 27 :: 80 :: (bodyL s ++ (s.final :: (s.data ++ [27, 92])))
  else if s.kind = 4 then 27 :: 93 :: (s.data ++ [27, 92])
  else 27 :: (s.inter ++ [s.final])

/-- The parameters in bytes of figures, colons and semicolons. -/
def numsGo (n : Int) (one : List Int) : List UInt8 → List (List Int)
  | [] => [one ++ [n]]
  | c :: l => if isD c = true then numsGo (rd 1114112 n c) one l else if c = 59 then (one ++ [n]) :: numsGo (-1) [] l else numsGo (-1) (one ++ [n]) l
def numsL (l : List UInt8) : List (List Int) := if l = [] then [] else numsGo (-1) [] l

/-- What follows figures isn't one. -/
theorem go_figs (l m : List UInt8) (n : Int) (one : List Int) (h : ∀ c ∈ l, isD c = true) : numsGo n one (l ++ m) = numsGo (l.foldl (rd 1114112) n) one m := by
  induction l generalizing n with
  | nil => rfl
  | cons c l ih =>
    have hc := h c (List.mem_cons_self ..)
    rw [List.cons_append]
    show (if isD c = true then numsGo (rd 1114112 n c) one (l ++ m) else _) = _
    rw [if_pos hc, ih _ (fun d hd => h d (List.mem_cons_of_mem _ hd))]
    rfl
theorem go_text (n : Int) (h0 : -1 ≤ n) (h1 : n ≤ 1114111) (m : List UInt8) (one : List Int) : numsGo (-1) one (textL n ++ m) = numsGo n one m := by
  rw [go_figs _ _ _ _ (text_all_isD n)]
  by_cases h : n < 0
  · rw [textL_neg n h, show n = -1 by omega]; rfl
  · rw [text_read _ _ (by omega) (by omega), show min n 1114112 = n by omega]
def partOk (p : List Int) : Prop := ∀ n ∈ p, -1 ≤ n ∧ n ≤ 1114111
theorem go_part : ∀ (p : List Int) (_ : p ≠ []) (_ : partOk p) (one : List Int), numsGo (-1) one (partL p) = [one ++ p] ∧ ∀ m, numsGo (-1) one (partL p ++ (59 :: m)) = (one ++ p) :: numsGo (-1) [] m := by
  intro p
  induction p with
  | nil => intro h; exact absurd rfl h
  | cons n p ih =>
    intro _ ho one
    obtain ⟨h0, h1⟩ := ho n (List.mem_cons_self ..)
    cases p with
    | nil =>
      refine ⟨?_, fun m => ?_⟩
      · have := go_text n h0 h1 [] one
        rw [List.append_nil] at this
        exact this
      · have := go_text n h0 h1 (59 :: m) one
        exact this
    | cons k p =>
      have ih' := ih (by simp) (fun x hx => ho x (List.mem_cons_of_mem _ hx)) (one ++ [n])
      have e : partL (n :: k :: p) = textL n ++ (58 :: partL (k :: p)) := rfl
      refine ⟨?_, fun m => ?_⟩
      · rw [e, go_text n h0 h1]
        show numsGo (-1) (one ++ [n]) (partL (k :: p)) = _
        rw [ih'.1, List.append_assoc]; rfl
      · rw [e, List.append_assoc, go_text n h0 h1]
        show numsGo (-1) (one ++ [n]) (partL (k :: p) ++ (59 :: m)) = _
        rw [ih'.2 m, List.append_assoc]; rfl
theorem go_par : ∀ (l : List (List Int)), l ≠ [] → (∀ p ∈ l, p ≠ [] ∧ partOk p) → numsGo (-1) [] (parL l) = l := by
  intro l
  induction l with
  | nil => intro h; exact absurd rfl h
  | cons p l ih =>
    intro _ ho
    obtain ⟨h0, h1⟩ := ho p (List.mem_cons_self ..)
    cases l with
    | nil => exact (go_part p h0 h1 []).1
    | cons q l =>
      have ih' := ih (by simp) (fun x hx => ho x (List.mem_cons_of_mem _ hx))
      have e : parL (p :: q :: l) = partL p ++ (59 :: parL (q :: l)) := rfl
      rw [e, (go_part p h0 h1 []).2, ih']; rfl
theorem part_nil : ∀ (p : List Int), partOk p → p ≠ [] → partL p = [] → p = [-1] := by
  intro p ho hn h
  match p with
  | [] => exact absurd rfl hn
  | [n] =>
    obtain ⟨h0, h1⟩ := ho n (List.mem_cons_self ..)
    by_cases hneg : n < 0
    · rw [show n = -1 by omega]
    · exact absurd h (text_ne n (by omega))
  | n :: m :: p => simp [partL] at h
theorem par_nil : ∀ (l : List (List Int)), (∀ p ∈ l, p ≠ [] ∧ partOk p) → parL l = [] → l = [] ∨ l = [[-1]] := by
  intro l ho h
  match l with
  | [] => exact .inl rfl
  | [p] => exact .inr (by rw [part_nil p (ho p (List.mem_cons_self ..)).2 (ho p (List.mem_cons_self ..)).1 h])
  | p :: q :: l => simp [parL] at h
theorem parOk_all {l : List (List Int)} (h : parOk l = true) : (∀ p ∈ l, p ≠ [] ∧ partOk p) ∧ l ≠ [[-1]] := by
  simp only [parOk, Bool.and_eq_true, decide_eq_true_eq, List.all_eq_true] at h
  refine ⟨fun p hp => ?_, h.1.2⟩
  obtain ⟨⟨h1, _⟩, h2⟩ := h.2 p hp
  refine ⟨fun e => by rw [e] at h1; simp at h1, fun n hn => h2 n hn⟩
theorem nums_par {l : List (List Int)} (h : parOk l = true) : numsL (parL l) = l := by
  obtain ⟨h1, h2⟩ := parOk_all h
  unfold numsL
  by_cases he : l = []
  · subst he; rfl
  · rw [if_neg (fun e => (par_nil l h1 e).elim he h2)]
    exact go_par l he h1
/-- A parameter's bytes: figures, colons, semicolons. -/
theorem part_btw (p : List Int) : ∀ c ∈ partL p, btw 48 59 c = true := by
  have ht : ∀ n, ∀ c ∈ textL n, btw 48 59 c = true := fun n c hc => by
    have := of_decide_eq_true (text_all_isD n c hc)
    rw [btw_iff]; omega
  match p with
  | [] => intro c hc; cases hc
  | [n] => exact ht n
  | n :: m :: p =>
    intro c hc
    rcases List.mem_append.1 (show c ∈ textL n ++ (58 :: partL (m :: p)) from hc) with h | h
    · exact ht n c h
    · rcases List.mem_cons.1 h with rfl | h
      · decide
      · exact part_btw (m :: p) c h
theorem par_btw (l : List (List Int)) : ∀ c ∈ parL l, btw 48 59 c = true := by
  match l with
  | [] => intro c hc; cases hc
  | [p] => exact part_btw p
  | p :: q :: l =>
    intro c hc
    rcases List.mem_append.1 (show c ∈ partL p ++ (59 :: parL (q :: l)) from hc) with h | h
    · exact part_btw p c h
    · rcases List.mem_cons.1 h with rfl | h
      · decide
      · exact par_btw (q :: l) c h
end Go.Proofs.YtmagokkegadmiaaDoor
namespace Go.Proofs.YtmagokkegadmiaaDoor
open Go.RowKit

/-- A key's event, as a value. -/
def kyV (k : Ky) : Value := .agg #[.int .i64 k.code, .int .i64 k.mods, .int .i64 k.typ, .int .i64 k.shift, .int .i64 k.base, .string k.text]
def kyC (k : Ky) : Array Value := #[.int .i64 k.code, .int .i64 k.mods, .int .i64 k.typ, .int .i64 k.shift, .int .i64 k.base, .string k.text]
theorem Own.capT {w : World} {base : Nat} {e : TypeId} {A : Option Addr} {n c : Nat} {xs : List Value} (h : Own w base e 1 (.slice A n c) n xs) : n ≤ c := by
  rcases h.2 with ⟨hv, h0⟩ | ⟨g, cap, hv, hb, hh, hnc, hcm, hx, hc⟩
  · omega
  · injection hv with _ _ h3
    omega
theorem below_none {w w' : World} (h : w.grownBy w' none) : Below w.heap.size w w' := ⟨h.os, h.tape, h.output, h.size, fun k hk => h.block k hk (by simp)⟩
/-- A call that tells one value, and makes nothing that lay turn. -/
def Val10 (v : Value) (w : World) (e : Ending) (w' : World) : Prop := e = .returned v ∧ Below w.heap.size w w'
theorem max0 (n N : Int) (h : max n 0 = N) {P : Program} : ∀ (ts : Array TypeId) (t : TypeId) (W : World), (Builtin.max_ ts t #[.int .i64 n, .int .i64 0]).run P W = .ok (.int .i64 N) W := fun ts t W => by
  rw [run_max_int2]
  congr 2
  split <;> omega
theorem ky_box (w : World) (k : Ky) : Below w.heap.size w (w.alloc (.cells (kyC k) 25)) := (Below.refl _ w).alloc (Nat.le_refl _) _
end Go.Proofs.YtmagokkegadmiaaDoor
namespace Go.Proofs.YtmagokkegadmiaaDoor
section
variable {H : Type} {enc : TypeId × Value → H}
theorem witness_row_ref {C : Checked} {os : Os} {f : FuncId} {fn : Func} {s : OpenSpec} {conds : List PathCond} {apart : Bool} {laid : List (String × DataW Unit)} (modest : Bool) (w0 : World) (args : Array Value) (hos : w0.os = os)
    (hv : (w0.forCall (fun _ _ => 0) ⟨#[], args, []⟩).variablesRefB C.prog = true)
    (hr : ((w0.forCall (fun _ _ => 0) ⟨#[], args, []⟩).heap.toList.drop C.prog.globals.size).take ((begin C.prog (fun _ _ => 0) default).world.heap.size - C.prog.globals.size) =
      (begin C.prog (fun _ _ => 0) default).world.heap.toList.drop C.prog.globals.size)
    (hok : Input.okWideB C.prog (w0.forCall (fun _ _ => 0) ⟨#[], args, []⟩) f ⟨#[], args, []⟩ = true)
    (hrow : s.preRow enc C.prog fn conds apart laid (w0.forCall (fun _ _ => 0) ⟨#[], args, []⟩).memory args) :
    ∃ (w : World) (tape : Tape) (i : Input), w.os = os ∧ (w.forCall tape i).Shaped C.prog ∧ i.vars = [] ∧ Input.okWide C.prog (w.forCall tape i) .any w.heap.size f i ∧
      s.preRow enc C.prog fn conds apart laid (w.forCall tape i).memory i.args ∧ ({ modest := modest } : Assume).holds C.prog (lone (Frame.enter C.prog f i.args .normal) [] (w.forCall tape i)) := by
  obtain ⟨w, tape, i, h1, h2, h3, h4, h5, h6, _⟩ := OpenSpec.witness_stopped_atRef (enc := enc) (C := C) (fn := fn) (s := s) (conds := conds) (apart := apart) (laid := laid) modest w0 args hos hv hr hok hrow (fun _ _ _ => 0)
  exact ⟨w, tape, i, h1, h2, h3, h4, h5, h6⟩
end
end Go.Proofs.YtmagokkegadmiaaDoor
