/-
  From a walk to a law's row, for all laws: arguments read behind the call as they read before, out of the frame alone; a slice of bytes is opened as a list. Layer 6's mathematics: what modes leave of each other. Layer 3's mathematics: a sequence's body, a parameter at a time; its length. Layer 3, walked: the document's last and bare. The document's numbers in figures, walked. (For layers that don't load layer 1's own texts.) Numbers in figures, walked: the program's Text and Take. (For layers that don't load layer 1's own texts.)
  Cut out of FigT. 'There is an input that fits', where a listed variable is a slice: the shape of the world by the elder law's second form.
-/
import Derived.Test.YtbjmfhcgkpjcfaaGreatDoorG01
import Derived.Test.YtbjmfhcgkpjcfaaGreatDoorG02
import Derived.Test.YtbjmfhcgkpjcfaaGreatDoorG03
import Derived.Test.YtbjmfhcgkpjcfaaGreatDoorG04
import Derived.Test.YtbjmfhcgkpjcfaaGreatDoorG05
import Derived.Test.YtbjmfhcgkpjcfaaGreatDoorG07
import Derived.Test.YtbjmfhcgkpjcfaaGreatDoorG08
import Derived.Deep.DeepHandedRow
import Derived.Lib.LaidTab
import Derived.SizedLaws
import Derived.RegionCalls
import Derived.Deep.RegionWith
import Derived.Test.YtbjmfhcgkpjcfaaGreatDoorShelf
import Derived.Deep.QuietTactic
import Derived.BigQuiet
import Derived.Lib.AppendIntMem
import Derived.Deep.DeepWitnessRef
namespace Go.Proofs.YtbjmfhcgkpjcfaaGreatDoor
open Go.RowKit Go.WideShapes Go.ChangeShapes Go.ChangeAt Go.ChangeMaps

section
variable {H : Type} {enc : TypeId × Value → H} {P : Program}
theorem trodAll_below (hl : laidOutB P = true) {W W' : World} (hb : Below W.heap.size W W') : ∀ {ts : List TypeId} {vs : List Value} {ds : List (DataW H)} {ps : List MemPlace},
    (ts.all fun t => P.readableRec t && decide (t < P.types.size)) = true → (∀ x ∈ ps, x.block < W.heap.size) → DataW.TrodAll enc P W 0 (fun _ => true) true ts vs ds ps →
    DataW.TrodAll enc P W' 0 (fun b => decide (b < W.heap.size)) true ts vs ds ps
  | [], [], [], _, _, _, h => h
  | t :: ts, v :: vs, d :: ds, ps, hr, hlt, h => by
    obtain ⟨p, q, h1, h2, rfl⟩ := h
    simp only [List.all_cons, Bool.and_eq_true, decide_eq_true_eq] at hr
    exact ⟨p, q, Below.trod hl hr.1.1 hr.1.2 h1 hb (fun x hx => hlt x (List.mem_append_left _ hx)), trodAll_below hl hb hr.2 (fun x hx => hlt x (List.mem_append_right _ hx)) h2, rfl⟩

/-- A law's end: true, and what came in reads as it did. -/
theorem law_end (hl : laidOutB P = true) {f : Func} {s : ChangeSpec} {W W' : World} {args : Array Value} {ds : List (DataW H)} {before : List MemPlace} {T : TypeId} (hT : P.underlying T = some .bool)
    (hv : s.vars = []) (hrt : f.resultTypes = #[T]) (hread : (f.params.toList.all fun t => P.readableRec t && decide (t < P.types.size)) = true)
    (hW : DataW.Whole enc P f.params.toList s.vars false W args.toList ds [] before) (hA : DataW.TrodAll enc P W 0 (fun _ => true) true f.params.toList args.toList ds before)
    (hs : s.fn H (ds ++ []) = { results := [.lit (.bool true)], args := ds }) (hb : Below W.heap.size W W') :
    s.post enc P f false true false false W args (.bool true) W' := by
  have hlt : ∀ p ∈ before, p.block < W.heap.size := fun p hp => hW.lt p hp
  refine ⟨ds, [], before, [], before, [], hW, ?_, ?_, ?_, World.keptBut_mono (fun p hp => ⟨hp, .inr (.inl hp)⟩) (hb.frame (· ∈ before)), fun hd => absurd hd (by simp)⟩
  · rw [hs, hrt]; exact trodAll_mk1 (shut_bool hT _)
  · rw [hs]; exact trodAll_below hl hb hread hlt hA
  · rw [hs, hv]; exact rfl

/-- A slice of bytes that came in. -/
theorem open_bytes {t e : TypeId} (ht : P.underlying t = some (.slice e)) (he : P.underlying e = some (.int .u8)) (hc : P.cellsOf e = 1) {r : Reach} {b0 : Nat} {W : World} {v : Value} {d : DataW H} {ps : List MemPlace}
    (hval : Value.okWide P W r b0 t v) (h : DataW.Trod enc P W 0 (fun _ => true) true t v d ps) : ∃ A l c, v = .slice A (l : List UInt8).length c ∧ Rd W A (bs l) := by
  obtain ⟨a0, len, cap, rfl⟩ := okWide_slice ht hval
  obtain ⟨fuel, hf⟩ := h
  rcases open_ints ht he hc hf with ⟨hcs, _⟩ | ⟨a, len', cap', zs, hcs, _, hl, _, hz, _, hcell, hwf⟩
  · simp [Value.cells] at hcs
    obtain ⟨rfl, rfl, rfl⟩ := hcs
    exact ⟨none, [], 0, rfl, Rd.nil _ _⟩
  · simp [Value.cells] at hcs
    obtain ⟨rfl, rfl, rfl⟩ := hcs
    simp only [if_true] at hz
    refine ⟨some a, (zs.take len).map (fun z => UInt8.ofNat z.toNat), cap, ?_, fun hp => ?_⟩
    · congr 1
      rw [List.length_map, List.length_take]
      omega
    · rw [bs_length, List.length_map, List.length_take] at hp
      obtain ⟨b, off, rfl, hc2⟩ := ints_at hcell (by omega)
      have h0 := hc2 0 (by omega)
      refine ⟨b, off, rfl, World.block_lt_of_cell? W _ h0, fun k u hu => ?_⟩
      have hk : k < len := by
        have := (List.getElem?_eq_some_iff.1 hu).1
        rw [bs_length, List.length_map, List.length_take] at this
        omega
      rw [hc2 k (by omega)]
      have hkz : k < zs.length := by omega
      have hw := hwf _ (List.getElem_mem hkz)
      have hbd := bounds_u8 hw
      rw [← hu]
      simp only [bs, List.map_map, List.getElem?_map, List.getElem?_take, if_pos hk, List.getElem?_eq_getElem hkz, Option.map_some, Function.comp_apply, B8, List.getD, Option.getD_some]
      have e : ((UInt8.ofNat (zs[k]).toNat).toNat : Int) = zs[k] := by
        rw [UInt8.toNat_ofNat_of_lt' (by show (zs[k]).toNat < 256; omega)]; omega
      rw [e]

/-- The same, and how many places it takes as data. -/
theorem open_bytes_sized {t e : TypeId} (ht : P.underlying t = some (.slice e)) (he : P.underlying e = some (.int .u8)) (hc : P.cellsOf e = 1) {r : Reach} {b0 : Nat} {W : World} {v : Value} {d : DataW H} {ps : List MemPlace}
    (hval : Value.okWide P W r b0 t v) (h : DataW.Trod enc P W 0 (fun _ => true) true t v d ps) : ∃ A l c, v = .slice A (l : List UInt8).length c ∧ Rd W A (bs l) ∧ (l = [] ∨ ∃ elems spare, d = .slice elems spare ∧ l.length ≤ elems.length + spare.length) := by
  obtain ⟨A, l, c, rfl, hr⟩ := open_bytes ht he hc hval h
  refine ⟨A, l, c, rfl, hr, ?_⟩
  obtain ⟨fuel, hf⟩ := h
  rcases open_ints ht he hc hf with ⟨hcs, _⟩ | ⟨a, len', cap', zs, hcs, _, hl, _, hz, hx, _, _⟩
  · simp [Value.cells] at hcs
    exact .inl hcs.2.1
  · simp [Value.cells] at hcs
    obtain ⟨rfl, h2, rfl⟩ := hcs
    simp only [if_true] at hz
    simp only [Prod.mk.injEq] at hx
    refine .inr ⟨_, _, hx.1, ?_⟩
    simp only [lits, List.length_map, List.length_take, List.length_drop]
    omega
theorem bytes_reach {ts : List TypeId} {ds : List (DataW H)} (hR : (DataW.weightsEach P ts ds).all (· ≤ reachBytes) = true) {j : Nat} {t e : TypeId} {d : DataW H} {l : List UInt8} (ht : ts[j]? = some t) (hd : ds[j]? = some d) (hu : P.underlying t = some (.slice e)) (hb : P.bytesOf e = 1)
    (h : l = [] ∨ ∃ elems spare, d = .slice elems spare ∧ l.length ≤ elems.length + spare.length) : l.length ≤ 140737488351232 := by
  rcases h with rfl | ⟨elems, spare, rfl, hl⟩
  · simp
  · have := sized_slice hR ht hd hu
    rw [hb] at this
    have hr : reachBytes = 140737488351232 := by decide
    omega
end
end Go.Proofs.YtbjmfhcgkpjcfaaGreatDoor
namespace Go.Proofs.YtbjmfhcgkpjcfaaGreatDoor

/-- A mode leaves all others as they were, but those of the mouse each other, and its codings, too. -/
theorem set_other (m : Mo) {n k : Int} (on : Bool) (hk : k ≠ n) (hm : mouseN k = false) (hc : codingN k = false) : getM (setM m true n on).1 true k = getM m true k := by
  by_cases h : canM true k = true
  · rw [get_is h, get_is h]
    have key : isM (setM m true n on).1 true k = isM m true k := by
      have hx : k = 1 ∨ k = 66 ∨ k = 67 ∨ k = 1004 ∨ k = 2004 := by simpa [canM, hm, hc] using h
      unfold isM setM
      simp only [Bool.true_eq_false, if_false]
      rcases hx with rfl | rfl | rfl | rfl | rfl
      all_goals
        simp only [if_true, show ¬ ((66 : Int) = 1) by decide, show ¬ ((67 : Int) = 1) by decide, show ¬ ((67 : Int) = 66) by decide, show ¬ ((1004 : Int) = 1) by decide, show ¬ ((1004 : Int) = 66) by decide, show ¬ ((1004 : Int) = 67) by decide, show ¬ ((2004 : Int) = 1) by decide, show ¬ ((2004 : Int) = 66) by decide, show ¬ ((2004 : Int) = 67) by decide, show ¬ ((2004 : Int) = 1004) by decide, if_false]
        (repeat' split) <;> first | rfl | (exfalso; omega)
    rw [key]
  · have h' : canM true k = false := by simpa using h
    rw [get_no h', get_no h']
theorem set_plain (m : Mo) (n k : Int) (on : Bool) : getM (setM m true n on).1 false k = getM m false k := by
  by_cases h : canM false k = true
  · rw [get_is h, get_is h]
    have key : isM (setM m true n on).1 false k = isM m false k := by
      unfold isM setM
      simp only [Bool.true_eq_false, if_false, if_true]
      (repeat' split) <;> rfl
    rw [key]
  · have h' : canM false k = false := by simpa using h
    rw [get_no h', get_no h']
theorem set_keeps (m : Mo) (p : Bool) (n : Int) (on : Bool) : (setM m p n on).1.other = m.other := by
  unfold setM plainM
  (repeat' split) <;> rfl
theorem set_priv (m : Mo) (n : Int) (on : Bool) : (setM m true n on).1.lock = m.lock ∧ (setM m true n on).1.line = m.line := by
  unfold setM
  simp only [Bool.true_eq_false, if_false]
  (repeat' split) <;> exact ⟨rfl, rfl⟩
/-- Two modes, the first of neither the mouse's nor of its codings, in either turn. -/
theorem set_turns (m : Mo) {n k : Int} (a b : Bool) (hk : n ≠ k) (hm : mouseN n = false) (hc : codingN n = false) : (setM (setM m true n a).1 true k b).1 = (setM (setM m true k b).1 true n a).1 := by
  by_cases h : canM true n = true
  · have hx : n = 1 ∨ n = 66 ∨ n = 67 ∨ n = 1004 ∨ n = 2004 := by simpa [canM, hm, hc] using h
    unfold setM
    simp only [Bool.true_eq_false, if_false]
    rcases hx with rfl | rfl | rfl | rfl | rfl
    all_goals
      simp only [if_true, show ¬ ((66 : Int) = 1) by decide, show ¬ ((67 : Int) = 1) by decide, show ¬ ((67 : Int) = 66) by decide, show ¬ ((1004 : Int) = 1) by decide, show ¬ ((1004 : Int) = 66) by decide, show ¬ ((1004 : Int) = 67) by decide, show ¬ ((2004 : Int) = 1) by decide, show ¬ ((2004 : Int) = 66) by decide, show ¬ ((2004 : Int) = 67) by decide, show ¬ ((2004 : Int) = 1004) by decide, if_false]
      (repeat' split) <;> first | rfl | (exfalso; omega) | (exfalso; simp_all; done)
  · have h' : canM true n = false := by simpa using h
    rw [set_no h', set_no h']
/-- A list's modes set in turn. -/
def setsM (m : Mo) : List (Int × Bool) → Mo
  | [] => m
  | (n, on) :: l => setsM (setM m true n on).1 l
theorem sets_snoc (m : Mo) (l : List (Int × Bool)) (n : Int) (on : Bool) : setsM m (l ++ [(n, on)]) = (setM (setsM m l) true n on).1 := by
  induction l generalizing m with
  | nil => rfl
  | cons x l ih => exact ih _
theorem may_sets (m : Mo) (l : List (Int × Bool)) (h : mayM m = true) : mayM (setsM m l) = true := by
  induction l generalizing m with
  | nil => exact h
  | cons x l ih => exact ih _ (may_set m true x.1 x.2 h)
theorem may_mo0 : mayM mo0 = true := by decide
/-- How many of the mouse's modes, and of its codings, are set, of the first of those that may be. -/
def mouseT (m : Mo) (x : Int) : Bool := decide (getM m true x = 1) && (decide (x = 9) || (decide (1000 ≤ x) && decide (x ≤ 1003)))
def codingT (m : Mo) (x : Int) : Bool := decide (getM m true x = 1) && (decide (1005 ≤ x) && decide (x ≤ 1015))
def miceM (m : Mo) (i : Nat) : Nat := ((ownM.take i).filter (mouseT m)).length
def codsM (m : Mo) (i : Nat) : Nat := ((ownM.take i).filter (codingT m)).length
theorem mod_take_step (i : Nat) (h : i < 12) : ownM.take (i + 1) = ownM.take i ++ [ownM[i]] := List.take_succ_eq_append_getElem (l := ownM) h
theorem mice_step (m : Mo) (i : Nat) (h : i < 12) : miceM m (i + 1) = miceM m i + (if mouseT m (ownM[i]'h) = true then 1 else 0) := by
  unfold miceM
  rw [mod_take_step i h, List.filter_append, List.length_append]
  congr 1
  by_cases hh : mouseT m (ownM[i]'h) = true
  · rw [if_pos hh, List.filter_cons_of_pos hh]; rfl
  · rw [if_neg hh, List.filter_cons_of_neg hh]; rfl
theorem cods_step (m : Mo) (i : Nat) (h : i < 12) : codsM m (i + 1) = codsM m i + (if codingT m (ownM[i]'h) = true then 1 else 0) := by
  unfold codsM
  rw [mod_take_step i h, List.filter_append, List.length_append]
  congr 1
  by_cases hh : codingT m (ownM[i]'h) = true
  · rw [if_pos hh, List.filter_cons_of_pos hh]; rfl
  · rw [if_neg hh, List.filter_cons_of_neg hh]; rfl
theorem own_can {x : Int} (h : x ∈ ownM) : canM true x = true := by
  simp only [ownM, List.mem_cons, List.mem_nil_iff, or_false] at h
  rcases h with rfl | rfl | rfl | rfl | rfl | rfl | rfl | rfl | rfl | rfl | rfl | rfl <;> decide
theorem mouse_is {m : Mo} {x : Int} (hx : x ∈ ownM) (h : mouseT m x = true) : x = m.mouse := by
  simp only [mouseT, Bool.and_eq_true, Bool.or_eq_true, decide_eq_true_eq] at h
  have h1 := h.1
  rw [get_is (own_can hx)] at h1
  have h2 : isM m true x = true := by
    by_cases hh : isM m true x = true
    · exact hh
    · rw [if_neg hh] at h1; omega
  simp only [ownM, List.mem_cons, List.mem_nil_iff, or_false] at hx
  have hm : mouseN x = true := by rw [mouseN_iff]; omega
  unfold isM at h2
  rw [if_neg (by decide), if_neg (by omega), if_neg (by omega), if_neg (by omega), if_neg (by omega), if_neg (by omega), if_pos hm] at h2
  exact (of_decide_eq_true h2).symm
theorem coding_is {m : Mo} {x : Int} (hx : x ∈ ownM) (h : codingT m x = true) : x = m.coding := by
  simp only [codingT, Bool.and_eq_true, decide_eq_true_eq] at h
  have h1 := h.1
  rw [get_is (own_can hx)] at h1
  have h2 : isM m true x = true := by
    by_cases hh : isM m true x = true
    · exact hh
    · rw [if_neg hh] at h1; omega
  simp only [ownM, List.mem_cons, List.mem_nil_iff, or_false] at hx
  have hm : ¬ mouseN x = true := by rw [mouseN_iff]; omega
  unfold isM at h2
  rw [if_neg (by decide), if_neg (by omega), if_neg (by omega), if_neg (by omega), if_neg (by omega), if_neg (by omega), if_neg hm] at h2
  exact (of_decide_eq_true h2).symm
theorem filter_one (p : Int → Bool) (y : Int) : ∀ (l : List Int), l.Nodup → (∀ x ∈ l, p x = true → x = y) → (l.filter p).length ≤ 1
  | [], _, _ => by simp
  | x :: l, hn, h => by
    obtain ⟨h1, h2⟩ := List.nodup_cons.1 hn
    by_cases hx : p x = true
    · rw [List.filter_cons_of_pos hx]
      have e : l.filter p = [] := by
        rw [List.filter_eq_nil_iff]
        intro z hz hpz
        have := h z (List.mem_cons_of_mem _ hz) hpz
        have := h x (List.mem_cons_self ..) hx
        exact h1 (by rw [this, ← ‹z = y›]; exact hz)
      rw [e]; simp
    · rw [List.filter_cons_of_neg hx]
      exact filter_one p y l h2 fun z hz => h z (List.mem_cons_of_mem _ hz)
theorem own_nodup : ownM.Nodup := by decide
theorem mice_one (m : Mo) (i : Nat) : miceM m i ≤ 1 :=
  filter_one _ m.mouse _ (own_nodup.sublist (List.take_sublist _ _)) fun _ hx h => mouse_is (List.mem_of_mem_take hx) h
theorem cods_one (m : Mo) (i : Nat) : codsM m i ≤ 1 :=
  filter_one _ m.coding _ (own_nodup.sublist (List.take_sublist _ _)) fun _ hx h => coding_is (List.mem_of_mem_take hx) h
theorem can_own (n : Int) : canM true n = ownM.contains n := by
  rw [Bool.eq_iff_iff, List.contains_iff_mem]
  constructor
  · intro h
    have hx : (n = 1 ∨ n = 66 ∨ n = 67 ∨ n = 1004 ∨ n = 2004) ∨ (n = 9 ∨ n = 1000 ∨ n = 1002 ∨ n = 1003) ∨ (n = 1005 ∨ n = 1006 ∨ n = 1015) := by simpa [canM, mouseN, codingN] using h
    simp only [ownM, List.mem_cons, List.mem_nil_iff, or_false]
    omega
  · exact own_can
end Go.Proofs.YtbjmfhcgkpjcfaaGreatDoor
namespace Go.Proofs.YtbjmfhcgkpjcfaaGreatDoor
open Go.RowKit

theorem str_cat (a b c : List UInt8) (h : a ++ b = c) : (⟨a.toArray⟩ : ByteArray) ++ (⟨b.toArray⟩ : ByteArray) = ⟨c.toArray⟩ := by
  subst h
  apply ByteArray.ext
  simp [ByteArray.data_append]
theorem partL_snoc (p : List Int) (n : Int) : partL (p ++ [n]) = partL p ++ (if p = [] then [] else [58]) ++ textL n := by
  match p with
  | [] => simp [partL]
  | [m] => simp [partL]
  | m :: k :: p =>
    have ih := partL_snoc (k :: p) n
    show textL m ++ (58 :: partL (k :: p ++ [n])) = _
    rw [ih]
    simp [partL]
theorem parL_snoc (l : List (List Int)) (p : List Int) : parL (l ++ [p]) = parL l ++ (if l = [] then [] else [59]) ++ partL p := by
  match l with
  | [] => simp [parL]
  | [m] => simp [parL]
  | m :: k :: l =>
    have ih := parL_snoc (k :: l) p
    show partL m ++ (59 :: parL (k :: l ++ [p])) = _
    rw [ih]
    simp [parL]
theorem partL_len : ∀ (p : List Int), partOk p → (partL p).length ≤ 22 * p.length := by
  intro p ho
  match p with
  | [] => simp [partL]
  | [n] =>
    have := textL_length n (by have := ho n (List.mem_cons_self ..); omega)
    simp only [partL, List.length_cons, List.length_nil]; omega
  | n :: m :: p =>
    have h1 := textL_length n (by have := ho n (List.mem_cons_self ..); omega)
    have h2 := partL_len (m :: p) (fun x hx => ho x (List.mem_cons_of_mem _ hx))
    show (textL n ++ (58 :: partL (m :: p))).length ≤ _
    rw [List.length_append, List.length_cons]
    simp only [List.length_cons] at *
    omega
theorem partL_take {p : List Int} {k : Nat} (h : k < p.length) : partL (p.take (k + 1)) = partL (p.take k) ++ (if k = 0 then [] else [58]) ++ textL p[k] := by
  rw [List.take_succ_eq_append_getElem h, partL_snoc]
  congr 2
  by_cases hk : k = 0
  · subst hk; simp
  · rw [if_neg hk, if_neg]
    intro e
    have := congrArg List.length e
    rw [List.length_take, List.length_nil] at this
    omega
theorem parL_take {l : List (List Int)} {k : Nat} (h : k < l.length) : parL (l.take (k + 1)) = parL (l.take k) ++ (if k = 0 then [] else [59]) ++ partL l[k] := by
  rw [List.take_succ_eq_append_getElem h, parL_snoc]
  congr 2
  by_cases hk : k = 0
  · subst hk; simp
  · rw [if_neg hk, if_neg]
    intro e
    have := congrArg List.length e
    rw [List.length_take, List.length_nil] at this
    omega
theorem parL_len : ∀ (l : List (List Int)), (∀ p ∈ l, p.length ≤ 8 ∧ partOk p) → (parL l).length ≤ 177 * l.length := by
  intro l ho
  match l with
  | [] => simp [parL]
  | [p] =>
    have h := ho p (List.mem_cons_self ..)
    have := partL_len p h.2
    simp only [parL, List.length_cons, List.length_nil]; omega
  | p :: q :: l =>
    have h := ho p (List.mem_cons_self ..)
    have h1 := partL_len p h.2
    have h2 := parL_len (q :: l) (fun x hx => ho x (List.mem_cons_of_mem _ hx))
    show (partL p ++ (59 :: parL (q :: l))).length ≤ _
    rw [List.length_append, List.length_cons]
    simp only [List.length_cons] at *
    omega
theorem parOk_lens {l : List (List Int)} (h : parOk l = true) : l.length ≤ 16 ∧ ∀ p ∈ l, p.length ≤ 8 ∧ partOk p := by
  simp only [parOk, Bool.and_eq_true, decide_eq_true_eq, List.all_eq_true] at h
  refine ⟨h.1.1, fun p hp => ?_⟩
  obtain ⟨⟨_, h1⟩, h2⟩ := h.2 p hp
  exact ⟨h1, fun n hn => h2 n hn⟩
end Go.Proofs.YtbjmfhcgkpjcfaaGreatDoor
namespace Go.Proofs.YtbjmfhcgkpjcfaaGreatDoor
open Go.RowKit

set_option maxRecDepth 100000 in
set_option maxHeartbeats 4000000 in
theorem last_any (s : Sq) (A : Option Addr) (c : Nat) (q : Bool) (w : World) (hq : lastOk s = q) :
    Calls Tryz.prog 67 #[sqV s A c] w fun e w' => e = .returned (.bool q) ∧ Below w.heap.size w w' := by
  obtain ⟨q1, q5, q4, q0⟩ := last_q hq
  clear hq
  obtain ⟨k, pv, ps, it, f, d⟩ := s
  dsimp only at q1 q5 q4 q0
  have hf := f.toNat_lt
  obtain ⟨n, hn⟩ : ∃ n, f.toNat = n := ⟨_, rfl⟩
  rw [hn] at q1 q5 q4 hf
  unfold sqV
  dsimp only
  rw [hn]
  clear hn
  by_cases k1 : k = 1 ∨ k = 2 ∨ k = 3
  · have E := Lib.hid (q1 k1)
    clear q1 q5 q4 q0
    rcases k1 with rfl | rfl | rfl
    all_goals
      go_enter Tryz.func67, Tryz.ntmps67
      go_wp2
      all_goals
        go_ret
        refine ⟨ret_b ?_, (Below.refl _ _).alloc (Nat.le_refl _) _⟩
        rw [E.out, Bool.eq_iff_iff]
        simp only [Bool.and_eq_true, decide_eq_true_eq, Bool.false_eq_true, false_iff]
        omega
  · by_cases k5 : k = 5
    · obtain ⟨e1, e2⟩ := q5 k5
      subst k5
      clear q1 q4 q0 k1 q5
      by_cases hr : n < 48 ∨ 126 < n
      · have E := Lib.hid (e1 hr)
        clear e1 e2
        rcases hr with hr | hr
        all_goals
          go_enter Tryz.func67, Tryz.ntmps67
          go_wp2
          go_ret
          exact ⟨ret_b E.out.symm, (Below.refl _ _).alloc (Nat.le_refl _) _⟩
      · have n0 : 48 ≤ n := by omega
        have n1 : n ≤ 126 := by omega
        obtain ⟨e3, e4⟩ := e2 n0 n1
        clear e1 e2 hr
        cases it with
        | cons x it =>
          have E := Lib.hid (e3 (by simp))
          clear e3 e4
          go_enter Tryz.func67, Tryz.ntmps67
          go_wp2
          go_ret
          exact ⟨ret_b E.out.symm, (Below.refl _ _).alloc (Nat.le_refl _) _⟩
        | nil =>
          have E := Lib.hid (e4 rfl)
          clear e3 e4
          go_enter Tryz.func67, Tryz.ntmps67
          go_wp2
          all_goals
            go_ret
            refine ⟨ret_b ?_, (Below.refl _ _).alloc (Nat.le_refl _) _⟩
            rw [E.out, Bool.eq_iff_iff]
            simp
            omega
    · by_cases k4 : k = 4
      · have E := Lib.hid (q4 k4)
        subst k4
        clear q1 q4 q0 k1 q5 k5
        go_enter Tryz.func67, Tryz.ntmps67
        go_wp2
        all_goals
          go_ret
          refine ⟨ret_b ?_, (Below.refl _ _).alloc (Nat.le_refl _) _⟩
          rw [E.out, Bool.eq_iff_iff]
          simp
      · have E := Lib.hid (q0 (by omega))
        have t1 : (k == 1) = false := beq_false_of_ne (by omega)
        have t2 : (k == 2) = false := beq_false_of_ne (by omega)
        have t3 : (k == 3) = false := beq_false_of_ne (by omega)
        have t4 : (k == 4) = false := beq_false_of_ne k4
        have t5 : (k == 5) = false := beq_false_of_ne k5
        clear q1 q4 q0 k1 q5 k5 k4
        go_enter Tryz.func67, Tryz.ntmps67
        go_wp2
        go_ret
        exact ⟨ret_b E.out.symm, (Below.refl _ _).alloc (Nat.le_refl _) _⟩
end Go.Proofs.YtbjmfhcgkpjcfaaGreatDoor
namespace Go.Proofs.YtbjmfhcgkpjcfaaGreatDoor
open Go.RowKit

set_option maxHeartbeats 1000000 in
theorem rtext_any (k : Nat) : ∀ (n : Int) (w : World), n < k → n ≤ 9223372036854775807 → -9223372036854775808 ≤ n →
    Calls Tryz.prog 69 #[.int .i64 n] w fun e w' => e = .returned (.string ⟨(textL n).toArray⟩) ∧ Below w.heap.size w w' := by
  induction k with
  | zero =>
    intro n w hk h1 h0
    have hn : n < 0 := by omega
    have HE := Lib.hid (textL_neg n hn)
    go_enter Tryz.func69, Tryz.ntmps69
    go_wp2_with fail
    go_ret
    exact ⟨ret_s HE.out.symm, Below.refl _ _⟩
  | succ k ih =>
    intro n w hk h1 h0
    have IH := Lib.hid ih
    clear ih
    by_cases hn : n < 0
    · have HE := Lib.hid (textL_neg n hn)
      go_enter Tryz.func69, Tryz.ntmps69
      go_wp2_with fail
      go_ret
      exact ⟨ret_s HE.out.symm, Below.refl _ _⟩
    · by_cases h10 : n < 10
      · have HE := Lib.hid (textL_small n (by omega) h10)
        have hcv := conv_one (P := Tryz.prog) Tryz.underlying27 Tryz.underlying5 Tryz.underlying9 (48 + n) (by omega) (by omega)
        go_enter Tryz.func69, Tryz.ntmps69
        go_wp2_with fail
        go_ret
        exact ⟨ret_s (by rw [HE.out, show (48 + n).toNat = 48 + n.toNat by omega]), (Below.refl _ _).alloc (Nat.le_refl _) _⟩
      · have HE := Lib.hid (textL_big n (by omega))
        have hcv := conv_one (P := Tryz.prog) Tryz.underlying27 Tryz.underlying5 Tryz.underlying9 (48 + n % 10) (by omega) (by omega)
        go_enter Tryz.func69, Tryz.ntmps69
        go_wp2_with fail
        have b1 : n / 10 < k := by omega
        have b2 : n / 10 ≤ 9223372036854775807 := by omega
        have b4 := textL_length (n / 10) b2
        have b3 : -9223372036854775808 ≤ n / 10 := by omega
        have e1 : IntKind.i64.wrap (n.tdiv 10) = n / 10 := by
          rw [Int.tdiv_eq_ediv_of_nonneg (by omega)]; exact IntWalk.i64_in _ (by omega)
        have e2 : n.tmod 10 = n % 10 := Int.tmod_eq_emod_of_nonneg (by omega)
        have e3 : IntKind.i64.wrap (48 + n % 10) = 48 + n % 10 := IntWalk.i64_in _ (by omega)
        have e4 : IntKind.u8.wrap (48 + n % 10) = 48 + n % 10 := by rw [IntKind.wrap_u8]; omega
        go_region_with (first | (go_at_call 69; refine (IH.out (n / 10) _ b1 b2 b3).mono ?_; rintro e w' ⟨rfl, hb⟩; obtain ⟨hbc, hbf⟩ := below_cells hb))
        all_goals clear e1 e2 e3 e4
        all_goals go_wp2
        all_goals go_ret
        all_goals refine ⟨ret_s (q := textL n) (by rw [HE.out, show (48 + n % 10).toNat = 48 + (n % 10).toNat by omega]), ?_⟩
        all_goals first
          | exact ((Below.refl _ w).drew.trans hb).alloc hb.size _
          | exact (((Below.refl _ w).alloc (Nat.le_refl _) _).drew).trans (hb.mono (by simp))
end Go.Proofs.YtbjmfhcgkpjcfaaGreatDoor
namespace Go.Proofs.YtbjmfhcgkpjcfaaGreatDoor
open Go.RowKit

set_option maxHeartbeats 400000 in
theorem text_any (n : Int) (w : World) (h0 : -9223372036854775808 ≤ n) (h1 : n ≤ 9223372036854775807) (htab : Lib.TabIs Tryz.prog w "internal/strconv.uint64pow10" .u64 Lib.pow10Tab) :
    Calls Tryz.prog 85 #[.int .i64 n] w fun e w' => e = .returned (.string ⟨(textL n).toArray⟩) ∧ Below w.heap.size w w' := by
  by_cases hn : n < 0
  · have HE := Lib.hid (show textL n = [] from if_pos hn)
    go_enter Tryz.func85, Tryz.ntmps85
    go_wp2
    go_ret
    exact ⟨ret_s HE.out.symm, Below.refl _ _⟩
  · have HE := Lib.hid (show textL n = Lib.itoa n by unfold textL Lib.itoa; rw [if_neg hn, if_neg hn])
    go_enter Tryz.func85, Tryz.ntmps85
    go_wp2_with (go_at_call 93; refine (Tryz.strconv_Itoa n h0 h1 w htab).mono ?_; rintro e w' ⟨rfl, k, os, rfl⟩)
    go_ret
    exact ⟨ret_s HE.out.symm, below_grow (below_drewN (Below.refl _ _) k) (by simp) os⟩
def Tab (w : World) : Prop := Lib.TabIs Tryz.prog w "internal/strconv.uint64pow10" .u64 Lib.pow10Tab
theorem Tab.below {w w' : World} (h : Tab w) (hb : Below w.heap.size w w') : Tab w' := Lib.tabBelow_of_tabIs h w' hb
end Go.Proofs.YtbjmfhcgkpjcfaaGreatDoor
namespace Go.Proofs.YtbjmfhcgkpjcfaaGreatDoor
section
variable {H : Type} {enc : TypeId × Value → H}
theorem witness_row_ref {C : Checked} {os : Os} {f : FuncId} {fn : Func} {s : OpenSpec} {conds : List PathCond} {apart : Bool} {laid : List (String × DataW Unit)} (modest : Bool) (w0 : World) (args : Array Value) (hos : w0.os = os)
    (hv : (w0.forCall (fun _ _ => 0) ⟨#[], args, []⟩).variablesRefB C.prog = true)
    (hr : ((w0.forCall (fun _ _ => 0) ⟨#[], args, []⟩).heap.toList.drop C.prog.globals.size).take ((begin C.prog (fun _ _ => 0) default).world.heap.size - C.prog.globals.size) =
      (begin C.prog (fun _ _ => 0) default).world.heap.toList.drop C.prog.globals.size)
    (hok : Input.okWideB C.prog (w0.forCall (fun _ _ => 0) ⟨#[], args, []⟩) f ⟨#[], args, []⟩ = true)
    (hrow : s.preRow enc C.prog fn conds apart laid (w0.forCall (fun _ _ => 0) ⟨#[], args, []⟩).memory args) :
    ∃ (w : World) (tape : Tape) (i : Input), w.os = os ∧ (w.forCall tape i).Shaped C.prog ∧ i.vars = [] ∧ Input.okWide C.prog (w.forCall tape i) .any w.heap.size f i ∧
      s.preRow enc C.prog fn conds apart laid (w.forCall tape i).memory i.args ∧ ({ modest := modest } : Assume).holds C.prog (lone (Frame.enter C.prog f i.args .normal) [] (w.forCall tape i)) := by
  obtain ⟨w, tape, i, h1, h2, h3, h4, h5, h6, _⟩ := OpenSpec.witness_stopped_atRef (enc := enc) (C := C) (fn := fn) (s := s) (conds := conds) (apart := apart) (laid := laid) modest w0 args hos hv hr hok hrow (fun _ _ _ => 0)
  exact ⟨w, tape, i, h1, h2, h3, h4, h5, h6⟩
end
end Go.Proofs.YtbjmfhcgkpjcfaaGreatDoor
