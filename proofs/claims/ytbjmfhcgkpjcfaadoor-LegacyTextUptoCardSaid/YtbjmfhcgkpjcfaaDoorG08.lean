/-
  Layer 6's mathematics: what modes leave of each other. Lists of numbers, read in memory; the document's comparison of two of them. (For layers that don't load layer 2's own texts.) A call that tells bytes: the slice, with its room. Cut out of WirP: what names no function of any dump. Cut out of WirQ: what names no function of any dump. Cut out of WirY: what names no function of any dump. Layer 3's mathematics: a part of a sequence's parameters.
-/
import Derived.Test.YtbjmfhcgkpjcfaaDoorG01
import Derived.Test.YtbjmfhcgkpjcfaaDoorG02
import Derived.Test.YtbjmfhcgkpjcfaaDoorG03
import Derived.Test.YtbjmfhcgkpjcfaaDoorG04
import Derived.Test.YtbjmfhcgkpjcfaaDoorG07
import Derived.BigQuiet
import Derived.Deep.QuietTactic
namespace Go.Proofs.YtbjmfhcgkpjcfaaDoor

/-- A mode leaves all others as they were, but those of the mouse each other, and its codings, too. -/
theorem set_other (m : Mo) {n k : Int} (on : Bool) (hk : k ≠ n) (hm : mouseN k = false) (hc : codingN k = false) : getM (setM m true n on).1 true k = getM m true k := by
  by_cases h : canM true k = true
  · rw [get_is h, get_is h]
    have key : isM (setM m true n on).1 true k = isM m true k := by
      have hx : k = 1 ∨ k = 66 ∨ k = 67 ∨ k = 1004 ∨ k = 2004 := by simpa [canM, hm, hc] using h
      unfold isM setM
      simp only [Bool.true_eq_false, if_false]
      rcases hx with rfl | rfl | rfl | rfl | rfl
      all_goals
        simp only [if_true, show ¬ ((66 : Int) = 1) by decide, show ¬ ((67 : Int) = 1) by decide, show ¬ ((67 : Int) = 66) by decide, show ¬ ((1004 : Int) = 1) by decide, show ¬ ((1004 : Int) = 66) by decide, show ¬ ((1004 : Int) = 67) by decide, show ¬ ((2004 : Int) = 1) by decide, show ¬ ((2004 : Int) = 66) by decide, show ¬ ((2004 : Int) = 67) by decide, show ¬ ((2004 : Int) = 1004) by decide, if_false]
        (repeat' split) <;> first | rfl | (exfalso; omega)
    rw [key]
  · have h' : canM true k = false := by simpa using h
    rw [get_no h', get_no h']
theorem set_plain (m : Mo) (n k : Int) (on : Bool) : getM (setM m true n on).1 false k = getM m false k := by
  by_cases h : canM false k = true
  · rw [get_is h, get_is h]
    have key : isM (setM m true n on).1 false k = isM m false k := by
      unfold isM setM
      simp only [Bool.true_eq_false, if_false, if_true]
      (repeat' split) <;> rfl
    rw [key]
  · have h' : canM false k = false := by simpa using h
    rw [get_no h', get_no h']
theorem set_keeps (m : Mo) (p : Bool) (n : Int) (on : Bool) : (setM m p n on).1.other = m.other := by
  unfold setM plainM
  (repeat' split) <;> rfl
theorem set_priv (m : Mo) (n : Int) (on : Bool) : (setM m true n on).1.lock = m.lock ∧ (setM m true n on).1.line = m.line := by
  unfold setM
  simp only [Bool.true_eq_false, if_false]
  (repeat' split) <;> exact ⟨rfl, rfl⟩
/-- Two modes, the first of neither the mouse's nor of its codings, in either turn. -/
theorem set_turns (m : Mo) {n k : Int} (a b : Bool) (hk : n ≠ k) (hm : mouseN n = false) (hc : codingN n = false) : (setM (setM m true n a).1 true k b).1 = (setM (setM m true k b).1 true n a).1 := by
  by_cases h : canM true n = true
  · have hx : n = 1 ∨ n = 66 ∨ n = 67 ∨ n = 1004 ∨ n = 2004 := by simpa [canM, hm, hc] using h
    unfold setM
    simp only [Bool.true_eq_false, if_false]
    rcases hx with rfl | rfl | rfl | rfl | rfl
    all_goals
      simp only [if_true, show ¬ ((66 : Int) = 1) by decide, show ¬ ((67 : Int) = 1) by decide, show ¬ ((67 : Int) = 66) by decide, show ¬ ((1004 : Int) = 1) by decide, show ¬ ((1004 : Int) = 66) by decide, show ¬ ((1004 : Int) = 67) by decide, show ¬ ((2004 : Int) = 1) by decide, show ¬ ((2004 : Int) = 66) by decide, show ¬ ((2004 : Int) = 67) by decide, show ¬ ((2004 : Int) = 1004) by decide, if_false]
      (repeat' split) <;> first | rfl | (exfalso; omega) | (exfalso; simp_all; done)
  · have h' : canM true n = false := by simpa using h
    rw [set_no h', set_no h']
/-- A list's modes set in turn. -/
def setsM (m : Mo) : List (Int × Bool) → Mo
  | [] => m
  | (n, on) :: l => setsM (setM m true n on).1 l
theorem sets_snoc (m : Mo) (l : List (Int × Bool)) (n : Int) (on : Bool) : setsM m (l ++ [(n, on)]) = (setM (setsM m l) true n on).1 := by
  induction l generalizing m with
  | nil => rfl
  | cons x l ih => exact ih _
theorem may_sets (m : Mo) (l : List (Int × Bool)) (h : mayM m = true) : mayM (setsM m l) = true := by
  induction l generalizing m with
  | nil => exact h
  | cons x l ih => exact ih _ (may_set m true x.1 x.2 h)
theorem may_mo0 : mayM mo0 = true := by decide
/-- How many of the mouse's modes, and of its codings, are set, of the first of those that may be. -/
def mouseT (m : Mo) (x : Int) : Bool := decide (getM m true x = 1) && (decide (x = 9) || (decide (1000 ≤ x) && decide (x ≤ 1003)))
def codingT (m : Mo) (x : Int) : Bool := decide (getM m true x = 1) && (decide (1005 ≤ x) && decide (x ≤ 1015))
def miceM (m : Mo) (i : Nat) : Nat := ((ownM.take i).filter (mouseT m)).length
def codsM (m : Mo) (i : Nat) : Nat := ((ownM.take i).filter (codingT m)).length
theorem mod_take_step (i : Nat) (h : i < 12) : ownM.take (i + 1) = ownM.take i ++ [ownM[i]] := List.take_succ_eq_append_getElem (l := ownM) h
theorem mice_step (m : Mo) (i : Nat) (h : i < 12) : miceM m (i + 1) = miceM m i + (if mouseT m (ownM[i]'h) = true then 1 else 0) := by
  unfold miceM
  rw [mod_take_step i h, List.filter_append, List.length_append]
  congr 1
  by_cases hh : mouseT m (ownM[i]'h) = true
  · rw [if_pos hh, List.filter_cons_of_pos hh]; rfl
  · rw [if_neg hh, List.filter_cons_of_neg hh]; rfl
theorem cods_step (m : Mo) (i : Nat) (h : i < 12) : codsM m (i + 1) = codsM m i + (if codingT m (ownM[i]'h) = true then 1 else 0) := by
  unfold codsM
  rw [mod_take_step i h, List.filter_append, List.length_append]
  congr 1
  by_cases hh : codingT m (ownM[i]'h) = true
  · rw [if_pos hh, List.filter_cons_of_pos hh]; rfl
  · rw [if_neg hh, List.filter_cons_of_neg hh]; rfl
theorem own_can {x : Int} (h : x ∈ ownM) : canM true x = true := by
  simp only [ownM, List.mem_cons, List.mem_nil_iff, or_false] at h
  rcases h with rfl | rfl | rfl | rfl | rfl | rfl | rfl | rfl | rfl | rfl | rfl | rfl <;> decide
theorem mouse_is {m : Mo} {x : Int} (hx : x ∈ ownM) (h : mouseT m x = true) : x = m.mouse := by
  simp only [mouseT, Bool.and_eq_true, Bool.or_eq_true, decide_eq_true_eq] at h
  have h1 := h.1
  rw [get_is (own_can hx)] at h1
  have h2 : isM m true x = true := by
    by_cases hh : isM m true x = true
    · exact hh
    · rw [if_neg hh] at h1; omega
  simp only [ownM, List.mem_cons, List.mem_nil_iff, or_false] at hx
  have hm : mouseN x = true := by rw [mouseN_iff]; omega
  unfold isM at h2
  rw [if_neg (by decide), if_neg (by omega), if_neg (by omega), if_neg (by omega), if_neg (by omega), if_neg (by omega), if_pos hm] at h2
  exact (of_decide_eq_true h2).symm
theorem coding_is {m : Mo} {x : Int} (hx : x ∈ ownM) (h : codingT m x = true) : x = m.coding := by
  simp only [codingT, Bool.and_eq_true, decide_eq_true_eq] at h
  have h1 := h.1
  rw [get_is (own_can hx)] at h1
  have h2 : isM m true x = true := by
    by_cases hh : isM m true x = true
    · exact hh
    · rw [if_neg hh] at h1; omega
  simp only [ownM, List.mem_cons, List.mem_nil_iff, or_false] at hx
  have hm : ¬ mouseN x = true := by rw [mouseN_iff]; omega
  unfold isM at h2
  rw [if_neg (by decide), if_neg (by omega), if_neg (by omega), if_neg (by omega), if_neg (by omega), if_neg (by omega), if_neg hm] at h2
  exact (of_decide_eq_true h2).symm
theorem filter_one (p : Int → Bool) (y : Int) : ∀ (l : List Int), l.Nodup → (∀ x ∈ l, p x = true → x = y) → (l.filter p).length ≤ 1
  | [], _, _ => by simp
  | x :: l, hn, h => by
    obtain ⟨h1, h2⟩ := List.nodup_cons.1 hn
    by_cases hx : p x = true
    · rw [List.filter_cons_of_pos hx]
      have e : l.filter p = [] := by
        rw [List.filter_eq_nil_iff]
        intro z hz hpz
        have := h z (List.mem_cons_of_mem _ hz) hpz
        have := h x (List.mem_cons_self ..) hx
        exact h1 (by rw [this, ← ‹z = y›]; exact hz)
      rw [e]; simp
    · rw [List.filter_cons_of_neg hx]
      exact filter_one p y l h2 fun z hz => h z (List.mem_cons_of_mem _ hz)
theorem own_nodup : ownM.Nodup := by decide
theorem mice_one (m : Mo) (i : Nat) : miceM m i ≤ 1 :=
  filter_one _ m.mouse _ (own_nodup.sublist (List.take_sublist _ _)) fun _ hx h => mouse_is (List.mem_of_mem_take hx) h
theorem cods_one (m : Mo) (i : Nat) : codsM m i ≤ 1 :=
  filter_one _ m.coding _ (own_nodup.sublist (List.take_sublist _ _)) fun _ hx h => coding_is (List.mem_of_mem_take hx) h
theorem can_own (n : Int) : canM true n = ownM.contains n := by
  rw [Bool.eq_iff_iff, List.contains_iff_mem]
  constructor
  · intro h
    have hx : (n = 1 ∨ n = 66 ∨ n = 67 ∨ n = 1004 ∨ n = 2004) ∨ (n = 9 ∨ n = 1000 ∨ n = 1002 ∨ n = 1003) ∨ (n = 1005 ∨ n = 1006 ∨ n = 1015) := by simpa [canM, mouseN, codingN] using h
    simp only [ownM, List.mem_cons, List.mem_nil_iff, or_false]
    omega
  · exact own_can
end Go.Proofs.YtbjmfhcgkpjcfaaDoor
namespace Go.Proofs.YtbjmfhcgkpjcfaaDoor
open Go.RowKit

/-- Numbers as values. -/
def is_ (l : List Int) : List Value := l.map (Value.int .i64)
theorem is_length (l : List Int) : (is_ l).length = l.length := by simp [is_]
theorem Rd.int_at {w : World} {A : Option Addr} {l : List Int} (h : Rd w A (is_ l)) (hp : 0 < l.length) :
    ∃ b o, A = some ⟨b, o, none⟩ ∧ b < w.heap.size ∧ ∀ k (hk : k < l.length), w.cell? ⟨b, o + k, none⟩ = some (.int .i64 l[k]) := by
  obtain ⟨b, o, rfl, hb, hc⟩ := h (by rw [is_length]; exact hp)
  exact ⟨b, o, rfl, hb, fun k hk => hc k _ (by simp [is_, hk])⟩

/-- A slice of slices of numbers. -/
def RdP (w : World) (A : Option Addr) (ps : List (List Int)) : Prop :=
  0 < ps.length → ∃ b o, A = some ⟨b, o, none⟩ ∧ b < w.heap.size ∧ ∀ k (hk : k < ps.length), ∃ A' c', w.cell? ⟨b, o + k, none⟩ = some (.slice A' (ps[k]).length c') ∧ Rd w A' (is_ ps[k])
theorem RdP.nil (w : World) (A : Option Addr) : RdP w A [] := fun h => absurd h (by simp)
theorem RdP.below {w w' : World} {A : Option Addr} {ps : List (List Int)} (h : RdP w A ps) (hb : Below w.heap.size w w') : RdP w' A ps := fun hp => by
  obtain ⟨b, o, rfl, hlt, hc⟩ := h hp
  refine ⟨b, o, rfl, Nat.lt_of_lt_of_le hlt hb.size, fun k hk => ?_⟩
  obtain ⟨A', c', h1, h2⟩ := hc k hk
  exact ⟨A', c', (hb.cell (p := ⟨b, o + k, none⟩) hlt).trans h1, h2.below hb⟩
theorem RdP.drewN {w : World} {A : Option Addr} {ps : List (List Int)} (h : RdP w A ps) (n : Nat) : RdP (w.drewN n) A ps := h
theorem RdP.alloc {w : World} {A : Option Addr} {ps : List (List Int)} (h : RdP w A ps) (o : Obj) : RdP (w.alloc o) A ps := h.below ((Below.refl _ _).alloc (Nat.le_refl _) o)
end Go.Proofs.YtbjmfhcgkpjcfaaDoor
namespace Go.Proofs.YtbjmfhcgkpjcfaaDoor
open Go.RowKit

/-- A slice of bytes handed back, with its room. -/
def OutC (L : List UInt8) (w : World) (e : Ending) (w' : World) : Prop := ∃ A c, e = .returned (.slice A L.length c) ∧ L.length ≤ c ∧ Rd w' A (bs L) ∧ Below w.heap.size w w'
theorem outC_out {L : List UInt8} {w w' : World} {e : Ending} (h : OutC L w e w') : Out L w e w' := by
  obtain ⟨A, c, he, _, hr, hb⟩ := h
  exact ⟨A, c, he, hr, hb⟩
theorem outC_step {L : List UInt8} {w w1 w' : World} {e : Ending} (hb : Below w.heap.size w w1) (h : OutC L w1 e w') : OutC L w e w' := by
  obtain ⟨A, c, he, hc, hr, hb'⟩ := h
  exact ⟨A, c, he, hc, hr, hb.trans (hb'.mono hb.size)⟩
theorem outC_is {L M : List UInt8} {w w' : World} {e : Ending} (hl : L = M) (h : OutC M w e w') : OutC L w e w' := hl ▸ h
end Go.Proofs.YtbjmfhcgkpjcfaaDoor
namespace Go.Proofs.YtbjmfhcgkpjcfaaDoor
open Go.RowKit

theorem all_no {p : UInt8 → Bool} {l : List UInt8} {k : Nat} (hk : k < l.length) (h : p l[k] = false) : l.all p = false := by
  rw [List.all_eq_false]
  exact ⟨_, List.getElem_mem hk, by simp [h]⟩
/-- A parameter may be. -/
def partB (p : List Int) : Bool := decide (1 ≤ p.length) && decide (p.length ≤ 8) && p.all fun n => decide (-1 ≤ n) && decide (n ≤ 1114111)
theorem parOk_eq (l : List (List Int)) : parOk l = (decide (l.length ≤ 16) && decide (l ≠ [[-1]]) && l.all partB) := rfl
theorem par_long {l : List (List Int)} (h : 16 < l.length) : parOk l = false := by rw [parOk_eq, decide_eq_false (by omega)]; rfl
theorem par_no {l : List (List Int)} {k : Nat} (hk : k < l.length) (h : partB l[k] = false) : parOk l = false := by
  rw [parOk_eq, show l.all partB = false from List.all_eq_false.2 ⟨_, List.getElem_mem hk, by simp [h]⟩, Bool.and_false]
theorem part_len {p : List Int} (h : ¬ (1 ≤ p.length ∧ p.length ≤ 8)) : partB p = false := by
  unfold partB
  by_cases h1 : 1 ≤ p.length
  · rw [decide_eq_false (p := p.length ≤ 8) (by omega), Bool.and_false, Bool.false_and]
  · rw [decide_eq_false h1, Bool.false_and, Bool.false_and]
def numOk (n : Int) : Bool := decide (-1 ≤ n) && decide (n ≤ 1114111)
theorem partB_yes {p : List Int} (h1 : 1 ≤ p.length) (h2 : p.length ≤ 8) (h : p.all numOk = true) : partB p = true := by
  unfold partB
  rw [decide_eq_true h1, decide_eq_true h2]
  exact h
theorem parOk_yes {l : List (List Int)} (h : l.length ≤ 16) (h1 : l ≠ [[-1]]) (h2 : l.all partB = true) : parOk l = true := by
  rw [parOk_eq, decide_eq_true h, decide_eq_true h1, h2]; rfl
theorem numOk_iff (n : Int) : numOk n = true ↔ -1 ≤ n ∧ n ≤ 1114111 := by simp [numOk]
end Go.Proofs.YtbjmfhcgkpjcfaaDoor
namespace Go.Proofs.YtbjmfhcgkpjcfaaDoor
open Go.RowKit

/-- A sequence as a value; that it reads so. -/
def sqV (s : Sq) (A : Option Addr) (c : Nat) : Value := .agg #[.int .i64 s.kind, .int .u8 (s.priv.toNat : Int), .slice A s.params.length c, .string ⟨s.inter.toArray⟩, .int .u8 (s.final.toNat : Int), .string ⟨s.data.toArray⟩]
theorem last_q {s : Sq} {q : Bool} (hq : lastOk s = q) : (s.kind = 1 ∨ s.kind = 2 ∨ s.kind = 3 → q = (decide (64 ≤ s.final.toNat) && decide (s.final.toNat ≤ 126))) ∧
    (s.kind = 5 → (s.final.toNat < 48 ∨ 126 < s.final.toNat → q = false) ∧ (48 ≤ s.final.toNat → s.final.toNat ≤ 126 → (s.inter ≠ [] → q = true) ∧
      (s.inter = [] → q = !([79, 80, 88, 91, 93, 92, 94, 95] : List Nat).contains s.final.toNat))) ∧
    (s.kind = 4 → q = decide (s.final.toNat = 0)) ∧ (¬ (s.kind = 1 ∨ s.kind = 2 ∨ s.kind = 3 ∨ s.kind = 4 ∨ s.kind = 5) → q = false) := by
  subst hq
  refine ⟨fun h => ?_, fun h => ⟨fun h1 => ?_, fun h1 h2 => ⟨fun h3 => ?_, fun h3 => ?_⟩⟩, fun h => ?_, fun h => ?_⟩
  · unfold lastOk; rw [if_pos h]; rfl
  · unfold lastOk; rw [if_neg (by omega), if_pos h, (btw_no 48 126 _).2 (by omega), Bool.false_and]
  · unfold lastOk; rw [if_neg (by omega), if_pos h, (btw_iff 48 126 _).2 ⟨h1, h2⟩, decide_eq_true h3]; rfl
  · unfold lastOk; rw [if_neg (by omega), if_pos h, (btw_iff 48 126 _).2 ⟨h1, h2⟩, decide_eq_false (by simpa using h3), Bool.false_or, Bool.true_and]
    congr 1
    rw [Bool.eq_iff_iff]
    simp [← UInt8.toNat_inj]
  · unfold lastOk; rw [if_neg (by omega), if_neg (by omega), decide_eq_true h, Bool.true_and]
    rw [Bool.eq_iff_iff]
    simp [← UInt8.toNat_inj]
  · unfold lastOk; rw [if_neg (by omega), if_neg (by omega), decide_eq_false (by omega)]; rfl
end Go.Proofs.YtbjmfhcgkpjcfaaDoor
namespace Go.Proofs.YtbjmfhcgkpjcfaaDoor
open Go.RowKit

theorem may_1 {s : Sq} (h : s.data.length ≤ 4096) (h1 : okS s = false) : mayS s = 1 := by
  unfold mayS; rw [if_neg (by omega), if_neg (by rw [h1]; decide)]
theorem may_0 {s : Sq} (h : s.data.length ≤ 4096) (h1 : okS s = true) : mayS s = 0 := by
  unfold mayS; rw [if_neg (by omega), if_pos h1]
theorem may_4 {s : Sq} (h : 4096 < s.data.length) : mayS s = 4 := by unfold mayS; rw [if_pos h]
end Go.Proofs.YtbjmfhcgkpjcfaaDoor
namespace Go.Proofs.YtbjmfhcgkpjcfaaDoor

/-- The first part of a parameter; or another number. -/
def headI (o : Int) : List Int → Int
  | n :: _ => if n < 0 then o else n
  | [] => o
def argL (ps : List (List Int)) (i o : Int) : Int := if i < 0 ∨ (ps.length : Int) ≤ i then o else headI o (ps.getD i.toNat [])
end Go.Proofs.YtbjmfhcgkpjcfaaDoor
