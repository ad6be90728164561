/-
  Lists of numbers, read in memory; the document's comparison of two of them. (For layers that don't load layer 2's own texts.) Cut out of WirP: what names no function of any dump. Cut out of WirQ: what names no function of any dump. Layer 9, the landed keys: mathematics: its rows, the codes of all rows one after the other, and what is found among them. What All answers. Layer 3's mathematics: the reader that goes through the kinds reads just the sequence with which the bytes begin.
-/
import Derived.Test.YtmagokkegadmiaaDoorG01
import Derived.Test.YtmagokkegadmiaaDoorG02
import Derived.Test.YtmagokkegadmiaaDoorG05
import Derived.Test.YtmagokkegadmiaaDoorG06
import Derived.BigQuiet
import Derived.Deep.QuietTactic
namespace Go.Proofs.YtmagokkegadmiaaDoor
open Go.RowKit

/-- Numbers as values. -/
def is_ (l : List Int) : List Value := l.map (Value.int .i64)
theorem is_length (l : List Int) : (is_ l).length = l.length := by simp [is_]
theorem Rd.int_at {w : World} {A : Option Addr} {l : List Int} (h : Rd w A (is_ l)) (hp : 0 < l.length) :
    ∃ b o, A = some ⟨b, o, none⟩ ∧ b < w.heap.size ∧ ∀ k (hk : k < l.length), w.cell? ⟨b, o + k, none⟩ = some (.int .i64 l[k]) := by
  obtain ⟨b, o, rfl, hb, hc⟩ := h (by rw [is_length]; exact hp)
  exact ⟨b, o, rfl, hb, fun k hk => hc k _ (by simp [is_, hk])⟩

/-- A slice of slices of numbers. -/
def RdP (w : World) (A : Option Addr) (ps : List (List Int)) : Prop :=
  0 < ps.length → ∃ b o, A = some ⟨b, o, none⟩ ∧ b < w.heap.size ∧ ∀ k (hk : k < ps.length), ∃ A' c', w.cell? ⟨b, o + k, none⟩ = some (.slice A' (ps[k]).length c') ∧ Rd w A' (is_ ps[k])
theorem RdP.nil (w : World) (A : Option Addr) : RdP w A [] := fun h => absurd h (by simp)
theorem RdP.below {w w' : World} {A : Option Addr} {ps : List (List Int)} (h : RdP w A ps) (hb : Below w.heap.size w w') : RdP w' A ps := fun hp => by
  obtain ⟨b, o, rfl, hlt, hc⟩ := h hp
  refine ⟨b, o, rfl, Nat.lt_of_lt_of_le hlt hb.size, fun k hk => ?_⟩
  obtain ⟨A', c', h1, h2⟩ := hc k hk
  exact ⟨A', c', (hb.cell (p := ⟨b, o + k, none⟩) hlt).trans h1, h2.below hb⟩
theorem RdP.drewN {w : World} {A : Option Addr} {ps : List (List Int)} (h : RdP w A ps) (n : Nat) : RdP (w.drewN n) A ps := h
theorem RdP.alloc {w : World} {A : Option Addr} {ps : List (List Int)} (h : RdP w A ps) (o : Obj) : RdP (w.alloc o) A ps := h.below ((Below.refl _ _).alloc (Nat.le_refl _) o)
end Go.Proofs.YtmagokkegadmiaaDoor
namespace Go.Proofs.YtmagokkegadmiaaDoor
open Go.RowKit

theorem all_no {p : UInt8 → Bool} {l : List UInt8} {k : Nat} (hk : k < l.length) (h : p l[k] = false) : l.all p = false := by
  rw [List.all_eq_false]
  exact ⟨_, List.getElem_mem hk, by simp [h]⟩
/-- A parameter may be. -/
def partB (p : List Int) : Bool := decide (1 ≤ p.length) && decide (p.length ≤ 8) && p.all fun n => decide (-1 ≤ n) && decide (n ≤ 1114111)
theorem parOk_eq (l : List (List Int)) : parOk l = (decide (l.length ≤ 16) && decide (l ≠ [[-1]]) && l.all partB) := rfl
theorem par_long {l : List (List Int)} (h : 16 < l.length) : parOk l = false := by rw [parOk_eq, decide_eq_false (by omega)]; rfl
theorem par_no {l : List (List Int)} {k : Nat} (hk : k < l.length) (h : partB l[k] = false) : parOk l = false := by
  rw [parOk_eq, show l.all partB = false from List.all_eq_false.2 ⟨_, List.getElem_mem hk, by simp [h]⟩, Bool.and_false]
theorem part_len {p : List Int} (h : ¬ (1 ≤ p.length ∧ p.length ≤ 8)) : partB p = false := by
  unfold partB
  by_cases h1 : 1 ≤ p.length
  · rw [decide_eq_false (p := p.length ≤ 8) (by omega), Bool.and_false, Bool.false_and]
  · rw [decide_eq_false h1, Bool.false_and, Bool.false_and]
def numOk (n : Int) : Bool := decide (-1 ≤ n) && decide (n ≤ 1114111)
theorem partB_yes {p : List Int} (h1 : 1 ≤ p.length) (h2 : p.length ≤ 8) (h : p.all numOk = true) : partB p = true := by
  unfold partB
  rw [decide_eq_true h1, decide_eq_true h2]
  exact h
theorem parOk_yes {l : List (List Int)} (h : l.length ≤ 16) (h1 : l ≠ [[-1]]) (h2 : l.all partB = true) : parOk l = true := by
  rw [parOk_eq, decide_eq_true h, decide_eq_true h1, h2]; rfl
theorem numOk_iff (n : Int) : numOk n = true ↔ -1 ≤ n ∧ n ≤ 1114111 := by simp [numOk]
end Go.Proofs.YtmagokkegadmiaaDoor
namespace Go.Proofs.YtmagokkegadmiaaDoor
open Go.RowKit

/-- A sequence as a value; that it reads so. -/
def sqV (s : Sq) (A : Option Addr) (c : Nat) : Value := .agg #[.int .i64 s.kind, .int .u8 (s.priv.toNat : Int), .slice A s.params.length c, .string ⟨s.inter.toArray⟩, .int .u8 (s.final.toNat : Int), .string ⟨s.data.toArray⟩]
theorem last_q {s : Sq} {q : Bool} (hq : lastOk s = q) : (s.kind = 1 ∨ s.kind = 2 ∨ s.kind = 3 → q = (decide (64 ≤ s.final.toNat) && decide (s.final.toNat ≤ 126))) ∧
    (s.kind = 5 → (s.final.toNat < 48 ∨ 126 < s.final.toNat → q = false) ∧ (48 ≤ s.final.toNat → s.final.toNat ≤ 126 → (s.inter ≠ [] → q = true) ∧
      (s.inter = [] → q = !([79, 80, 88, 91, 93, 92, 94, 95] : List Nat).contains s.final.toNat))) ∧
    (s.kind = 4 → q = decide (s.final.toNat = 0)) ∧ (¬ (s.kind = 1 ∨ s.kind = 2 ∨ s.kind = 3 ∨ s.kind = 4 ∨ s.kind = 5) → q = false) := by
  subst hq
  refine ⟨fun h => ?_, fun h => ⟨fun h1 => ?_, fun h1 h2 => ⟨fun h3 => ?_, fun h3 => ?_⟩⟩, fun h => ?_, fun h => ?_⟩
  · unfold lastOk; rw [if_pos h]; rfl
  · unfold lastOk; rw [if_neg (by omega), if_pos h, (btw_no 48 126 _).2 (by omega), Bool.false_and]
  · unfold lastOk; rw [if_neg (by omega), if_pos h, (btw_iff 48 126 _).2 ⟨h1, h2⟩, decide_eq_true h3]; rfl
  · unfold lastOk; rw [if_neg (by omega), if_pos h, (btw_iff 48 126 _).2 ⟨h1, h2⟩, decide_eq_false (by simpa using h3), Bool.false_or, Bool.true_and]
    congr 1
    rw [Bool.eq_iff_iff]
    simp [← UInt8.toNat_inj]
  · unfold lastOk; rw [if_neg (by omega), if_neg (by omega), decide_eq_true h, Bool.true_and]
    rw [Bool.eq_iff_iff]
    simp [← UInt8.toNat_inj]
  · unfold lastOk; rw [if_neg (by omega), if_neg (by omega), decide_eq_false (by omega)]; rfl
end Go.Proofs.YtmagokkegadmiaaDoor
namespace Go.Proofs.YtmagokkegadmiaaDoor

structure Ro where
  first : Int
  last : Int
  kind : Int
  finals : List UInt8
  nums : List Int
  chars : List UInt8
  keys : Bool
deriving DecidableEq
def roL : List Ro := [
  ⟨9, 9, 2, [], [], [], false⟩, ⟨13, 13, 2, [], [], [], false⟩, ⟨27, 27, 2, [], [], [], false⟩, ⟨127, 127, 2, [], [], [], false⟩,
  ⟨57350, 57353, 3, [68, 67, 65, 66], [], [], false⟩, ⟨57356, 57357, 3, [72, 70], [], [], false⟩, ⟨57364, 57367, 3, [80, 81, 82, 83], [], [], false⟩,
  ⟨57348, 57349, 4, [], [2, 3], [], false⟩, ⟨57354, 57355, 4, [], [5, 6], [], false⟩, ⟨57368, 57375, 4, [], [15, 17, 18, 19, 20, 21, 23, 24], [], false⟩, ⟨57363, 57363, 4, [], [29], [], false⟩,
  ⟨57399, 57408, 5, [112, 113, 114, 115, 116, 117, 118, 119, 120, 121], [], [48, 49, 50, 51, 52, 53, 54, 55, 56, 57], true⟩,
  ⟨57409, 57416, 5, [110, 111, 106, 109, 107, 77, 88, 108], [], [46, 47, 42, 45, 43, 13, 61, 44], true⟩,
  ⟨57417, 57420, 3, [68, 67, 65, 66], [], [], true⟩, ⟨57423, 57424, 3, [72, 70], [], [], true⟩, ⟨57427, 57427, 3, [69], [], [], true⟩,
  ⟨57421, 57422, 4, [], [5, 6], [], true⟩, ⟨57425, 57426, 4, [], [2, 3], [], true⟩,
  ⟨57358, 57362, 6, [], [], [], false⟩, ⟨57376, 57398, 6, [], [], [], false⟩, ⟨57428, 57440, 6, [], [], [], false⟩, ⟨57441, 57454, 7, [], [], [], false⟩]
theorem roL_len : roL.length = 22 := rfl
/-- A byte of a text, or nought behind its end. -/
def byL (l : List UInt8) (a : Nat) : Int := ((l.getD a 0).toNat : Int)
def entK (r : Ro) (a : Nat) : En := ⟨r.kind, byL r.finals a, r.nums.getD a 0, byL r.chars a, r.keys⟩
def inRo (c : Int) (r : Ro) : Bool := decide (r.first ≤ c) && decide (c ≤ r.last)
theorem inRo_iff (c : Int) (r : Ro) : inRo c r = true ↔ r.first ≤ c ∧ c ≤ r.last := by simp [inRo]
theorem inRo_no {c : Int} {r : Ro} (h : ¬ (r.first ≤ c ∧ c ≤ r.last)) : inRo c r = false := by
  cases e : inRo c r with
  | false => rfl
  | true => exact absurd ((inRo_iff c r).1 e) h
def txK (c : Int) : Bool := !(decide (c < 32) || decide (127 ≤ c) && decide (c ≤ 159)) && !(decide (57344 ≤ c) && decide (c ≤ 63743)) && isPtK c
def lookP (c : Int) : En := match roL.find? (inRo c) with
  | some r => entK r (c - r.first).toNat
  | none => if txK c then ⟨1, 0, 0, 0, false⟩ else ⟨0, 0, 0, 0, false⟩
theorem ro_all : ∀ r ∈ roL, (r.first = r.last ∧ (r.first = 9 ∨ r.first = 13 ∨ r.first = 27 ∨ r.first = 127)) ∨ (57344 ≤ r.first ∧ r.last < 57455) := by decide +kernel
theorem ro_bd : ∀ r ∈ roL, (0 ≤ r.first ∧ r.first ≤ r.last ∧ r.last ≤ 60000) ∧ (r.finals.length ≤ 100 ∧ r.nums.length ≤ 100 ∧ r.chars.length ≤ 100) := by decide +kernel
theorem look_in : ∀ k : Fin 111, lookP (57344 + k.1) = lookE (57344 + k.1) := by decide +kernel
theorem look_nil {c : Int} (h : c < 57344 ∨ 57455 ≤ c) (h9 : c ≠ 9) (h13 : c ≠ 13) (h27 : c ≠ 27) (h127 : c ≠ 127) : roL.find? (inRo c) = none := by
  rw [List.find?_eq_none]
  intro r hr hi
  have h1 := (inRo_iff c r).1 hi
  rcases ro_all r hr with ⟨e, e2⟩ | ⟨e, e2⟩ <;> omega
theorem txK_rest {c : Int} (h : c < 57344 ∨ 57455 ≤ c) (h9 : c ≠ 9) (h13 : c ≠ 13) (h27 : c ≠ 27) (h127 : c ≠ 127) : restN c = if txK c then 1 else 0 := by
  unfold restN txK
  rw [if_neg (by omega), if_neg (by omega), if_neg (by omega)]
  cases e : isPtK c with
  | false => simp
  | true =>
    by_cases h1 : c < 32 ∨ 127 ≤ c ∧ c ≤ 159 ∨ 57344 ≤ c ∧ c ≤ 63743
    · rw [if_pos (.inr h1), if_neg]
      simp
      omega
    · rw [if_neg (by simp; omega), if_pos]
      simp
      omega
theorem lookP_eq (c : Int) : lookP c = lookE c := by
  by_cases h : c < 57344 ∨ 57455 ≤ c
  · by_cases h9 : c = 9
    · subst h9; decide +kernel
    by_cases h13 : c = 13
    · subst h13; decide +kernel
    by_cases h27 : c = 27
    · subst h27; decide +kernel
    by_cases h127 : c = 127
    · subst h127; decide +kernel
    unfold lookP
    rw [look_nil h h9 h13 h27 h127, look_out h, txK_rest h h9 h13 h27 h127]
    cases txK c <;> rfl
  · obtain ⟨k, rfl⟩ : ∃ k : Fin 111, c = 57344 + k.1 := ⟨⟨(c - 57344).toNat, by omega⟩, by simp; omega⟩
    exact look_in k

/-- The codes of a row, from its place a on. -/
def inRow (r : Ro) (a : Nat) : List (Int × En) := (List.range ((r.last - r.first + 1).toNat - a)).map fun j => (r.first + ((a + j : Nat) : Int), entK r (a + j))
theorem inRow_cons {r : Ro} {a : Nat} (h : r.first + (a : Int) ≤ r.last) : inRow r a = (r.first + (a : Int), entK r a) :: inRow r (a + 1) := by
  unfold inRow
  rw [show (r.last - r.first + 1).toNat - a = ((r.last - r.first + 1).toNat - (a + 1)) + 1 by omega, List.range_succ_eq_map, List.map_cons, List.map_map]
  congr 1
  apply List.map_congr_left
  intro j _
  simp only [Function.comp, Nat.succ_eq_add_one]
  rw [show a + (j + 1) = a + 1 + j by omega]
theorem inRow_nil {r : Ro} {a : Nat} (h : r.last < r.first + (a : Int)) : inRow r a = [] := by
  unfold inRow
  rw [show (r.last - r.first + 1).toNat - a = 0 by omega]
  rfl
def fromRo (rs : List Ro) : List (Int × En) := rs.flatMap fun r => inRow r 0
def codesL : List (Int × En) := fromRo roL
theorem from_drop {k : Nat} (h : k < roL.length) : fromRo (roL.drop k) = inRow roL[k] 0 ++ fromRo (roL.drop (k + 1)) := by
  rw [List.drop_eq_getElem_cons h]
  rfl
/-- The form that is looked for. -/
def formK (f n : Int) : En := if f = 126 then ⟨4, 0, n, 0, false⟩ else ⟨3, f, 0, 0, false⟩
def isFm (f n : Int) (x : Int × En) : Bool := decide (x.2 = formK f n)
def foundP (f n : Int) : Int × Bool := match codesL.find? (isFm f n) with
  | some x => (x.1, true)
  | none => (0, false)
theorem codes_look : ∀ x ∈ codesL, x.2 = lookE x.1 := by decide +kernel
theorem codes_has : ∀ k : Fin 55, ((lookE (57344 + k.1)).kind = 3 ∨ (lookE (57344 + k.1)).kind = 4) → ((57344 + (k.1 : Int), lookE (57344 + k.1)) ∈ codesL) := by decide +kernel
theorem kinds_zero : ∀ k : Fin 55, ((lookE (57344 + k.1)).kind = 3 → (lookE (57344 + k.1)).num = 0 ∧ (lookE (57344 + k.1)).char = 0) ∧ ((lookE (57344 + k.1)).kind = 4 → (lookE (57344 + k.1)).fin = 0 ∧ (lookE (57344 + k.1)).char = 0) := by decide +kernel
theorem find_num {f : Int} (h : f ≠ 126) (n m : Int) : findE f n = findE f m := by
  have hh : ∀ c, hasE f n c = hasE f m c := fun c => by
    unfold hasE
    rw [show (f == 126) = false from beq_false_of_ne h]
    simp
  unfold findE
  generalize 55 = k
  generalize (57344 : Int) = c
  induction k generalizing c with
  | zero => rfl
  | succ k ih =>
    unfold findK
    rw [hh, ih]
theorem foundP_eq (f n : Int) : foundP f n = findE f n := by
  unfold foundP
  cases e : codesL.find? (isFm f n) with
  | some x =>
    have h1 := codes_look x (List.mem_of_find?_eq_some e)
    have h2 : x.2 = formK f n := of_decide_eq_true (show isFm f n x = true from List.find?_some (p := isFm f n) e)
    obtain ⟨c, y⟩ := x
    simp only at h1 h2
    show (c, true) = _
    rw [h1] at h2
    unfold formK at h2
    by_cases hf : f = 126
    · rw [if_pos hf] at h2
      have := main_found (c := c) (by rw [h2]; exact .inr rfl) (by rw [h2])
      rw [h2] at this
      simp at this
      rw [hf, this]
    · rw [if_neg hf] at h2
      have := main_found (c := c) (by rw [h2]; exact .inl rfl) (by rw [h2])
      rw [h2] at this
      simp at this
      rw [find_num hf n 0, this]
  | none =>
    have hno := List.find?_eq_none.1 e
    cases h2 : (findE f n).2 with
    | false =>
      have := (find_none f n 55 57344 h2).1
      show ((0 : Int), false) = _
      rw [show findE f n = ((findE f n).1, (findE f n).2) from rfl, h2]
      rw [show (findE f n).1 = 0 from this]
    | true =>
      exfalso
      obtain ⟨g1, g2⟩ := found_right h2
      obtain ⟨_, r1, r2⟩ := find_hit f n 55 57344 h2
      have hb : 57344 ≤ (findE f n).1 ∧ (findE f n).1 < 57344 + 55 := ⟨r1, r2⟩
      obtain ⟨c, hc⟩ : ∃ c, (findE f n).1 = c := ⟨_, rfl⟩
      rw [hc] at g1 g2 hb
      obtain ⟨k, rfl⟩ : ∃ k : Fin 55, c = 57344 + k.1 := ⟨⟨(c - 57344).toNat, by omega⟩, by simp; omega⟩
      obtain ⟨z3, z4⟩ := kinds_zero k
      have hm := codes_has k
      obtain ⟨E, hE⟩ : ∃ E, lookE (57344 + k.1) = E := ⟨_, rfl⟩
      unfold hasE at g1
      rw [hE] at g1 g2 z3 z4 hm
      obtain ⟨K, F, N, C, B⟩ := E
      simp only at g1 g2 z3 z4 hm
      simp only [Bool.or_eq_true, Bool.and_eq_true, beq_iff_eq] at g1
      subst g2
      rcases g1 with ⟨a1, a2⟩ | ⟨⟨a1, a2⟩, a3⟩
      · subst a1 a2
        obtain ⟨rfl, rfl⟩ := z3 rfl
        have hq := hno _ (hm (.inl rfl))
        apply hq
        unfold isFm formK
        rw [if_neg (by
          intro hf
          subst hf
          have : ∀ k : Fin 55, (lookE (57344 + k.1)).kind = 3 → (lookE (57344 + k.1)).fin ≠ 126 := by decide +kernel
          exact this k (by rw [hE]) (by rw [hE]))]
        simp
      · subst a1 a2 a3
        obtain ⟨rfl, rfl⟩ := z4 rfl
        have hq := hno _ (hm (.inr rfl))
        apply hq
        unfold isFm formK
        simp
end Go.Proofs.YtmagokkegadmiaaDoor
namespace Go.Proofs.YtmagokkegadmiaaDoor
open Go.RowKit

theorem Tryd.intinfo : (Tryd.prog.info? 3).map (fun i => (i.zero, i.size, i.bytes)) = some (some (.int .i64 0), 1, 8) := by kernel_rfl

/-- What All answers. -/
def Al (o : Option (List Int)) (w : World) (e : Ending) (w' : World) : Prop :=
  match o with
  | some k => ∃ A c, e = .returned (.tuple #[.slice A k.length c, .bool true]) ∧ Rd w' A (is_ k) ∧ Below w.heap.size w w'
  | none => e = .returned (.tuple #[.slice none 0 0, .bool false]) ∧ Below w.heap.size w w'
theorem Al.yes {o : Option (List Int)} {k : List Int} {n : Nat} (h : o = some k) (hn : k.length = n) {w w' : World} {A : Option Addr} {c : Nat} (hr : Rd w' A (is_ k)) (hb : Below w.heap.size w w') : Al o w (.returned (.tuple #[.slice A n c, .bool true])) w' := by
  subst h hn
  exact ⟨A, c, rfl, hr, hb⟩
theorem Al.no {o : Option (List Int)} (h : o = none) {w w' : World} (hb : Below w.heap.size w w') : Al o w (.returned (.tuple #[.slice none 0 0, .bool false])) w' := by
  subst h
  exact ⟨rfl, hb⟩
/-- The same, with the row that it made. -/
def AlO (o : Option (List Int)) (w : World) (e : Ending) (w' : World) : Prop :=
  match o with
  | some k => ∃ v, e = .returned (.tuple #[v, .bool true]) ∧ Own w' w.heap.size 3 1 v k.length (is_ k) ∧ Below w.heap.size w w'
  | none => e = .returned (.tuple #[.slice none 0 0, .bool false]) ∧ Below w.heap.size w w'
theorem AlO.yes {o : Option (List Int)} {k : List Int} (h : o = some k) {w w' : World} {v : Value} (hr : Own w' w.heap.size 3 1 v k.length (is_ k)) (hb : Below w.heap.size w w') : AlO o w (.returned (.tuple #[v, .bool true])) w' := by
  subst h
  exact ⟨v, rfl, hr, hb⟩
theorem AlO.no {o : Option (List Int)} (h : o = none) {w w' : World} (hb : Below w.heap.size w w') : AlO o w (.returned (.tuple #[.slice none 0 0, .bool false])) w' := by
  subst h
  exact ⟨rfl, hb⟩
theorem AlO.al {o : Option (List Int)} {w w' : World} {e : Ending} (h : AlO o w e w') : Al o w e w' := by
  cases o with
  | none => exact h
  | some k =>
    obtain ⟨v, rfl, ho, hb⟩ := h
    obtain ⟨A, c, rfl, hr⟩ := ho.form
    exact ⟨A, c, rfl, hr, hb⟩
end Go.Proofs.YtmagokkegadmiaaDoor
namespace Go.Proofs.YtmagokkegadmiaaDoor

/-- How sequences of a kind stand as bytes. -/
structure Fm where
  letter : List UInt8
  body : Bool
  inter : Bool
  first : UInt8
  en : List UInt8
def formF (k : Int) : Fm :=
  if k = 1 then ⟨[91], true, true, 64, []⟩ else if k = 2 then ⟨[79], false, false, 64, []⟩ else if k = 3 then ⟨[80], true, true, 64, [27, 92]⟩
  else if k = 4 then ⟨[93], false, false, 0, [27, 92]⟩ else if k = 5 then ⟨[], false, true, 48, []⟩ else ⟨[], false, false, 0, []⟩

/-- What is read behind the letter, ahead of the end; and what is left. -/
def rd1 (f : Fm) (r : List UInt8) : UInt8 × List UInt8 := if f.body = true then (oneF 60 63 r, r.drop (runF 60 63 1 r).length) else (0, r)
def rd2 (f : Fm) (r : List UInt8) : List (List Int) × List UInt8 := if f.body = true then paramsF r else ([], r)
def rd3 (f : Fm) (r : List UInt8) : List UInt8 × List UInt8 := if f.inter = true then (runF 32 47 2 r, r.drop (runF 32 47 2 r).length) else ([], r)
def rd4 (f : Fm) (r : List UInt8) : UInt8 × List UInt8 := if f.first = 0 then (0, r) else (oneF f.first.toNat 126 r, r.drop (runF f.first.toNat 126 1 r).length)
def rd5 (f : Fm) (r : List UInt8) : List UInt8 × List UInt8 := if f.en = [] then ([], r) else (runF 32 126 4096 r, r.drop (runF 32 126 4096 r).length)
def readF (k : Int) (r : List UInt8) : Sq × List UInt8 :=
  let f := formF k
  let x1 := rd1 f r
  let x2 := rd2 f x1.2
  let x3 := rd3 f x2.2
  let x4 := rd4 f x3.2
  let x5 := rd5 f x4.2
  (⟨k, x1.1, x2.1, x3.1, x4.1, x5.1⟩, x5.2)
theorem rd1_app (f : Fm) (r : List UInt8) : r = privL (rd1 f r).1 ++ (rd1 f r).2 := by
  unfold rd1
  split
  · dsimp only; rw [← one_run 60 63 r (by omega)]; exact runF_drop _ _ _ _
  · rfl
theorem rd2_app (f : Fm) (r : List UInt8) : r = parL (rd2 f r).1 ++ (rd2 f r).2 := by
  unfold rd2
  split
  · exact (paramsF_app r).1
  · rfl
theorem rd3_app (f : Fm) (r : List UInt8) : r = (rd3 f r).1 ++ (rd3 f r).2 := by
  unfold rd3
  split
  · exact runF_drop _ _ _ _
  · rfl
theorem rd4_app (f : Fm) (hf : f.first = 0 ∨ 1 ≤ f.first.toNat) (r : List UInt8) : r = privL (rd4 f r).1 ++ (rd4 f r).2 := by
  unfold rd4
  split
  · rfl
  · rename_i h; dsimp only; rw [← one_run _ 126 r (hf.resolve_left h)]; exact runF_drop _ _ _ _
theorem rd5_app (f : Fm) (r : List UInt8) : r = (rd5 f r).1 ++ (rd5 f r).2 := by
  unfold rd5
  split
  · rfl
  · exact runF_drop _ _ _ _

/-- The reader: the first kind whose beginning stands there. -/
def kindF (b : List UInt8) : Int := if skipB [27, 91] b = true then 1 else if skipB [27, 79] b = true then 2 else if skipB [27, 80] b = true then 3 else if skipB [27, 93] b = true then 4 else if skipB [27] b = true then 5 else 0
def headF (k : Int) : List UInt8 := 27 :: (formF k).letter
def endF (k : Int) (x : Sq × List UInt8) : Option (Sq × List UInt8) := if skipB (formF k).en x.2 = true ∧ mayS x.1 = 0 then some (x.1, x.2.drop (formF k).en.length) else none
def progF (b : List UInt8) : Option (Sq × List UInt8) := if kindF b = 0 then none else endF (kindF b) (readF (kindF b) (b.drop (headF (kindF b)).length))

theorem kind_cases (b : List UInt8) : kindF b = 0 ∨ ((kindF b = 1 ∨ kindF b = 2 ∨ kindF b = 3 ∨ kindF b = 4 ∨ kindF b = 5) ∧ skipB (headF (kindF b)) b = true) := by
  unfold kindF
  (repeat' split) <;> first | exact .inl rfl | (right; exact ⟨by omega, by assumption⟩)

theorem read_sound (k : Int) (hk : k = 1 ∨ k = 2 ∨ k = 3 ∨ k = 4 ∨ k = 5) (r : List UInt8) (s : Sq) (t : List UInt8) (h : endF k (readF k r) = some (s, t)) : mayS s = 0 ∧ headF k ++ r = putS s ++ t := by
  unfold endF at h
  split at h
  · rename_i hc
    obtain ⟨h1, h2⟩ := hc
    simp only [Option.some.injEq, Prod.mk.injEq] at h
    obtain ⟨rfl, rfl⟩ := h
    refine ⟨h2, ?_⟩
    obtain ⟨_, _, _, _, _, _, hl, hb⟩ := ok_parts h2
    have a1 := rd1_app (formF k) r
    have a2 := rd2_app (formF k) (rd1 (formF k) r).2
    have a3 := rd3_app (formF k) (rd2 (formF k) (rd1 (formF k) r).2).2
    have a4 := rd4_app (formF k) (by rcases hk with rfl | rfl | rfl | rfl | rfl <;> decide) (rd3 (formF k) (rd2 (formF k) (rd1 (formF k) r).2).2).2
    have a5 := rd5_app (formF k) (rd4 (formF k) (rd3 (formF k) (rd2 (formF k) (rd1 (formF k) r).2).2).2).2
    have a6 := skipB_some h1
    unfold readF at *
    dsimp only at *
    generalize hx1 : rd1 (formF k) r = x1 at *
    generalize hx2 : rd2 (formF k) x1.2 = x2 at *
    generalize hx3 : rd3 (formF k) x2.2 = x3 at *
    generalize hx4 : rd4 (formF k) x3.2 = x4 at *
    generalize hx5 : rd5 (formF k) x4.2 = x5 at *
    have a : r = privL x1.1 ++ (parL x2.1 ++ (x3.1 ++ (privL x4.1 ++ (x5.1 ++ ((formF k).en ++ x5.2.drop (formF k).en.length))))) := by
      rw [← a6, ← a5, ← a4, ← a3, ← a2, ← a1]
    have hne : ∀ n : Nat, 1 ≤ n → btw n 126 x4.1 = true → privL x4.1 = [x4.1] := fun n hn h => by
      unfold privL
      rw [if_neg]
      intro e
      rw [e, btw_iff] at h
      simp at h
      omega
    rw [a]
    rcases hk with rfl | rfl | rfl | rfl | rfl
    · have hf : btw 64 126 x4.1 = true := by simpa [lastOk] using hl
      rw [hne 64 (by omega) hf]
      have e5 : x5.1 = [] := by rw [← hx5]; rfl
      rw [e5]
      simp [headF, formF, putS, bodyL]
    · have hf : btw 64 126 x4.1 = true := by simpa [lastOk] using hl
      rw [hne 64 (by omega) hf]
      have e1 : x1.1 = 0 := by rw [← hx1]; rfl
      have e2 : x2.1 = [] := by rw [← hx2]; rfl
      have e3 : x3.1 = [] := by rw [← hx3]; rfl
      have e5 : x5.1 = [] := by rw [← hx5]; rfl
      rw [e1, e2, e3, e5]
      simp [headF, formF, putS, privL, parL]
    · have hf : btw 64 126 x4.1 = true := by simpa [lastOk] using hl
      rw [hne 64 (by omega) hf]
      simp [headF, formF, putS, bodyL]
    · have e1 : x1.1 = 0 := by rw [← hx1]; rfl
      have e2 : x2.1 = [] := by rw [← hx2]; rfl
      have e3 : x3.1 = [] := by rw [← hx3]; rfl
      have e4 : x4.1 = 0 := by rw [← hx4]; rfl
      rw [e1, e2, e3, e4]
      simp [headF, formF, putS, privL, parL]
    · have hf : btw 48 126 x4.1 = true := by simp [lastOk] at hl; exact hl.1
      rw [hne 48 (by omega) hf]
      have e1 : x1.1 = 0 := by rw [← hx1]; rfl
      have e2 : x2.1 = [] := by rw [← hx2]; rfl
      have e5 : x5.1 = [] := by rw [← hx5]; rfl
      rw [e1, e2, e5]
      simp [headF, formF, putS, privL, parL]
  · cases h

theorem runF_full (a b : Nat) (t r : List UInt8) (ht : ∀ c ∈ t, btw a b c = true) : runF a b t.length (t ++ r) = t := by
  unfold runF
  rw [List.take_left]
  have := tw_app (btw a b) t [] ht rfl
  rwa [List.append_nil] at this
theorem runF_none (a b m : Nat) (r : List UInt8) (h : r.head?.any (btw a b) = false) : runF a b m r = [] := by
  have := runF_put a b m [] r (fun c hc => by cases hc) (by simp) h
  exact this
theorem runF_end {a b m k : Nat} {r : List UInt8} (hk : k ≤ r.length) (hm : k ≤ m) (ha : (r.take k).all (btw a b) = true) (hs : k = m ∨ k = r.length ∨ ∃ h : k < r.length, btw a b r[k] = false) : runF a b m r = r.take k := by
  have hl : (r.take k).length = k := by rw [List.length_take]; omega
  have ha' : ∀ c ∈ r.take k, btw a b c = true := List.all_eq_true.1 ha
  conv => lhs; rw [← List.take_append_drop k r]
  rcases hs with rfl | rfl | ⟨h, hb⟩
  · have := runF_full a b (r.take k) (r.drop k) ha'
    rwa [hl] at this
  · exact runF_put a b m _ _ ha' (by omega) (by simp)
  · refine runF_put a b m _ _ ha' (by omega) ?_
    rw [List.drop_eq_getElem_cons h]
    exact hb
theorem rd1_put (f : Fm) (pv : UInt8) (r : List UInt8) (hb : f.body = true) (hv : privOk pv = true) (hr : r.head?.any (btw 60 63) = false) : rd1 f (privL pv ++ r) = (pv, r) := by
  unfold rd1
  rw [if_pos hb]
  by_cases h0 : pv = 0
  · subst h0
    have e := runF_none 60 63 1 r hr
    rw [show privL 0 ++ r = r from rfl]
    unfold oneF
    rw [e]
    rfl
  · have hb : btw 60 63 pv = true := by
      simp only [privOk, Bool.or_eq_true, decide_eq_true_eq] at hv
      exact hv.resolve_left h0
    have e := runF_full 60 63 [pv] r (fun c hc => by rw [List.mem_singleton] at hc; subst hc; exact hb)
    rw [show privL pv = [pv] from if_neg h0]
    unfold oneF
    rw [show ([pv] : List UInt8).length = 1 from rfl] at e
    rw [e]
    rfl
theorem rd4_put (f : Fm) (x : UInt8) (r : List UInt8) (hf : f.first ≠ 0) (hx : btw f.first.toNat 126 x = true) : rd4 f (x :: r) = (x, r) := by
  unfold rd4
  rw [if_neg hf]
  have e := runF_full f.first.toNat 126 [x] r (fun c hc => by rw [List.mem_singleton] at hc; subst hc; exact hx)
  rw [show ([x] : List UInt8).length = 1 from rfl] at e
  unfold oneF
  rw [show [x] ++ r = x :: r from rfl] at e
  rw [e]
  rfl
theorem rd3_put (f : Fm) (it r : List UInt8) (hb : f.inter = true) (hi : ∀ c ∈ it, btw 32 47 c = true) (hl : it.length ≤ 2) (hr : r.head?.any (btw 32 47) = false) : rd3 f (it ++ r) = (it, r) := by
  unfold rd3
  rw [if_pos hb, runF_put 32 47 2 it r hi hl hr, List.drop_left]
theorem rd5_put (f : Fm) (d r : List UInt8) (hb : f.en ≠ []) (hi : ∀ c ∈ d, btw 32 126 c = true) (hl : d.length ≤ 4096) (hr : r.head?.any (btw 32 126) = false) : rd5 f (d ++ r) = (d, r) := by
  unfold rd5
  rw [if_neg hb, runF_put 32 126 4096 d r hi hl hr, List.drop_left]
theorem head_off (it : List UInt8) (f : UInt8) (m : List UInt8) (n : Nat) (hi : ∀ c ∈ it, btw 32 47 c = true) (hf : btw n 126 f = true) (hn : 48 ≤ n) : (f :: m).head?.any (btw 32 47) = false ∧ (64 ≤ n → offP (it ++ (f :: m)) ∧ ∀ ps, (parL ps ++ (it ++ (f :: m))).head?.any (btw 60 63) = false) := by
  have h2 := (btw_iff _ _ _).1 hf
  refine ⟨?_, fun h64 => ⟨?_, fun ps => ?_⟩⟩
  · show btw 32 47 f = false
    rw [btw_no]; omega
  · unfold offP
    cases it with
    | nil => show btw 48 59 f = false; rw [btw_no]; omega
    | cons c it =>
      have := (btw_iff _ _ _).1 (hi c (List.mem_cons_self ..))
      show btw 48 59 c = false; rw [btw_no]; omega
  · cases hps : parL ps with
    | cons x xs =>
      have := (btw_iff _ _ _).1 (par_btw ps x (by rw [hps]; exact List.mem_cons_self ..))
      show btw 60 63 x = false; rw [btw_no]; omega
    | nil =>
      cases it with
      | nil => show btw 60 63 f = false; rw [btw_no]; omega
      | cons c it =>
        have := (btw_iff _ _ _).1 (hi c (List.mem_cons_self ..))
        show btw 60 63 c = false; rw [btw_no]; omega

theorem prog_put {s : Sq} (h : mayS s = 0) (m : List UInt8) : progF (putS s ++ m) = some (s, m) := by
  obtain ⟨hdl, hv, hp, hil, hi, hd, hl, hb⟩ := ok_parts h
  have hcases : s.kind = 1 ∨ s.kind = 2 ∨ s.kind = 3 ∨ s.kind = 4 ∨ s.kind = 5 := by
    unfold lastOk at hl
    split at hl
    · omega
    · split at hl
      · omega
      · simp only [Bool.and_eq_true, decide_eq_true_eq] at hl; omega
  have goal : ∀ (k : Int) (r : List UInt8), k ≠ 0 → kindF (putS s ++ m) = k → putS s ++ m = headF k ++ r → readF k r = (s, (formF k).en ++ m) → progF (putS s ++ m) = some (s, m) := by
    intro k r k0 hk e hr
    unfold progF
    rw [hk, if_neg k0, e, List.drop_left, hr]
    unfold endF
    dsimp only
    rw [if_pos ⟨skipB_app _ _, h⟩, List.drop_left]
  obtain ⟨k, pv, ps, it, f, d⟩ := s
  dsimp only at hv hp hi hd hcases hil hdl
  rcases hcases with rfl | rfl | rfl | rfl | rfl
  · have hf : btw 64 126 f = true := by simpa [lastOk] using hl
    have hd0 : d = [] := by simpa [bareOk] using hb
    subst hd0
    obtain ⟨o1, o2⟩ := head_off it f m 64 hi hf (by omega)
    obtain ⟨o2, o3⟩ := o2 (by omega)
    refine goal 1 (privL pv ++ (parL ps ++ (it ++ (f :: m)))) (by omega) ?_ ?_ ?_
    · rfl
    · simp [headF, formF, putS, bodyL]
    · unfold readF
      dsimp only
      rw [rd1_put _ pv _ rfl hv (o3 ps)]
      dsimp only
      rw [show rd2 (formF 1) (parL ps ++ (it ++ f :: m)) = paramsF (parL ps ++ (it ++ f :: m)) from rfl, paramsF_put ps _ hp o2]
      dsimp only
      rw [rd3_put _ it _ rfl hi hil o1]
      dsimp only
      rw [rd4_put (formF 1) f m (by decide) hf]
      rfl
  · have h1 : pv = 0 ∧ ps = [] ∧ it = [] ∧ d = [] := by
      simp [bareOk] at hb
      obtain ⟨⟨⟨a, b⟩, c⟩, e⟩ := hb
      exact ⟨a, b, c, e⟩
    obtain ⟨rfl, rfl, rfl, rfl⟩ := h1
    have hf : btw 64 126 f = true := by simpa [lastOk] using hl
    refine goal 2 (f :: m) (by omega) rfl rfl ?_
    unfold readF
    dsimp only
    rw [show rd1 (formF 2) (f :: m) = (0, f :: m) from rfl]
    dsimp only
    rw [show rd2 (formF 2) (f :: m) = ([], f :: m) from rfl]
    dsimp only
    rw [show rd3 (formF 2) (f :: m) = ([], f :: m) from rfl]
    dsimp only
    rw [rd4_put (formF 2) f m (by decide) hf]
    rfl
  · have hf : btw 64 126 f = true := by simpa [lastOk] using hl
    obtain ⟨o1, o2⟩ := head_off it f (d ++ (27 :: 92 :: m)) 64 hi hf (by omega)
    obtain ⟨o2, o3⟩ := o2 (by omega)
    refine goal 3 (privL pv ++ (parL ps ++ (it ++ (f :: (d ++ (27 :: 92 :: m)))))) (by omega) ?_ ?_ ?_
    · rfl
    · simp [headF, formF, putS, bodyL]
    · unfold readF
      dsimp only
      rw [rd1_put _ pv _ rfl hv (o3 ps)]
      dsimp only
      rw [show rd2 (formF 3) (parL ps ++ (it ++ f :: (d ++ 27 :: 92 :: m))) = paramsF (parL ps ++ (it ++ f :: (d ++ 27 :: 92 :: m))) from rfl, paramsF_put ps _ hp o2]
      dsimp only
      rw [rd3_put _ it _ rfl hi hil o1]
      dsimp only
      rw [rd4_put (formF 3) f _ (by decide) hf]
      dsimp only
      rw [rd5_put (formF 3) d (27 :: 92 :: m) (by decide) hd hdl rfl]
      rfl
  · have h1 : pv = 0 ∧ ps = [] ∧ it = [] := by
      simp [bareOk] at hb
      exact ⟨hb.1.1, hb.1.2, hb.2⟩
    have hf : f = 0 := by simpa [lastOk] using hl
    obtain ⟨rfl, rfl, rfl⟩ := h1
    subst hf
    refine goal 4 (d ++ (27 :: 92 :: m)) (by omega) ?_ ?_ ?_
    · rfl
    · simp [headF, formF, putS]
    · unfold readF
      dsimp only
      rw [show rd1 (formF 4) (d ++ (27 :: 92 :: m)) = (0, d ++ (27 :: 92 :: m)) from rfl]
      dsimp only
      rw [show rd2 (formF 4) (d ++ (27 :: 92 :: m)) = ([], d ++ (27 :: 92 :: m)) from rfl]
      dsimp only
      rw [show rd3 (formF 4) (d ++ (27 :: 92 :: m)) = ([], d ++ (27 :: 92 :: m)) from rfl]
      dsimp only
      rw [show rd4 (formF 4) (d ++ (27 :: 92 :: m)) = (0, d ++ (27 :: 92 :: m)) from rfl]
      dsimp only
      rw [rd5_put (formF 4) d (27 :: 92 :: m) (by decide) hd hdl rfl]
      rfl
  · have h1 : pv = 0 ∧ ps = [] ∧ d = [] := by
      simp [bareOk] at hb
      exact ⟨hb.1.1, hb.1.2, hb.2⟩
    obtain ⟨rfl, rfl, rfl⟩ := h1
    have hf : btw 48 126 f = true ∧ (it ≠ [] ∨ ¬ (f = 79 ∨ f = 80 ∨ f = 88 ∨ f = 91 ∨ f = 93 ∨ f = 92 ∨ f = 94 ∨ f = 95)) := by
      simp [lastOk] at hl
      refine ⟨hl.1, ?_⟩
      rcases hl.2 with h | h
      · exact .inl h
      · right
        intro hh
        rcases hh with rfl | rfl | rfl | rfl | rfl | rfl | rfl | rfl <;> simp at h
    obtain ⟨o1, _⟩ := head_off it f m 48 hi hf.1 (by omega)
    have hg : ∀ c1 r, it ++ (f :: m) = c1 :: r → c1 ≠ 79 ∧ c1 ≠ 93 ∧ c1 ≠ 91 ∧ c1 ≠ 80 := by
      intro c1 r e
      cases it with
      | cons x xs =>
        obtain rfl : x = c1 := by simpa using congrArg List.head? e
        have := (btw_iff _ _ _).1 (hi x (List.mem_cons_self ..))
        refine ⟨?_, ?_, ?_, ?_⟩ <;> (rintro rfl; simp at this)
      | nil =>
        obtain rfl : f = c1 := by simpa using congrArg List.head? e
        have := hf.2.resolve_left (by simp)
        refine ⟨?_, ?_, ?_, ?_⟩ <;> (intro h; exact this (by simp [h]))
    have e : putS ⟨5, 0, [], it, f, []⟩ ++ m = 27 :: (it ++ (f :: m)) := by simp [putS]
    refine goal 5 (it ++ (f :: m)) (by omega) ?_ ?_ ?_
    · rw [e]
      cases ht : it ++ (f :: m) with
      | nil => simp at ht
      | cons c1 r =>
        obtain ⟨g1, g2, g3, g4⟩ := hg c1 r ht
        have g : ∀ x : UInt8, c1 ≠ x → skipB [27, x] (27 :: c1 :: r) = false := fun x hx => by simp [skipB, List.isPrefixOf, Ne.symm hx]
        unfold kindF
        rw [g 91 g3, g 79 g1, g 80 g4, g 93 g2]
        rfl
    · rw [e]; rfl
    · unfold readF
      dsimp only
      rw [show rd1 (formF 5) (it ++ (f :: m)) = (0, it ++ (f :: m)) from rfl]
      dsimp only
      rw [show rd2 (formF 5) (it ++ (f :: m)) = ([], it ++ (f :: m)) from rfl]
      dsimp only
      rw [rd3_put _ it _ rfl hi hil o1]
      dsimp only
      rw [rd4_put (formF 5) f m (by decide) hf.1]
      rfl

theorem prog_yes {b : List UInt8} {s : Sq} {t : List UInt8} (h : progF b = some (s, t)) : mayS s = 0 ∧ b = putS s ++ t := by
  unfold progF at h
  split at h
  · cases h
  · rename_i h0
    obtain ⟨hk, hs⟩ := (kind_cases b).resolve_left h0
    obtain ⟨h1, h2⟩ := read_sound _ hk _ _ _ h
    exact ⟨h1, (skipB_some hs).trans h2⟩
theorem prog_some {b : List UInt8} {s : Sq} {n : Nat} (h : takeS b = some (s, n)) : progF b = some (s, b.drop n) ∧ n ≤ b.length := by
  obtain ⟨h1, h2, h3⟩ := takeS_some h
  refine ⟨?_, ?_⟩
  · conv => lhs; rw [h3]
    exact prog_put h1 _
  · have := congrArg List.length h3
    rw [List.length_append] at this
    omega
theorem prog_none {b : List UInt8} (h : takeS b = none) : progF b = none := by
  cases hp : progF b with
  | none => rfl
  | some x =>
    obtain ⟨s, t⟩ := x
    obtain ⟨h1, h2⟩ := prog_yes hp
    rw [h2, takeS_put h1] at h
    cases h
end Go.Proofs.YtmagokkegadmiaaDoor
