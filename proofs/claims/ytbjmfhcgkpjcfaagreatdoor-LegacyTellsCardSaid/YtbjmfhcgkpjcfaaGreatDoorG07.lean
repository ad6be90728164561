/-
  Lists of numbers, read in memory; the document's comparison of two of them. (For layers that don't load layer 2's own texts.) Cut out of LegK: what names no function of any dump. Cut out of LegA: what names no function of any dump. Cut out of WirP: what names no function of any dump. Cut out of WirQ: what names no function of any dump. Layer 9, the landed keys: mathematics: its rows, the codes of all rows one after the other, and what is found among them.
-/
import Derived.Test.YtbjmfhcgkpjcfaaGreatDoorG01
import Derived.Test.YtbjmfhcgkpjcfaaGreatDoorG02
import Derived.Test.YtbjmfhcgkpjcfaaGreatDoorG03
import Derived.Test.YtbjmfhcgkpjcfaaGreatDoorG04
import Derived.Test.YtbjmfhcgkpjcfaaGreatDoorG06
import Derived.BigQuiet
import Derived.Deep.QuietTactic
namespace Go.Proofs.YtbjmfhcgkpjcfaaGreatDoor
open Go.RowKit

/-- Numbers as values. -/
def is_ (l : List Int) : List Value := l.map (Value.int .i64)
theorem is_length (l : List Int) : (is_ l).length = l.length := by simp [is_]
theorem Rd.int_at {w : World} {A : Option Addr} {l : List Int} (h : Rd w A (is_ l)) (hp : 0 < l.length) :
    ∃ b o, A = some ⟨b, o, none⟩ ∧ b < w.heap.size ∧ ∀ k (hk : k < l.length), w.cell? ⟨b, o + k, none⟩ = some (.int .i64 l[k]) := by
  obtain ⟨b, o, rfl, hb, hc⟩ := h (by rw [is_length]; exact hp)
  exact ⟨b, o, rfl, hb, fun k hk => hc k _ (by simp [is_, hk])⟩

/-- A slice of slices of numbers. -/
def RdP (w : World) (A : Option Addr) (ps : List (List Int)) : Prop :=
  0 < ps.length → ∃ b o, A = some ⟨b, o, none⟩ ∧ b < w.heap.size ∧ ∀ k (hk : k < ps.length), ∃ A' c', w.cell? ⟨b, o + k, none⟩ = some (.slice A' (ps[k]).length c') ∧ Rd w A' (is_ ps[k])
theorem RdP.nil (w : World) (A : Option Addr) : RdP w A [] := fun h => absurd h (by simp)
theorem RdP.below {w w' : World} {A : Option Addr} {ps : List (List Int)} (h : RdP w A ps) (hb : Below w.heap.size w w') : RdP w' A ps := fun hp => by
  obtain ⟨b, o, rfl, hlt, hc⟩ := h hp
  refine ⟨b, o, rfl, Nat.lt_of_lt_of_le hlt hb.size, fun k hk => ?_⟩
  obtain ⟨A', c', h1, h2⟩ := hc k hk
  exact ⟨A', c', (hb.cell (p := ⟨b, o + k, none⟩) hlt).trans h1, h2.below hb⟩
theorem RdP.drewN {w : World} {A : Option Addr} {ps : List (List Int)} (h : RdP w A ps) (n : Nat) : RdP (w.drewN n) A ps := h
theorem RdP.alloc {w : World} {A : Option Addr} {ps : List (List Int)} (h : RdP w A ps) (o : Obj) : RdP (w.alloc o) A ps := h.below ((Below.refl _ _).alloc (Nat.le_refl _) o)
end Go.Proofs.YtbjmfhcgkpjcfaaGreatDoor
namespace Go.Proofs.YtbjmfhcgkpjcfaaGreatDoor
open Go.RowKit

def CharE (e : En) : Prop := (0 ≤ e.char ∧ e.char ≤ 255) ∧ (0 ≤ e.fin ∧ e.fin ≤ 255)
instance (e : En) : Decidable (CharE e) := by unfold CharE; infer_instance
theorem char_fin : ∀ k : Fin 111, CharE (lookE (57344 + (k.1 : Int))) := by decide +kernel
theorem char_e (c : Int) : CharE (lookE c) := by
  by_cases h : c < 57344 ∨ 57455 ≤ c
  · rw [look_out h]
    unfold CharE
    simp
  · obtain ⟨k, rfl⟩ : ∃ k : Fin 111, c = 57344 + k.1 := ⟨⟨(c - 57344).toNat, by omega⟩, by simp; omega⟩
    exact char_fin k
theorem shownG_len (code shift : Int) (s1 c4 : Bool) (t : List UInt8) : (shownG code shift s1 c4 t).length ≤ t.length + 4 := by
  unfold shownG
  split
  · omega
  · split
    · simp
    · have := putL_le (shownC code shift s1)
      omega
theorem tab_len : (seqB 1 90 []).length ≤ 4 := by decide +kernel
theorem plainG_len (m : Mo) (code : Int) (s1 c4 : Bool) : (plainG m code s1 c4).length ≤ 4 := by
  unfold plainG
  repeat' split
  all_goals first
    | exact tab_len
    | simp
end Go.Proofs.YtbjmfhcgkpjcfaaGreatDoor
namespace Go.Proofs.YtbjmfhcgkpjcfaaGreatDoor
open Go.RowKit

theorem out_is {L L' : List UInt8} {w w' : World} {e : Ending} (h : L = L') (ho : Out L' w e w') : Out L w e w' := h ▸ ho
theorem out_same {L : List UInt8} {w w' : World} {A : Option Addr} {n c : Nat} (hn : L.length = n) (hr : Rd w' A (bs L)) (hb : Below w.heap.size w w') : Out L w (.returned (.slice A n c)) w' := by
  subst hn
  exact ⟨A, c, rfl, hr, hb⟩
theorem out_one {w w1 : World} {t : TypeId} (x : Int) (h0 : 0 ≤ x) (h1 : x < 256) (hb : Below w.heap.size w w1) : Out [byt x] w (.returned (.slice (some ⟨w1.heap.size, 0, none⟩) 1 1)) (w1.alloc (.cells #[.int .u8 x] t)) :=
  ⟨_, _, rfl, Rd.block (heap_alloc_new w1 _) (by rw [bs1 x h0 h1]; rfl), hb.alloc hb.size _⟩
theorem text_full {s : ByteArray} (h : s.data.toList ≠ []) : s.toList.isEmpty = false := by
  rw [ByteArray.toList_eq]
  cases e : s.data.toList with
  | nil => exact absurd e h
  | cons => rfl
end Go.Proofs.YtbjmfhcgkpjcfaaGreatDoor
namespace Go.Proofs.YtbjmfhcgkpjcfaaGreatDoor
open Go.RowKit

theorem all_no {p : UInt8 → Bool} {l : List UInt8} {k : Nat} (hk : k < l.length) (h : p l[k] = false) : l.all p = false := by
  rw [List.all_eq_false]
  exact ⟨_, List.getElem_mem hk, by simp [h]⟩
/-- A parameter may be. -/
def partB (p : List Int) : Bool := decide (1 ≤ p.length) && decide (p.length ≤ 8) && p.all fun n => decide (-1 ≤ n) && decide (n ≤ 1114111)
theorem parOk_eq (l : List (List Int)) : parOk l = (decide (l.length ≤ 16) && decide (l ≠ [[-1]]) && l.all partB) := rfl
theorem par_long {l : List (List Int)} (h : 16 < l.length) : parOk l = false := by rw [parOk_eq, decide_eq_false (by omega)]; rfl
theorem par_no {l : List (List Int)} {k : Nat} (hk : k < l.length) (h : partB l[k] = false) : parOk l = false := by
  rw [parOk_eq, show l.all partB = false from List.all_eq_false.2 ⟨_, List.getElem_mem hk, by simp [h]⟩, Bool.and_false]
theorem part_len {p : List Int} (h : ¬ (1 ≤ p.length ∧ p.length ≤ 8)) : partB p = false := by
  unfold partB
  by_cases h1 : 1 ≤ p.length
  · rw [decide_eq_false (p := p.length ≤ 8) (by omega), Bool.and_false, Bool.false_and]
  · rw [decide_eq_false h1, Bool.false_and, Bool.false_and]
def numOk (n : Int) : Bool := decide (-1 ≤ n) && decide (n ≤ 1114111)
theorem partB_yes {p : List Int} (h1 : 1 ≤ p.length) (h2 : p.length ≤ 8) (h : p.all numOk = true) : partB p = true := by
  unfold partB
  rw [decide_eq_true h1, decide_eq_true h2]
  exact h
theorem parOk_yes {l : List (List Int)} (h : l.length ≤ 16) (h1 : l ≠ [[-1]]) (h2 : l.all partB = true) : parOk l = true := by
  rw [parOk_eq, decide_eq_true h, decide_eq_true h1, h2]; rfl
theorem numOk_iff (n : Int) : numOk n = true ↔ -1 ≤ n ∧ n ≤ 1114111 := by simp [numOk]
end Go.Proofs.YtbjmfhcgkpjcfaaGreatDoor
namespace Go.Proofs.YtbjmfhcgkpjcfaaGreatDoor
open Go.RowKit

/-- A sequence as a value; that it reads so. -/
def sqV (s : Sq) (A : Option Addr) (c : Nat) : Value := .agg #[.int .i64 s.kind, .int .u8 (s.priv.toNat : Int), .slice A s.params.length c, .string ⟨s.inter.toArray⟩, .int .u8 (s.final.toNat : Int), .string ⟨s.data.toArray⟩]
theorem last_q {s : Sq} {q : Bool} (hq : lastOk s = q) : (s.kind = 1 ∨ s.kind = 2 ∨ s.kind = 3 → q = (decide (64 ≤ s.final.toNat) && decide (s.final.toNat ≤ 126))) ∧
    (s.kind = 5 → (s.final.toNat < 48 ∨ 126 < s.final.toNat → q = false) ∧ (48 ≤ s.final.toNat → s.final.toNat ≤ 126 → (s.inter ≠ [] → q = true) ∧
      (s.inter = [] → q = !([79, 80, 88, 91, 93, 92, 94, 95] : List Nat).contains s.final.toNat))) ∧
    (s.kind = 4 → q = decide (s.final.toNat = 0)) ∧ (¬ (s.kind = 1 ∨ s.kind = 2 ∨ s.kind = 3 ∨ s.kind = 4 ∨ s.kind = 5) → q = false) := by
  subst hq
  refine ⟨fun h => ?_, fun h => ⟨fun h1 => ?_, fun h1 h2 => ⟨fun h3 => ?_, fun h3 => ?_⟩⟩, fun h => ?_, fun h => ?_⟩
  · unfold lastOk; rw [if_pos h]; rfl
  · unfold lastOk; rw [if_neg (by omega), if_pos h, (btw_no 48 126 _).2 (by omega), Bool.false_and]
  · unfold lastOk; rw [if_neg (by omega), if_pos h, (btw_iff 48 126 _).2 ⟨h1, h2⟩, decide_eq_true h3]; rfl
  · unfold lastOk; rw [if_neg (by omega), if_pos h, (btw_iff 48 126 _).2 ⟨h1, h2⟩, decide_eq_false (by simpa using h3), Bool.false_or, Bool.true_and]
    congr 1
    rw [Bool.eq_iff_iff]
    simp [← UInt8.toNat_inj]
  · unfold lastOk; rw [if_neg (by omega), if_neg (by omega), decide_eq_true h, Bool.true_and]
    rw [Bool.eq_iff_iff]
    simp [← UInt8.toNat_inj]
  · unfold lastOk; rw [if_neg (by omega), if_neg (by omega), decide_eq_false (by omega)]; rfl
end Go.Proofs.YtbjmfhcgkpjcfaaGreatDoor
namespace Go.Proofs.YtbjmfhcgkpjcfaaGreatDoor

structure Ro where
  first : Int
  last : Int
  kind : Int
  finals : List UInt8
  nums : List Int
  chars : List UInt8
  keys : Bool
deriving DecidableEq
def roL : List Ro := [
  ⟨9, 9, 2, [], [], [], false⟩, ⟨13, 13, 2, [], [], [], false⟩, ⟨27, 27, 2, [], [], [], false⟩, ⟨127, 127, 2, [], [], [], false⟩,
  ⟨57350, 57353, 3, [68, 67, 65, 66], [], [], false⟩, ⟨57356, 57357, 3, [72, 70], [], [], false⟩, ⟨57364, 57367, 3, [80, 81, 82, 83], [], [], false⟩,
  ⟨57348, 57349, 4, [], [2, 3], [], false⟩, ⟨57354, 57355, 4, [], [5, 6], [], false⟩, ⟨57368, 57375, 4, [], [15, 17, 18, 19, 20, 21, 23, 24], [], false⟩, ⟨57363, 57363, 4, [], [29], [], false⟩,
  ⟨57399, 57408, 5, [112, 113, 114, 115, 116, 117, 118, 119, 120, 121], [], [48, 49, 50, 51, 52, 53, 54, 55, 56, 57], true⟩,
  ⟨57409, 57416, 5, [110, 111, 106, 109, 107, 77, 88, 108], [], [46, 47, 42, 45, 43, 13, 61, 44], true⟩,
  ⟨57417, 57420, 3, [68, 67, 65, 66], [], [], true⟩, ⟨57423, 57424, 3, [72, 70], [], [], true⟩, ⟨57427, 57427, 3, [69], [], [], true⟩,
  ⟨57421, 57422, 4, [], [5, 6], [], true⟩, ⟨57425, 57426, 4, [], [2, 3], [], true⟩,
  ⟨57358, 57362, 6, [], [], [], false⟩, ⟨57376, 57398, 6, [], [], [], false⟩, ⟨57428, 57440, 6, [], [], [], false⟩, ⟨57441, 57454, 7, [], [], [], false⟩]
theorem roL_len : roL.length = 22 := rfl
/-- A byte of a text, or nought behind its end. -/
def byL (l : List UInt8) (a : Nat) : Int := ((l.getD a 0).toNat : Int)
def entK (r : Ro) (a : Nat) : En := ⟨r.kind, byL r.finals a, r.nums.getD a 0, byL r.chars a, r.keys⟩
def inRo (c : Int) (r : Ro) : Bool := decide (r.first ≤ c) && decide (c ≤ r.last)
theorem inRo_iff (c : Int) (r : Ro) : inRo c r = true ↔ r.first ≤ c ∧ c ≤ r.last := by simp [inRo]
theorem inRo_no {c : Int} {r : Ro} (h : ¬ (r.first ≤ c ∧ c ≤ r.last)) : inRo c r = false := by
  cases e : inRo c r with
  | false => rfl
  | true => exact absurd ((inRo_iff c r).1 e) h
def txK (c : Int) : Bool := !(decide (c < 32) || decide (127 ≤ c) && decide (c ≤ 159)) && !(decide (57344 ≤ c) && decide (c ≤ 63743)) && isPtK c
def lookP (c : Int) : En := match roL.find? (inRo c) with
  | some r => entK r (c - r.first).toNat
  | none => if txK c then ⟨1, 0, 0, 0, false⟩ else ⟨0, 0, 0, 0, false⟩
theorem ro_all : ∀ r ∈ roL, (r.first = r.last ∧ (r.first = 9 ∨ r.first = 13 ∨ r.first = 27 ∨ r.first = 127)) ∨ (57344 ≤ r.first ∧ r.last < 57455) := by decide +kernel
theorem ro_bd : ∀ r ∈ roL, (0 ≤ r.first ∧ r.first ≤ r.last ∧ r.last ≤ 60000) ∧ (r.finals.length ≤ 100 ∧ r.nums.length ≤ 100 ∧ r.chars.length ≤ 100) := by decide +kernel
theorem look_in : ∀ k : Fin 111, lookP (57344 + k.1) = lookE (57344 + k.1) := by decide +kernel
theorem look_nil {c : Int} (h : c < 57344 ∨ 57455 ≤ c) (h9 : c ≠ 9) (h13 : c ≠ 13) (h27 : c ≠ 27) (h127 : c ≠ 127) : roL.find? (inRo c) = none := by
  rw [List.find?_eq_none]
  intro r hr hi
  have h1 := (inRo_iff c r).1 hi
  rcases ro_all r hr with ⟨e, e2⟩ | ⟨e, e2⟩ <;> omega
theorem txK_rest {c : Int} (h : c < 57344 ∨ 57455 ≤ c) (h9 : c ≠ 9) (h13 : c ≠ 13) (h27 : c ≠ 27) (h127 : c ≠ 127) : restN c = if txK c then 1 else 0 := by
  unfold restN txK
  rw [if_neg (by omega), if_neg (by omega), if_neg (by omega)]
  cases e : isPtK c with
  | false => simp
  | true =>
    by_cases h1 : c < 32 ∨ 127 ≤ c ∧ c ≤ 159 ∨ 57344 ≤ c ∧ c ≤ 63743
    · rw [if_pos (.inr h1), if_neg]
      simp
      omega
    · rw [if_neg (by simp; omega), if_pos]
      simp
      omega
theorem lookP_eq (c : Int) : lookP c = lookE c := by
  by_cases h : c < 57344 ∨ 57455 ≤ c
  · by_cases h9 : c = 9
    · subst h9; decide +kernel
    by_cases h13 : c = 13
    · subst h13; decide +kernel
    by_cases h27 : c = 27
    · subst h27; decide +kernel
    by_cases h127 : c = 127
    · subst h127; decide +kernel
    unfold lookP
    rw [look_nil h h9 h13 h27 h127, look_out h, txK_rest h h9 h13 h27 h127]
    cases txK c <;> rfl
  · obtain ⟨k, rfl⟩ : ∃ k : Fin 111, c = 57344 + k.1 := ⟨⟨(c - 57344).toNat, by omega⟩, by simp; omega⟩
    exact look_in k

/-- The codes of a row, from its place a on. -/
def inRow (r : Ro) (a : Nat) : List (Int × En) := (List.range ((r.last - r.first + 1).toNat - a)).map fun j => (r.first + ((a + j : Nat) : Int), entK r (a + j))
theorem inRow_cons {r : Ro} {a : Nat} (h : r.first + (a : Int) ≤ r.last) : inRow r a = (r.first + (a : Int), entK r a) :: inRow r (a + 1) := by
  unfold inRow
  rw [show (r.last - r.first + 1).toNat - a = ((r.last - r.first + 1).toNat - (a + 1)) + 1 by omega, List.range_succ_eq_map, List.map_cons, List.map_map]
  congr 1
  apply List.map_congr_left
  intro j _
  simp only [Function.comp, Nat.succ_eq_add_one]
  rw [show a + (j + 1) = a + 1 + j by omega]
theorem inRow_nil {r : Ro} {a : Nat} (h : r.last < r.first + (a : Int)) : inRow r a = [] := by
  unfold inRow
  rw [show (r.last - r.first + 1).toNat - a = 0 by omega]
  rfl
def fromRo (rs : List Ro) : List (Int × En) := rs.flatMap fun r => inRow r 0
def codesL : List (Int × En) := fromRo roL
theorem from_drop {k : Nat} (h : k < roL.length) : fromRo (roL.drop k) = inRow roL[k] 0 ++ fromRo (roL.drop (k + 1)) := by
  rw [List.drop_eq_getElem_cons h]
  rfl
/-- The form that is looked for. -/
def formK (f n : Int) : En := if f = 126 then ⟨4, 0, n, 0, false⟩ else ⟨3, f, 0, 0, false⟩
def isFm (f n : Int) (x : Int × En) : Bool := decide (x.2 = formK f n)
def foundP (f n : Int) : Int × Bool := match codesL.find? (isFm f n) with
  | some x => (x.1, true)
  | none => (0, false)
theorem codes_look : ∀ x ∈ codesL, x.2 = lookE x.1 := by decide +kernel
theorem codes_has : ∀ k : Fin 55, ((lookE (57344 + k.1)).kind = 3 ∨ (lookE (57344 + k.1)).kind = 4) → ((57344 + (k.1 : Int), lookE (57344 + k.1)) ∈ codesL) := by decide +kernel
theorem kinds_zero : ∀ k : Fin 55, ((lookE (57344 + k.1)).kind = 3 → (lookE (57344 + k.1)).num = 0 ∧ (lookE (57344 + k.1)).char = 0) ∧ ((lookE (57344 + k.1)).kind = 4 → (lookE (57344 + k.1)).fin = 0 ∧ (lookE (57344 + k.1)).char = 0) := by decide +kernel
theorem find_num {f : Int} (h : f ≠ 126) (n m : Int) : findE f n = findE f m := by
  have hh : ∀ c, hasE f n c = hasE f m c := fun c => by
    unfold hasE
    rw [show (f == 126) = false from beq_false_of_ne h]
    simp
  unfold findE
  generalize 55 = k
  generalize (57344 : Int) = c
  induction k generalizing c with
  | zero => rfl
  | succ k ih =>
    unfold findK
    rw [hh, ih]
theorem foundP_eq (f n : Int) : foundP f n = findE f n := by
  unfold foundP
  cases e : codesL.find? (isFm f n) with
  | some x =>
    have h1 := codes_look x (List.mem_of_find?_eq_some e)
    have h2 : x.2 = formK f n := of_decide_eq_true (show isFm f n x = true from List.find?_some (p := isFm f n) e)
    obtain ⟨c, y⟩ := x
    simp only at h1 h2
    show (c, true) = _
    rw [h1] at h2
    unfold formK at h2
    by_cases hf : f = 126
    · rw [if_pos hf] at h2
      have := main_found (c := c) (by rw [h2]; exact .inr rfl) (by rw [h2])
      rw [h2] at this
      simp at this
      rw [hf, this]
    · rw [if_neg hf] at h2
      have := main_found (c := c) (by rw [h2]; exact .inl rfl) (by rw [h2])
      rw [h2] at this
      simp at this
      rw [find_num hf n 0, this]
  | none =>
    have hno := List.find?_eq_none.1 e
    cases h2 : (findE f n).2 with
    | false =>
      have := (find_none f n 55 57344 h2).1
      show ((0 : Int), false) = _
      rw [show findE f n = ((findE f n).1, (findE f n).2) from rfl, h2]
      rw [show (findE f n).1 = 0 from this]
    | true =>
      exfalso
      obtain ⟨g1, g2⟩ := found_right h2
      obtain ⟨_, r1, r2⟩ := find_hit f n 55 57344 h2
      have hb : 57344 ≤ (findE f n).1 ∧ (findE f n).1 < 57344 + 55 := ⟨r1, r2⟩
      obtain ⟨c, hc⟩ : ∃ c, (findE f n).1 = c := ⟨_, rfl⟩
      rw [hc] at g1 g2 hb
      obtain ⟨k, rfl⟩ : ∃ k : Fin 55, c = 57344 + k.1 := ⟨⟨(c - 57344).toNat, by omega⟩, by simp; omega⟩
      obtain ⟨z3, z4⟩ := kinds_zero k
      have hm := codes_has k
      obtain ⟨E, hE⟩ : ∃ E, lookE (57344 + k.1) = E := ⟨_, rfl⟩
      unfold hasE at g1
      rw [hE] at g1 g2 z3 z4 hm
      obtain ⟨K, F, N, C, B⟩ := E
      simp only at g1 g2 z3 z4 hm
      simp only [Bool.or_eq_true, Bool.and_eq_true, beq_iff_eq] at g1
      subst g2
      rcases g1 with ⟨a1, a2⟩ | ⟨⟨a1, a2⟩, a3⟩
      · subst a1 a2
        obtain ⟨rfl, rfl⟩ := z3 rfl
        have hq := hno _ (hm (.inl rfl))
        apply hq
        unfold isFm formK
        rw [if_neg (by
          intro hf
          subst hf
          have : ∀ k : Fin 55, (lookE (57344 + k.1)).kind = 3 → (lookE (57344 + k.1)).fin ≠ 126 := by decide +kernel
          exact this k (by rw [hE]) (by rw [hE]))]
        simp
      · subst a1 a2 a3
        obtain ⟨rfl, rfl⟩ := z4 rfl
        have hq := hno _ (hm (.inr rfl))
        apply hq
        unfold isFm formK
        simp
end Go.Proofs.YtbjmfhcgkpjcfaaGreatDoor
