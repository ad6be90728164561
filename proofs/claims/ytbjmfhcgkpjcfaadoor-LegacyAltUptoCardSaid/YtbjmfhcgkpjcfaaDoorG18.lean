/-
  Layer 9: the document's own answers: the parts of Look. What All answers. Cut out of WpQ: what names no function of any dump. Words for what Put and Take tell, the document's and the program's. Cut out of LegA: what names no function of any dump. Layer 9, the landed keys: mathematics: its rows, the codes of all rows one after the other, and what is found among them. Cut out of LegK: what names no function of any dump.
-/
import Derived.Test.YtbjmfhcgkpjcfaaDoorG02
import Derived.Test.YtbjmfhcgkpjcfaaDoorG03
import Derived.Test.YtbjmfhcgkpjcfaaDoorG04
import Derived.Test.YtbjmfhcgkpjcfaaDoorG08
import Derived.Test.YtbjmfhcgkpjcfaaDoorG14
import Derived.Test.YtbjmfhcgkpjcfaaDoorG16
import Derived.Deep.Cut
namespace Go.Proofs.YtbjmfhcgkpjcfaaDoor
open Go.RowKit

theorem ret_i9 {k : IntKind} {a b : Int} (h : a = b) : Ending.returned (.int k a) = .returned (.int k b) := by rw [h]
set_option maxRecDepth 100000 in
set_option maxHeartbeats 8000000 in
theorem rletter_any (c : Int) (w : World) : Calls Tryd.prog 30 #[.int .i64 c] w fun e w' => e = .returned (.int .u8 (letterN c)) ∧ w' = w := by
  go_enter Tryd.func30, Tryd.ntmps30
  go_wp2
  all_goals
    go_ret
    refine ⟨ret_i9 ?_, rfl⟩
    simp only [beq_iff_eq, beq_eq_false_iff_ne, ne_eq] at *
    first
      | (subst_vars; decide +kernel)
      | (unfold letterN
         repeat' split
         all_goals omega)
set_option maxRecDepth 100000 in
set_option maxHeartbeats 8000000 in
theorem rnumber_any (c : Int) (w : World) : Calls Tryd.prog 31 #[.int .i64 c] w fun e w' => e = .returned (.int .i64 (numberN c)) ∧ w' = w := by
  go_enter Tryd.func31, Tryd.ntmps31
  go_wp2
  all_goals
    go_ret
    refine ⟨ret_i9 ?_, rfl⟩
    simp only [beq_iff_eq, beq_eq_false_iff_ne, ne_eq] at *
    first
      | (subst_vars; decide +kernel)
      | (unfold numberN
         repeat' split
         all_goals omega)
end Go.Proofs.YtbjmfhcgkpjcfaaDoor
namespace Go.Proofs.YtbjmfhcgkpjcfaaDoor
open Go.RowKit

theorem Tryd.intinfo : (Tryd.prog.info? 3).map (fun i => (i.zero, i.size, i.bytes)) = some (some (.int .i64 0), 1, 8) := by kernel_rfl

/-- What All answers. -/
def Al (o : Option (List Int)) (w : World) (e : Ending) (w' : World) : Prop :=
  match o with
  | some k => ∃ A c, e = .returned (.tuple #[.slice A k.length c, .bool true]) ∧ Rd w' A (is_ k) ∧ Below w.heap.size w w'
  | none => e = .returned (.tuple #[.slice none 0 0, .bool false]) ∧ Below w.heap.size w w'
theorem Al.yes {o : Option (List Int)} {k : List Int} {n : Nat} (h : o = some k) (hn : k.length = n) {w w' : World} {A : Option Addr} {c : Nat} (hr : Rd w' A (is_ k)) (hb : Below w.heap.size w w') : Al o w (.returned (.tuple #[.slice A n c, .bool true])) w' := by
  subst h hn
  exact ⟨A, c, rfl, hr, hb⟩
theorem Al.no {o : Option (List Int)} (h : o = none) {w w' : World} (hb : Below w.heap.size w w') : Al o w (.returned (.tuple #[.slice none 0 0, .bool false])) w' := by
  subst h
  exact ⟨rfl, hb⟩
/-- The same, with the row that it made. -/
def AlO (o : Option (List Int)) (w : World) (e : Ending) (w' : World) : Prop :=
  match o with
  | some k => ∃ v, e = .returned (.tuple #[v, .bool true]) ∧ Own w' w.heap.size 3 1 v k.length (is_ k) ∧ Below w.heap.size w w'
  | none => e = .returned (.tuple #[.slice none 0 0, .bool false]) ∧ Below w.heap.size w w'
theorem AlO.yes {o : Option (List Int)} {k : List Int} (h : o = some k) {w w' : World} {v : Value} (hr : Own w' w.heap.size 3 1 v k.length (is_ k)) (hb : Below w.heap.size w w') : AlO o w (.returned (.tuple #[v, .bool true])) w' := by
  subst h
  exact ⟨v, rfl, hr, hb⟩
theorem AlO.no {o : Option (List Int)} (h : o = none) {w w' : World} (hb : Below w.heap.size w w') : AlO o w (.returned (.tuple #[.slice none 0 0, .bool false])) w' := by
  subst h
  exact ⟨rfl, hb⟩
theorem AlO.al {o : Option (List Int)} {w w' : World} {e : Ending} (h : AlO o w e w') : Al o w e w' := by
  cases o with
  | none => exact h
  | some k =>
    obtain ⟨v, rfl, ho, hb⟩ := h
    obtain ⟨A, c, rfl, hr⟩ := ho.form
    exact ⟨A, c, rfl, hr, hb⟩
end Go.Proofs.YtbjmfhcgkpjcfaaDoor
namespace Go.Proofs.YtbjmfhcgkpjcfaaDoor
open Go.RowKit

theorem may_small {s : Sq} (h : mayS s = 0) : s.priv.toNat < 128 ∧ s.final.toNat < 128 ∧ (putS s).length ≤ 20000 ∧ (s.kind = 1 ∨ s.kind = 2 ∨ s.kind = 3 ∨ s.kind = 4 ∨ s.kind = 5) := by
  obtain ⟨hdl, hv, hp, hil, hi, hd, hl, hb⟩ := ok_parts h
  have hk : s.kind = 1 ∨ s.kind = 2 ∨ s.kind = 3 ∨ s.kind = 4 ∨ s.kind = 5 := by
    unfold lastOk at hl
    split at hl
    · omega
    · split at hl
      · omega
      · simp only [Bool.and_eq_true, decide_eq_true_eq] at hl; omega
  refine ⟨?_, ?_, ?_, hk⟩
  · simp only [privOk, Bool.or_eq_true, decide_eq_true_eq] at hv
    rcases hv with hv | hv
    · rw [hv]; decide
    · have := (btw_iff _ _ _).1 hv; omega
  · unfold lastOk at hl
    split at hl
    · have := (btw_iff _ _ _).1 hl; omega
    · split at hl
      · simp only [Bool.and_eq_true] at hl
        have := (btw_iff _ _ _).1 hl.1; omega
      · simp only [Bool.and_eq_true, decide_eq_true_eq] at hl
        rw [hl.2]; decide
  · have h3 := body_len hp hil
    unfold putS
    (repeat' split) <;> simp <;> omega
end Go.Proofs.YtbjmfhcgkpjcfaaDoor
namespace Go.Proofs.YtbjmfhcgkpjcfaaDoor
open Go.RowKit

/-- Put, whatever it tells. -/
def PutE (m : Int) (T : List UInt8) (w : World) (e : Ending) (w' : World) : Prop :=
  (∃ A c, e = .returned (.tuple #[.slice A T.length c, .int .i64 m]) ∧ T.length ≤ c ∧ Rd w' A (bs T)) ∧ Below w.heap.size w w'
def putE (s : Sq) : List UInt8 := if mayS s = 0 then putS s else []
theorem putE_0 {s : Sq} (h : mayS s = 0) : putE s = putS s := if_pos h
theorem putE_no {s : Sq} (h : mayS s ≠ 0) : putE s = [] := if_neg h
/-- A slice cut behind a place. -/
theorem cut_hi {P : Program} {T e : TypeId} (he : P.elem T = e) (hT : P.underlying T = some (.slice e)) (hs : ∀ w, (sizeOf e).run P w = .ok 1 w) (A : Option Addr) (n c hi : Nat) (hh : hi ≤ n) (hn : n ≤ c) :
    ∃ A', (∀ w : World, (Instr.slice T (.slice A n c) none (some (.int .i64 (hi : Int))) none).run P w = .ok (.slice A' hi c) w) ∧
      ∀ (w : World) (l : List UInt8), l.length = n → Rd w A (bs l) → Rd w A' (bs (l.take hi)) := by
  subst he
  refine ⟨if c = 0 then A else A.map (·.add (0 * 1)), fun w => ?_, fun w l hl hr => ?_⟩
  · rw [run_slice_h w T A n c hT .i64 (hi : Int) (by omega) (by omega), hs]
    simp [Result.andThen, sliced]
  · intro hp
    rw [bs_length, List.length_take] at hp
    obtain ⟨b, o, rfl, hb, hc⟩ := hr (by rw [bs_length]; omega)
    rw [if_neg (by omega)]
    refine ⟨b, o, ?_, hb, fun i u hu => ?_⟩
    · rw [Option.map_some, addr_add_at, Nat.zero_mul, Nat.add_zero]
    · apply hc
      have hi : i < hi := by
        have := (List.getElem?_eq_some_iff.1 hu).1
        rw [bs_length, List.length_take] at this
        omega
      simp only [bs, List.map_take, List.getElem?_take, if_pos hi] at hu
      exact hu

def seqC (s : Sq) (A : Option Addr) (c : Nat) : Array Value := #[.int .i64 s.kind, .int .u8 (s.priv.toNat : Int), .slice A s.params.length c, .string ⟨s.inter.toArray⟩, .int .u8 (s.final.toNat : Int), .string ⟨s.data.toArray⟩]
def zeroS : Value := .agg #[.int .i64 0, .int .u8 0, .slice none 0 0, .string ⟨#[]⟩, .int .u8 0, .string ⟨#[]⟩]
theorem rdp_drew {w : World} {A : Option Addr} {ps : List (List Int)} (h : RdP w A ps) : RdP w.drew A ps := h
end Go.Proofs.YtbjmfhcgkpjcfaaDoor
namespace Go.Proofs.YtbjmfhcgkpjcfaaDoor
open Go.RowKit

theorem out_is {L L' : List UInt8} {w w' : World} {e : Ending} (h : L = L') (ho : Out L' w e w') : Out L w e w' := h ▸ ho
theorem out_same {L : List UInt8} {w w' : World} {A : Option Addr} {n c : Nat} (hn : L.length = n) (hr : Rd w' A (bs L)) (hb : Below w.heap.size w w') : Out L w (.returned (.slice A n c)) w' := by
  subst hn
  exact ⟨A, c, rfl, hr, hb⟩
theorem out_one {w w1 : World} {t : TypeId} (x : Int) (h0 : 0 ≤ x) (h1 : x < 256) (hb : Below w.heap.size w w1) : Out [byt x] w (.returned (.slice (some ⟨w1.heap.size, 0, none⟩) 1 1)) (w1.alloc (.cells #[.int .u8 x] t)) :=
  ⟨_, _, rfl, Rd.block (heap_alloc_new w1 _) (by rw [bs1 x h0 h1]; rfl), hb.alloc hb.size _⟩
theorem text_full {s : ByteArray} (h : s.data.toList ≠ []) : s.toList.isEmpty = false := by
  rw [ByteArray.toList_eq]
  cases e : s.data.toList with
  | nil => exact absurd e h
  | cons => rfl
end Go.Proofs.YtbjmfhcgkpjcfaaDoor
namespace Go.Proofs.YtbjmfhcgkpjcfaaDoor

structure Ro where
  first : Int
  last : Int
  kind : Int
  finals : List UInt8
  nums : List Int
  chars : List UInt8
  keys : Bool
deriving DecidableEq
def roL : List Ro := [
  ⟨9, 9, 2, [], [], [], false⟩, ⟨13, 13, 2, [], [], [], false⟩, ⟨27, 27, 2, [], [], [], false⟩, ⟨127, 127, 2, [], [], [], false⟩,
  ⟨57350, 57353, 3, [68, 67, 65, 66], [], [], false⟩, ⟨57356, 57357, 3, [72, 70], [], [], false⟩, ⟨57364, 57367, 3, [80, 81, 82, 83], [], [], false⟩,
  ⟨57348, 57349, 4, [], [2, 3], [], false⟩, ⟨57354, 57355, 4, [], [5, 6], [], false⟩, ⟨57368, 57375, 4, [], [15, 17, 18, 19, 20, 21, 23, 24], [], false⟩, ⟨57363, 57363, 4, [], [29], [], false⟩,
  ⟨57399, 57408, 5, [112, 113, 114, 115, 116, 117, 118, 119, 120, 121], [], [48, 49, 50, 51, 52, 53, 54, 55, 56, 57], true⟩,
  ⟨57409, 57416, 5, [110, 111, 106, 109, 107, 77, 88, 108], [], [46, 47, 42, 45, 43, 13, 61, 44], true⟩,
  ⟨57417, 57420, 3, [68, 67, 65, 66], [], [], true⟩, ⟨57423, 57424, 3, [72, 70], [], [], true⟩, ⟨57427, 57427, 3, [69], [], [], true⟩,
  ⟨57421, 57422, 4, [], [5, 6], [], true⟩, ⟨57425, 57426, 4, [], [2, 3], [], true⟩,
  ⟨57358, 57362, 6, [], [], [], false⟩, ⟨57376, 57398, 6, [], [], [], false⟩, ⟨57428, 57440, 6, [], [], [], false⟩, ⟨57441, 57454, 7, [], [], [], false⟩]
theorem roL_len : roL.length = 22 := rfl
/-- A byte of a text, or nought behind its end. -/
def byL (l : List UInt8) (a : Nat) : Int := ((l.getD a 0).toNat : Int)
def entK (r : Ro) (a : Nat) : En := ⟨r.kind, byL r.finals a, r.nums.getD a 0, byL r.chars a, r.keys⟩
def inRo (c : Int) (r : Ro) : Bool := decide (r.first ≤ c) && decide (c ≤ r.last)
theorem inRo_iff (c : Int) (r : Ro) : inRo c r = true ↔ r.first ≤ c ∧ c ≤ r.last := by simp [inRo]
theorem inRo_no {c : Int} {r : Ro} (h : ¬ (r.first ≤ c ∧ c ≤ r.last)) : inRo c r = false := by
  cases e : inRo c r with
  | false => rfl
  | true => exact absurd ((inRo_iff c r).1 e) h
def txK (c : Int) : Bool := !(decide (c < 32) || decide (127 ≤ c) && decide (c ≤ 159)) && !(decide (57344 ≤ c) && decide (c ≤ 63743)) && isPtK c
def lookP (c : Int) : En := match roL.find? (inRo c) with
  | some r => entK r (c - r.first).toNat
  | none => if txK c then ⟨1, 0, 0, 0, false⟩ else ⟨0, 0, 0, 0, false⟩
theorem ro_all : ∀ r ∈ roL, (r.first = r.last ∧ (r.first = 9 ∨ r.first = 13 ∨ r.first = 27 ∨ r.first = 127)) ∨ (57344 ≤ r.first ∧ r.last < 57455) := by decide +kernel
theorem ro_bd : ∀ r ∈ roL, (0 ≤ r.first ∧ r.first ≤ r.last ∧ r.last ≤ 60000) ∧ (r.finals.length ≤ 100 ∧ r.nums.length ≤ 100 ∧ r.chars.length ≤ 100) := by decide +kernel
theorem look_in : ∀ k : Fin 111, lookP (57344 + k.1) = lookE (57344 + k.1) := by decide +kernel
theorem look_nil {c : Int} (h : c < 57344 ∨ 57455 ≤ c) (h9 : c ≠ 9) (h13 : c ≠ 13) (h27 : c ≠ 27) (h127 : c ≠ 127) : roL.find? (inRo c) = none := by
  rw [List.find?_eq_none]
  intro r hr hi
  have h1 := (inRo_iff c r).1 hi
  rcases ro_all r hr with ⟨e, e2⟩ | ⟨e, e2⟩ <;> omega
theorem txK_rest {c : Int} (h : c < 57344 ∨ 57455 ≤ c) (h9 : c ≠ 9) (h13 : c ≠ 13) (h27 : c ≠ 27) (h127 : c ≠ 127) : restN c = if txK c then 1 else 0 := by
  unfold restN txK
  rw [if_neg (by omega), if_neg (by omega), if_neg (by omega)]
  cases e : isPtK c with
  | false => simp
  | true =>
    by_cases h1 : c < 32 ∨ 127 ≤ c ∧ c ≤ 159 ∨ 57344 ≤ c ∧ c ≤ 63743
    · rw [if_pos (.inr h1), if_neg]
      simp
      omega
    · rw [if_neg (by simp; omega), if_pos]
      simp
      omega
theorem lookP_eq (c : Int) : lookP c = lookE c := by
  by_cases h : c < 57344 ∨ 57455 ≤ c
  · by_cases h9 : c = 9
    · subst h9; decide +kernel
    by_cases h13 : c = 13
    · subst h13; decide +kernel
    by_cases h27 : c = 27
    · subst h27; decide +kernel
    by_cases h127 : c = 127
    · subst h127; decide +kernel
    unfold lookP
    rw [look_nil h h9 h13 h27 h127, look_out h, txK_rest h h9 h13 h27 h127]
    cases txK c <;> rfl
  · obtain ⟨k, rfl⟩ : ∃ k : Fin 111, c = 57344 + k.1 := ⟨⟨(c - 57344).toNat, by omega⟩, by simp; omega⟩
    exact look_in k

/-- The codes of a row, from its place a on. -/
def inRow (r : Ro) (a : Nat) : List (Int × En) := (List.range ((r.last - r.first + 1).toNat - a)).map fun j => (r.first + ((a + j : Nat) : Int), entK r (a + j))
theorem inRow_cons {r : Ro} {a : Nat} (h : r.first + (a : Int) ≤ r.last) : inRow r a = (r.first + (a : Int), entK r a) :: inRow r (a + 1) := by
  unfold inRow
  rw [show (r.last - r.first + 1).toNat - a = ((r.last - r.first + 1).toNat - (a + 1)) + 1 by omega, List.range_succ_eq_map, List.map_cons, List.map_map]
  congr 1
  apply List.map_congr_left
  intro j _
  simp only [Function.comp, Nat.succ_eq_add_one]
  rw [show a + (j + 1) = a + 1 + j by omega]
theorem inRow_nil {r : Ro} {a : Nat} (h : r.last < r.first + (a : Int)) : inRow r a = [] := by
  unfold inRow
  rw [show (r.last - r.first + 1).toNat - a = 0 by omega]
  rfl
def fromRo (rs : List Ro) : List (Int × En) := rs.flatMap fun r => inRow r 0
def codesL : List (Int × En) := fromRo roL
theorem from_drop {k : Nat} (h : k < roL.length) : fromRo (roL.drop k) = inRow roL[k] 0 ++ fromRo (roL.drop (k + 1)) := by
  rw [List.drop_eq_getElem_cons h]
  rfl
/-- The form that is looked for. -/
def formK (f n : Int) : En := if f = 126 then ⟨4, 0, n, 0, false⟩ else ⟨3, f, 0, 0, false⟩
def isFm (f n : Int) (x : Int × En) : Bool := decide (x.2 = formK f n)
def foundP (f n : Int) : Int × Bool := match codesL.find? (isFm f n) with
  | some x => (x.1, true)
  | none => (0, false)
theorem codes_look : ∀ x ∈ codesL, x.2 = lookE x.1 := by decide +kernel
theorem codes_has : ∀ k : Fin 55, ((lookE (57344 + k.1)).kind = 3 ∨ (lookE (57344 + k.1)).kind = 4) → ((57344 + (k.1 : Int), lookE (57344 + k.1)) ∈ codesL) := by decide +kernel
theorem kinds_zero : ∀ k : Fin 55, ((lookE (57344 + k.1)).kind = 3 → (lookE (57344 + k.1)).num = 0 ∧ (lookE (57344 + k.1)).char = 0) ∧ ((lookE (57344 + k.1)).kind = 4 → (lookE (57344 + k.1)).fin = 0 ∧ (lookE (57344 + k.1)).char = 0) := by decide +kernel
theorem find_num {f : Int} (h : f ≠ 126) (n m : Int) : findE f n = findE f m := by
  have hh : ∀ c, hasE f n c = hasE f m c := fun c => by
    unfold hasE
    rw [show (f == 126) = false from beq_false_of_ne h]
    simp
  unfold findE
  generalize 55 = k
  generalize (57344 : Int) = c
  induction k generalizing c with
  | zero => rfl
  | succ k ih =>
    unfold findK
    rw [hh, ih]
theorem foundP_eq (f n : Int) : foundP f n = findE f n := by
  unfold foundP
  cases e : codesL.find? (isFm f n) with
  | some x =>
    have h1 := codes_look x (List.mem_of_find?_eq_some e)
    have h2 : x.2 = formK f n := of_decide_eq_true (show isFm f n x = true from List.find?_some (p := isFm f n) e)
    obtain ⟨c, y⟩ := x
    simp only at h1 h2
    show (c, true) = _
    rw [h1] at h2
    unfold formK at h2
    by_cases hf : f = 126
    · rw [if_pos hf] at h2
      have := main_found (c := c) (by rw [h2]; exact .inr rfl) (by rw [h2])
      rw [h2] at this
      simp at this
      rw [hf, this]
    · rw [if_neg hf] at h2
      have := main_found (c := c) (by rw [h2]; exact .inl rfl) (by rw [h2])
      rw [h2] at this
      simp at this
      rw [find_num hf n 0, this]
  | none =>
    have hno := List.find?_eq_none.1 e
    cases h2 : (findE f n).2 with
    | false =>
      have := (find_none f n 55 57344 h2).1
      show ((0 : Int), false) = _
      rw [show findE f n = ((findE f n).1, (findE f n).2) from rfl, h2]
      rw [show (findE f n).1 = 0 from this]
    | true =>
      exfalso
      obtain ⟨g1, g2⟩ := found_right h2
      obtain ⟨_, r1, r2⟩ := find_hit f n 55 57344 h2
      have hb : 57344 ≤ (findE f n).1 ∧ (findE f n).1 < 57344 + 55 := ⟨r1, r2⟩
      obtain ⟨c, hc⟩ : ∃ c, (findE f n).1 = c := ⟨_, rfl⟩
      rw [hc] at g1 g2 hb
      obtain ⟨k, rfl⟩ : ∃ k : Fin 55, c = 57344 + k.1 := ⟨⟨(c - 57344).toNat, by omega⟩, by simp; omega⟩
      obtain ⟨z3, z4⟩ := kinds_zero k
      have hm := codes_has k
      obtain ⟨E, hE⟩ : ∃ E, lookE (57344 + k.1) = E := ⟨_, rfl⟩
      unfold hasE at g1
      rw [hE] at g1 g2 z3 z4 hm
      obtain ⟨K, F, N, C, B⟩ := E
      simp only at g1 g2 z3 z4 hm
      simp only [Bool.or_eq_true, Bool.and_eq_true, beq_iff_eq] at g1
      subst g2
      rcases g1 with ⟨a1, a2⟩ | ⟨⟨a1, a2⟩, a3⟩
      · subst a1 a2
        obtain ⟨rfl, rfl⟩ := z3 rfl
        have hq := hno _ (hm (.inl rfl))
        apply hq
        unfold isFm formK
        rw [if_neg (by
          intro hf
          subst hf
          have : ∀ k : Fin 55, (lookE (57344 + k.1)).kind = 3 → (lookE (57344 + k.1)).fin ≠ 126 := by decide +kernel
          exact this k (by rw [hE]) (by rw [hE]))]
        simp
      · subst a1 a2 a3
        obtain ⟨rfl, rfl⟩ := z4 rfl
        have hq := hno _ (hm (.inr rfl))
        apply hq
        unfold isFm formK
        simp
end Go.Proofs.YtbjmfhcgkpjcfaaDoor
namespace Go.Proofs.YtbjmfhcgkpjcfaaDoor
open Go.RowKit

def CharE (e : En) : Prop := (0 ≤ e.char ∧ e.char ≤ 255) ∧ (0 ≤ e.fin ∧ e.fin ≤ 255)
instance (e : En) : Decidable (CharE e) := by unfold CharE; infer_instance
theorem char_fin : ∀ k : Fin 111, CharE (lookE (57344 + (k.1 : Int))) := by decide +kernel
theorem char_e (c : Int) : CharE (lookE c) := by
  by_cases h : c < 57344 ∨ 57455 ≤ c
  · rw [look_out h]
    unfold CharE
    simp
  · obtain ⟨k, rfl⟩ : ∃ k : Fin 111, c = 57344 + k.1 := ⟨⟨(c - 57344).toNat, by omega⟩, by simp; omega⟩
    exact char_fin k
theorem shownG_len (code shift : Int) (s1 c4 : Bool) (t : List UInt8) : (shownG code shift s1 c4 t).length ≤ t.length + 4 := by
  unfold shownG
  split
  · omega
  · split
    · simp
    · have := putL_le (shownC code shift s1)
      omega
theorem tab_len : (seqB 1 90 []).length ≤ 4 := by decide +kernel
theorem plainG_len (m : Mo) (code : Int) (s1 c4 : Bool) : (plainG m code s1 c4).length ≤ 4 := by
  unfold plainG
  repeat' split
  all_goals first
    | exact tab_len
    | simp
end Go.Proofs.YtbjmfhcgkpjcfaaDoor
