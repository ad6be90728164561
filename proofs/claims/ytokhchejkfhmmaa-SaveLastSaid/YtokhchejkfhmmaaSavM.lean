/-
  Layer 7's mathematics: modes saved, and restored.
-/
import Derived.Test.YtokhchejkfhmmaaModN
namespace Go.Proofs.Ytokhchejkfhmmaa

/-- A mode's place among those that may be set; 12: it has none. -/
def placeN (n : Int) : Nat := ownM.findIdx (fun x => x == n)
theorem place_le (n : Int) : placeN n ≤ 12 := List.findIdx_le_length
theorem place_lt {n : Int} : placeN n < 12 ↔ canM true n = true := by
  rw [can_own, List.contains_iff_mem]
  unfold placeN
  rw [show (12 : Nat) = ownM.length from rfl, List.findIdx_lt_length]
  constructor
  · rintro ⟨x, hx, h⟩
    rw [← eq_of_beq h]
    exact hx
  · intro h
    exact ⟨n, h, by simp⟩
theorem place_get {n : Int} (h : placeN n < 12) : ownM[placeN n]'h = n := by
  have := List.findIdx_getElem (p := fun x => x == n) (xs := ownM) (w := h)
  exact eq_of_beq this
theorem place_inj {n k : Int} (hn : placeN n < 12) (h : placeN n = placeN k) : n = k := by
  have h1 := place_get hn
  have h2 := place_get (n := k) (by omega)
  rw [← h1, ← h2]
  congr 1
/-- What was saved: twelve bytes. -/
def sav0 : List UInt8 := List.replicate 12 0
def markN (m : Mo) (n : Int) : UInt8 := if getM m true n = 1 then 1 else 2
def save1 (m : Mo) (s : List UInt8) (n : Int) : List UInt8 := s.set (placeN n) (markN m n)
def saveS (s : List UInt8) (m : Mo) (nums : List Int) : List UInt8 := nums.foldl (save1 m) s
def rest1 (s : List UInt8) (m : Mo) (n : Int) : Mo :=
  match s[placeN n]? with
  | some v => if v = 1 then (setM m true n true).1 else if v = 2 then (setM m true n false).1 else m
  | none => m
def restS (s : List UInt8) (m : Mo) (nums : List Int) : Mo := nums.foldl (rest1 s) m
theorem save1_len (m : Mo) (s : List UInt8) (n : Int) : (save1 m s n).length = s.length := by simp [save1]
theorem saveS_len (m : Mo) : ∀ (nums : List Int) (s : List UInt8), (saveS s m nums).length = s.length
  | [], _ => rfl
  | n :: l, s => by
    show (saveS (save1 m s n) m l).length = s.length
    rw [saveS_len m l, save1_len]
theorem saveS_snoc (s : List UInt8) (m : Mo) (l : List Int) (n : Int) : saveS s m (l ++ [n]) = save1 m (saveS s m l) n := by simp [saveS]
theorem restS_snoc (s : List UInt8) (m : Mo) (l : List Int) (n : Int) : restS s m (l ++ [n]) = rest1 s (restS s m l) n := by simp [restS]
theorem saveS_append (s : List UInt8) (m : Mo) (a b : List Int) : saveS s m (a ++ b) = saveS (saveS s m a) m b := by simp [saveS]
theorem restS_append (s : List UInt8) (m : Mo) (a b : List Int) : restS s m (a ++ b) = restS s (restS s m a) b := by simp [restS]
/-- What has no place leaves all as it was. -/
theorem save1_no {m : Mo} {s : List UInt8} {n : Int} (hs : s.length = 12) (h : canM true n = false) : save1 m s n = s := by
  have : ¬ placeN n < 12 := fun hh => by rw [place_lt, h] at hh; cases hh
  exact List.set_eq_of_length_le (by omega)
theorem rest1_no {m : Mo} {s : List UInt8} {n : Int} (hs : s.length = 12) (h : canM true n = false) : rest1 s m n = m := by
  have : ¬ placeN n < 12 := fun hh => by rw [place_lt, h] at hh; cases hh
  unfold rest1
  rw [List.getElem?_eq_none (by omega)]
theorem save1_at {m : Mo} {s : List UInt8} {n : Int} (hs : s.length = 12) (h : canM true n = true) : (save1 m s n)[placeN n]? = some (markN m n) := by
  have := place_lt.2 h
  unfold save1
  rw [List.getElem?_set_self (by omega)]
theorem mark_is (m : Mo) (n : Int) : markN m n = 1 ∨ markN m n = 2 := by
  unfold markN
  split <;> simp
theorem mark_set (m : Mo) (n : Int) (x : Mo) : (if markN m n = 1 then (setM x true n true).1 else if markN m n = 2 then (setM x true n false).1 else x) = (setM x true n (decide (getM m true n = 1))).1 := by
  unfold markN
  by_cases hg : getM m true n = 1
  · simp [hg]
  · simp [hg]
/-- What was saved, and is restored, is as it was. -/
theorem back_get (m now : Mo) (n : Int) : getM (restS (saveS sav0 m [n]) now [n]) true n = getM m true n := by
  show getM (rest1 (save1 m sav0 n) now n) true n = getM m true n
  by_cases h : canM true n = true
  · have h1 : rest1 (save1 m sav0 n) now n = (setM now true n (decide (getM m true n = 1))).1 := by
      unfold rest1
      rw [save1_at (by rfl) h]
      exact mark_set m n now
    rw [h1, get_set h, get_is h]
    by_cases hs : isM m true n = true
    · simp [hs]
    · simp [hs]
  · have h' : canM true n = false := by simpa using h
    rw [save1_no (by rfl) h', rest1_no (by rfl) h', get_no h', get_no h']
/-- What wasn't saved isn't restored. -/
theorem rest_none (m : Mo) : ∀ nums : List Int, restS sav0 m nums = m
  | [] => rfl
  | n :: l => by
    have h1 : rest1 sav0 m n = m := by
      unfold rest1
      by_cases h : placeN n < 12
      · have : sav0[placeN n]? = some 0 := by
          unfold sav0
          rw [List.getElem?_replicate, if_pos h]
        rw [this]
        simp
      · rw [List.getElem?_eq_none (show sav0.length ≤ placeN n by show 12 ≤ placeN n; omega)]
    show restS sav0 (rest1 sav0 m n) l = m
    rw [h1]
    exact rest_none m l
theorem save_none (m : Mo) (n : Int) : decide (saveS sav0 m [n] = sav0) = !(canM true n) := by
  show decide (save1 m sav0 n = sav0) = _
  by_cases h : canM true n = true
  · rw [h]
    refine decide_eq_false fun e => ?_
    have h1 := save1_at (m := m) (s := sav0) (by rfl) h
    rw [e] at h1
    have h2 : sav0[placeN n]? = some 0 := by
      unfold sav0
      rw [List.getElem?_replicate, if_pos (place_lt.2 h)]
    rw [h2] at h1
    have h3 := Option.some.inj h1
    rcases mark_is m n with h4 | h4 <;> (rw [h4] at h3; revert h3; decide)
  · have h' : canM true n = false := by simpa using h
    rw [h', save1_no (by rfl) h']
    simp
/-- Of two savings the last one counts. -/
theorem save_last (a b : Mo) (nums : List Int) (n : Int) (i : Nat) : (saveS (saveS sav0 a nums) b [n])[i]? = (if (saveS sav0 b [n])[i]? = some 0 then (saveS sav0 a nums)[i]? else (saveS sav0 b [n])[i]?) := by
  show (save1 b (saveS sav0 a nums) n)[i]? = (if (save1 b sav0 n)[i]? = some 0 then _ else (save1 b sav0 n)[i]?)
  have hl : (saveS sav0 a nums).length = 12 := saveS_len a nums sav0
  by_cases h : canM true n = true
  · have hp := place_lt.2 h
    by_cases hi : placeN n = i
    · subst hi
      rw [save1_at hl h, save1_at (by rfl) h, if_neg]
      intro e
      have h3 := Option.some.inj e
      rcases mark_is b n with h4 | h4 <;> (rw [h4] at h3; revert h3; decide)
    · unfold save1
      rw [List.getElem?_set_ne hi, List.getElem?_set_ne hi]
      by_cases h12 : i < 12
      · have h2 : sav0[i]? = some 0 := by
          unfold sav0
          rw [List.getElem?_replicate, if_pos h12]
        rw [if_pos h2]
      · rw [List.getElem?_eq_none (show sav0.length ≤ i by show 12 ≤ i; omega), List.getElem?_eq_none (show (saveS sav0 a nums).length ≤ i by omega)]
        simp
  · have h' : canM true n = false := by simpa using h
    rw [save1_no hl h', save1_no (by rfl) h']
    by_cases h12 : i < 12
    · have h2 : sav0[i]? = some 0 := by
        unfold sav0
        rw [List.getElem?_replicate, if_pos h12]
      rw [if_pos h2]
    · rw [List.getElem?_eq_none (show sav0.length ≤ i by show 12 ≤ i; omega), List.getElem?_eq_none (show (saveS sav0 a nums).length ≤ i by omega)]
      simp
/-- What was saved of each mode of a list. -/
theorem saved_at (m : Mo) {n : Int} (h : canM true n = true) : ∀ (l : List Int) (s : List UInt8), s.length = 12 → (n ∈ l ∨ s[placeN n]? = some (markN m n)) → (saveS s m l)[placeN n]? = some (markN m n)
  | [], _, _, hs => by
    rcases hs with hs | hs
    · cases hs
    · exact hs
  | k :: l, s, hl, hs => by
    show (saveS (save1 m s k) m l)[placeN n]? = some (markN m n)
    refine saved_at m h l _ (by rw [save1_len, hl]) ?_
    by_cases hk : k = n
    · subst hk
      exact .inr (save1_at hl h)
    · rcases hs with hs | hs
      · rcases List.mem_cons.1 hs with e | hs
        · exact absurd e.symm hk
        · exact .inl hs
      · refine .inr ?_
        unfold save1
        rw [List.getElem?_set_ne (fun e => hk (place_inj (place_lt.2 h) e.symm).symm), hs]
theorem rest_saved (m x : Mo) {s : List UInt8} {n : Int} (hs : s[placeN n]? = some (markN m n)) : rest1 s x n = (setM x true n (decide (getM m true n = 1))).1 := by
  unfold rest1
  rw [hs]
  exact mark_set m n x
theorem get_on {m : Mo} {n : Int} (h : canM true n = true) : decide (getM m true n = 1) = isM m true n := by
  rw [get_is h]
  by_cases hs : isM m true n = true
  · simp [hs]
  · simp [hs]
theorem rest_own (m : Mo) : ∀ (l : List Int) (x : Mo) (s : List UInt8), (∀ n ∈ l, n ∈ ownM) → (∀ n ∈ ownM, s[placeN n]? = some (markN m n)) → restS s x l = setsM x (l.map fun n => (n, isM m true n))
  | [], _, _, _, _ => rfl
  | n :: l, x, s, hl, hs => by
    have hn := hl n (List.mem_cons_self ..)
    show restS s (rest1 s x n) l = setsM (setM x true n (isM m true n)).1 (l.map fun n => (n, isM m true n))
    rw [rest_saved m x (hs n hn), get_on (own_can hn)]
    exact rest_own m l _ s (fun k hk => hl k (List.mem_cons_of_mem _ hk)) hs
theorem own_sets (m x : Mo) : setsM x (ownM.map fun n => (n, isM m true n)) =
    { x with cursor := m.cursor, keypad := m.keypad, back := m.back, focus := m.focus, paste := m.paste,
             mouse := oneM (oneM (oneM (oneM x.mouse 9 (decide (m.mouse = 9))) 1000 (decide (m.mouse = 1000))) 1002 (decide (m.mouse = 1002))) 1003 (decide (m.mouse = 1003)),
             coding := oneM (oneM (oneM x.coding 1005 (decide (m.coding = 1005))) 1006 (decide (m.coding = 1006))) 1015 (decide (m.coding = 1015)) } := by
  simp [ownM, setsM, setM, isM, mouseN, codingN]
theorem mouse_all {a b : Int} (ha : a = 0 ∨ mouseN a = true) (hb : b = 0 ∨ mouseN b = true) : oneM (oneM (oneM (oneM b 9 (decide (a = 9))) 1000 (decide (a = 1000))) 1002 (decide (a = 1002))) 1003 (decide (a = 1003)) = a := by
  have h1 : a = 0 ∨ a = 9 ∨ a = 1000 ∨ a = 1002 ∨ a = 1003 := by
    rcases ha with h | h
    · exact .inl h
    · exact .inr ((mouseN_iff a).1 h)
  have h2 : b = 0 ∨ b = 9 ∨ b = 1000 ∨ b = 1002 ∨ b = 1003 := by
    rcases hb with h | h
    · exact .inl h
    · exact .inr ((mouseN_iff b).1 h)
  rcases h1 with rfl | rfl | rfl | rfl | rfl <;> rcases h2 with rfl | rfl | rfl | rfl | rfl <;> decide
theorem coding_all {a b : Int} (ha : a = 0 ∨ codingN a = true) (hb : b = 0 ∨ codingN b = true) : oneM (oneM (oneM b 1005 (decide (a = 1005))) 1006 (decide (a = 1006))) 1015 (decide (a = 1015)) = a := by
  have h1 : a = 0 ∨ a = 1005 ∨ a = 1006 ∨ a = 1015 := by
    rcases ha with h | h
    · exact .inl h
    · exact .inr ((codingN_iff a).1 h)
  have h2 : b = 0 ∨ b = 1005 ∨ b = 1006 ∨ b = 1015 := by
    rcases hb with h | h
    · exact .inl h
    · exact .inr ((codingN_iff b).1 h)
  rcases h1 with rfl | rfl | rfl | rfl <;> rcases h2 with rfl | rfl | rfl | rfl <;> decide
/-- All private modes saved, and restored, are as they were. -/
theorem save_all {m now : Mo} (hm : mayM m = true) (hn : mayM now = true) : restS (saveS sav0 m ownM) now ownM = { m with lock := now.lock, line := now.line, other := now.other } := by
  have h1 : ∀ n ∈ ownM, (saveS sav0 m ownM)[placeN n]? = some (markN m n) := fun n h => saved_at m (own_can h) ownM sav0 rfl (.inl h)
  rw [rest_own m ownM now _ (fun _ h => h) h1, own_sets]
  unfold mayM at hm hn
  simp only [Bool.and_eq_true, decide_eq_true_eq] at hm hn
  rw [mouse_all hm.1 hn.1, coding_all hm.2.1 hn.2.1]
end Go.Proofs.Ytokhchejkfhmmaa
