/-
  Layer 15's mathematics: which of a mouse's events are told.
-/
import Derived.Test.YtbdpjhlfaelgpaaBase
namespace Go.Proofs.Ytbdpjhlfaelgpaa

/-- A mouse's event. -/
structure Ms where
  btn : Int
  typ : Int
  x : Int
  y : Int
  mods : Int
/-- A cell. -/
structure Ce where
  x : Int
  y : Int
deriving DecidableEq
def heldT (n : Int) : Bool := decide (1 ≤ n ∧ n ≤ 3) || decide (8 ≤ n ∧ n ≤ 11)
def mayT (e : Ms) : Bool :=
  if e.x < 1 ∨ 65535 < e.x ∨ e.y < 1 ∨ 65535 < e.y ∨ e.mods < 0 ∨ 255 < e.mods then false
  else if e.typ = 1 then decide (1 ≤ e.btn ∧ e.btn ≤ 11) else if e.typ = 3 then heldT e.btn else decide (e.typ = 4) && (decide (e.btn = 0) || heldT e.btn)
def wantT (mode : Int) (e : Ms) : Bool :=
  if mode = 9 then decide (e.typ = 1) && decide (e.btn ≤ 3) else if mode = 1000 then !decide (e.typ = 4) else if mode = 1002 then !decide (e.typ = 4) || !decide (e.btn = 0) else decide (mode = 1003)
def isT (mode : Int) (s : Ce) (e : Ms) : Bool := mayT e && wantT mode e && !(decide (e.typ = 4) && decide (s.x = e.x) && decide (s.y = e.y))
def tellT (mode : Int) (s : Ce) (e : Ms) : Ce × Bool := if isT mode s e = true then (⟨e.x, e.y⟩, true) else (s, false)
/-- A greater mode tells what a lesser one tells. -/
theorem want_more (e : Ms) : (wantT 9 e = true → wantT 1000 e = true) ∧ (wantT 1000 e = true → wantT 1002 e = true) ∧ (wantT 1002 e = true → wantT 1003 e = true) := by
  unfold wantT
  refine ⟨fun h => ?_, fun h => ?_, fun _ => ?_⟩
  · rw [if_pos rfl, Bool.and_eq_true, decide_eq_true_eq] at h
    rw [if_neg (by decide), if_pos rfl, h.1]
    rfl
  · rw [if_neg (by decide), if_pos rfl] at h
    rw [if_neg (by decide), if_neg (by decide), if_pos rfl, h]
    rfl
  · rw [if_neg (by decide), if_neg (by decide), if_neg (by decide)]
    rfl
theorem is_more (s : Ce) (e : Ms) : (isT 9 s e = true → isT 1000 s e = true) ∧ (isT 1000 s e = true → isT 1002 s e = true) ∧ (isT 1002 s e = true → isT 1003 s e = true) := by
  obtain ⟨a, b, c⟩ := want_more e
  unfold isT
  simp only [Bool.and_eq_true]
  exact ⟨fun h => ⟨⟨h.1.1, a h.1.2⟩, h.2⟩, fun h => ⟨⟨h.1.1, b h.1.2⟩, h.2⟩, fun h => ⟨⟨h.1.1, c h.1.2⟩, h.2⟩⟩
theorem want_known {mode : Int} (h : ¬ (mode = 9 ∨ mode = 1000 ∨ mode = 1002 ∨ mode = 1003)) (e : Ms) : wantT mode e = false := by
  unfold wantT
  rw [if_neg (by omega), if_neg (by omega), if_neg (by omega)]
  exact decide_eq_false (by omega)
theorem is_known {mode : Int} (h : ¬ (mode = 9 ∨ mode = 1000 ∨ mode = 1002 ∨ mode = 1003)) (s : Ce) (e : Ms) : isT mode s e = false := by
  unfold isT
  rw [want_known h]
  simp
theorem is_may {mode : Int} {s : Ce} {e : Ms} (h : isT mode s e = true) : mayT e = true := by
  unfold isT at h
  simp only [Bool.and_eq_true] at h
  exact h.1.1
/-- A motion in the cell that was told last is not told. -/
theorem is_cell {mode : Int} {s : Ce} {e : Ms} (h : isT mode s e = true) (ht : e.typ = 4) : s ≠ ⟨e.x, e.y⟩ := fun hs => by
  unfold isT at h
  rw [hs] at h
  simp [ht] at h
theorem tell_yes {mode : Int} {s : Ce} {e : Ms} (h : isT mode s e = true) : tellT mode s e = (⟨e.x, e.y⟩, true) := if_pos h
theorem tell_no {mode : Int} {s : Ce} {e : Ms} (h : isT mode s e = false) : tellT mode s e = (s, false) := if_neg (by rw [h]; decide)
theorem may_typ15 {e : Ms} (h : mayT e = true) : e.typ = 1 ∨ e.typ = 3 ∨ e.typ = 4 := by
  unfold mayT at h
  split at h
  · cases h
  · split at h
    · exact .inl ‹_›
    · split at h
      · exact .inr (.inl ‹_›)
      · simp only [Bool.and_eq_true, decide_eq_true_eq] at h
        exact .inr (.inr h.1)
/-- A press, or a release, that may be. -/
theorem is_press {e : Ms} (h : mayT e = true) (ht : e.typ ≠ 4) (s : Ce) : isT 1000 s e = true ∧ isT 1002 s e = true ∧ isT 1003 s e = true ∧ isT 9 s e = (decide (e.typ = 1) && decide (e.btn ≤ 3)) := by
  unfold isT wantT
  simp [h, ht]
/-- A wheel is pressed alone. -/
theorem wheel_no {e : Ms} (h0 : 4 ≤ e.btn) (h1 : e.btn ≤ 7) (ht : e.typ ≠ 1) : mayT e = false := by
  have hh : heldT e.btn = false := by unfold heldT; rw [decide_eq_false (by omega), decide_eq_false (by omega)]; rfl
  unfold mayT
  split
  · rfl
  · rw [hh]
    split
    · rfl
    · rw [decide_eq_false (show ¬ e.btn = 0 by omega)]
      simp
/-- A motion that may be, from another cell. -/
theorem is_move {e : Ms} (h : mayT e = true) (ht : e.typ = 4) (s : Ce) : isT 1003 s e = !(decide (s.x = e.x) && decide (s.y = e.y)) ∧ isT 1002 s e = (!decide (e.btn = 0) && !(decide (s.x = e.x) && decide (s.y = e.y))) := by
  unfold isT wantT
  simp [h, ht]
theorem may_at {e : Ms} (h : mayT e = true) {x y : Int} (hx : 1 ≤ x ∧ x ≤ 65535) (hy : 1 ≤ y ∧ y ≤ 65535) : mayT { e with x := x, y := y } = true := by
  unfold mayT at h ⊢
  split at h
  · cases h
  · rename_i hr
    rw [if_neg (by simp only; omega)]
    exact h
theorem may_cell {e : Ms} (h : mayT e = true) : (1 ≤ e.x ∧ e.x ≤ 65535) ∧ (1 ≤ e.y ∧ e.y ≤ 65535) := by
  unfold mayT at h
  split at h
  · cases h
  · rename_i hr
    omega
end Go.Proofs.Ytbdpjhlfaelgpaa
