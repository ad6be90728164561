/-
  Layer 18's mathematics: how characters look, and the parameters that tell it.
-/
import Derived.Test.YtfifeofmfpjgfaaDoorG06
namespace Go.Proofs.YtfifeofmfpjgfaaDoor
structure Sy where
 bold : Bool
 faint : Bool
 italic : Bool
 blink : Bool
 inverse : Bool
 hidden : Bool
 strike : Bool
 under : Int
 fore : Int
 back : Int
deriving DecidableEq
def usualY : Sy := ⟨false, false, false, false, false, false, false, 0, -1, -1⟩
def colY (n : Int) : Bool := decide (-1 ≤ n) && decide (n < 16777472)
def mayY (s : Sy) : Bool := decide (0 ≤ s.under) && decide (s.under ≤ 5) && colY s.fore && colY s.back
def oneY (b : Bool) (n : Int) : List (List Int) := if b = true then [[n]] else []
def underY (u : Int) : List (List Int) := if u = 1 then [[4]] else if 1 < u then [[4, u]] else []
def tintY (n base : Int) : List (List Int) :=
 if n < 0 then [] else if n < 8 then [[base + n]] else if n < 16 then [[base + 52 + n]] else if n < 256 then [[base + 8, 5, n]] else [[base + 8, 2, -1, (n - 256) / 65536, (n - 256) / 256 % 256, (n - 256) % 256]]
def parY (s : Sy) : List (List Int) :=
 if mayY s = true then [[0]] ++ oneY s.bold 1 ++ oneY s.faint 2 ++ oneY s.italic 3 ++ underY s.under ++ oneY s.blink 5 ++ oneY s.inverse 7 ++ oneY s.hidden 8 ++ oneY s.strike 9 ++ tintY s.fore 30 ++ tintY s.back 40 else []
def byteY (n : Int) : Bool := decide (0 ≤ n) && decide (n ≤ 255)
def partedY (p : List Int) : Int :=
 match p with
 | [_, a, n] => if a = 5 ∧ byteY n = true then n else -2
 | [_, a, _, r, g, b] => if a = 2 ∧ byteY r = true ∧ byteY g = true ∧ byteY b = true then 256 + 65536 * r + 256 * g + b else -2
 | _ => -2
def saidY (p : List Int) (a base : Int) : Int :=
 if 0 ≤ a - base ∧ a - base ≤ 7 then a - base else if a - base = 9 then -1 else if 60 ≤ a - base ∧ a - base ≤ 67 then a - base - 52 else if a - base = 8 then partedY p else -2
def flagY (s : Sy) (n : Int) : Sy :=
 if n = 1 then { s with bold := true } else if n = 2 then { s with faint := true } else if n = 3 then { s with italic := true } else if n = 5 then { s with blink := true } else if n = 7 then { s with inverse := true } else if n = 8 then { s with hidden := true } else if n = 9 then { s with strike := true } else s
def undY (s : Sy) (p : List Int) : Sy :=
 match p with
 | _ :: u :: _ => if 0 ≤ u ∧ u ≤ 5 then { s with under := u } else s
 | _ => { s with under := 1 }
def setY (s : Sy) (p : List Int) : Sy :=
 match p with
 | [] => usualY
 | a :: _ =>
   if a ≤ 0 then usualY else if a = 4 then undY s p
   else flagY { s with fore := if -1 ≤ saidY p a 30 then saidY p a 30 else s.fore, back := if -1 ≤ saidY p a 40 then saidY p a 40 else s.back } a
def applyY (s : Sy) (l : List (List Int)) : Sy := l.foldl setY s
theorem apply_app (s : Sy) (a b : List (List Int)) : applyY s (a ++ b) = applyY (applyY s a) b := List.foldl_append
theorem apply_nil (s : Sy) : applyY s [] = s := rfl
theorem apply_one (s : Sy) (p : List Int) : applyY s [p] = setY s p := rfl
theorem said_no {p : List Int} {a base : Int} (h : a - base < 0 ∨ (9 < a - base ∧ (a - base < 60 ∨ 67 < a - base))) : saidY p a base = -2 := by
 unfold saidY
 rw [if_neg (by omega), if_neg (by omega), if_neg (by omega), if_neg (by omega)]
theorem set_flag (s : Sy) {a : Int} (h0 : 0 < a) (h1 : a ≤ 9) (h4 : a ≠ 4) : setY s [a] = flagY s a := by
 unfold setY
 simp only
 rw [if_neg (by omega), if_neg h4, said_no (by omega), said_no (by omega)]
 simp
theorem app_bold (s : Sy) (b : Bool) : applyY s (oneY b 1) = { s with bold := s.bold || b } := by
 cases b
 ·simp [oneY, apply_nil]
 ·show setY s [1] = _
  rw [set_flag s (by decide) (by decide) (by decide)]
  simp [flagY]
theorem app_faint (s : Sy) (b : Bool) : applyY s (oneY b 2) = { s with faint := s.faint || b } := by
 cases b
 ·simp [oneY, apply_nil]
 ·show setY s [2] = _
  rw [set_flag s (by decide) (by decide) (by decide)]
  simp [flagY]
theorem app_italic (s : Sy) (b : Bool) : applyY s (oneY b 3) = { s with italic := s.italic || b } := by
 cases b
 ·simp [oneY, apply_nil]
 ·show setY s [3] = _
  rw [set_flag s (by decide) (by decide) (by decide)]
  simp [flagY]
theorem app_blink (s : Sy) (b : Bool) : applyY s (oneY b 5) = { s with blink := s.blink || b } := by
 cases b
 ·simp [oneY, apply_nil]
 ·show setY s [5] = _
  rw [set_flag s (by decide) (by decide) (by decide)]
  simp [flagY]
theorem app_inverse (s : Sy) (b : Bool) : applyY s (oneY b 7) = { s with inverse := s.inverse || b } := by
 cases b
 ·simp [oneY, apply_nil]
 ·show setY s [7] = _
  rw [set_flag s (by decide) (by decide) (by decide)]
  simp [flagY]
theorem app_hidden (s : Sy) (b : Bool) : applyY s (oneY b 8) = { s with hidden := s.hidden || b } := by
 cases b
 ·simp [oneY, apply_nil]
 ·show setY s [8] = _
  rw [set_flag s (by decide) (by decide) (by decide)]
  simp [flagY]
theorem app_strike (s : Sy) (b : Bool) : applyY s (oneY b 9) = { s with strike := s.strike || b } := by
 cases b
 ·simp [oneY, apply_nil]
 ·show setY s [9] = _
  rw [set_flag s (by decide) (by decide) (by decide)]
  simp [flagY]
theorem app_under (s : Sy) {u : Int} (h0 : 0 ≤ u) (h1 : u ≤ 5) (hs : s.under = 0) : applyY s (underY u) = { s with under := u } := by
 unfold underY
 by_cases a : u = 1
 ·rw [if_pos a, a]
  rfl
 ·rw [if_neg a]
  by_cases b : 1 < u
  ·rw [if_pos b]
   show (if 0 ≤ u ∧ u ≤ 5 then { s with under := u } else s) = _
   rw [if_pos ⟨h0, h1⟩]
  ·rw [if_neg b, apply_nil, show u = 0 by omega, ← hs]
theorem flag_no (s : Sy) {a : Int} (h : 9 < a) : flagY s a = s := by
 unfold flagY
 rw [if_neg (by omega), if_neg (by omega), if_neg (by omega), if_neg (by omega), if_neg (by omega), if_neg (by omega), if_neg (by omega)]
theorem set_far (s : Sy) (p : List Int) {a : Int} (h : 9 < a) : setY s (a :: p) = { s with fore := if -1 ≤ saidY (a :: p) a 30 then saidY (a :: p) a 30 else s.fore, back := if -1 ≤ saidY (a :: p) a 40 then saidY (a :: p) a 40 else s.back } := by
 unfold setY
 simp only
 rw [if_neg (by omega), if_neg (by omega), flag_no _ h]
theorem said_tint {n base : Int} (h0 : 0 ≤ n) (h1 : n < 16777472) : ∃ a p, tintY n base = [a :: p] ∧ (base + 0 ≤ a ∧ a ≤ base + 8 ∨ base + 60 ≤ a ∧ a ≤ base + 67) ∧ saidY (a :: p) a base = n := by
 unfold tintY
 rw [if_neg (by omega)]
 by_cases c1 : n < 8
 ·rw [if_pos c1]
  refine ⟨base + n, [], rfl, by omega, ?_⟩
  unfold saidY
  rw [if_pos (by omega)]
  omega
 ·rw [if_neg c1]
  by_cases c2 : n < 16
  ·rw [if_pos c2]
   refine ⟨base + 52 + n, [], rfl, by omega, ?_⟩
   unfold saidY
   rw [if_neg (by omega), if_neg (by omega), if_pos (by omega)]
   omega
  ·rw [if_neg c2]
   by_cases c3 : n < 256
   ·rw [if_pos c3]
    refine ⟨base + 8, [5, n], rfl, by omega, ?_⟩
    unfold saidY
    rw [if_neg (by omega), if_neg (by omega), if_neg (by omega), if_pos (by omega)]
    show (if (5 : Int) = 5 ∧ byteY n = true then n else -2) = n
    rw [if_pos ⟨rfl, by unfold byteY; rw [decide_eq_true h0, decide_eq_true (by omega)]; rfl⟩]
   ·rw [if_neg c3]
    refine ⟨base + 8, [2, -1, (n - 256) / 65536, (n - 256) / 256 % 256, (n - 256) % 256], rfl, by omega, ?_⟩
    unfold saidY
    rw [if_neg (by omega), if_neg (by omega), if_neg (by omega), if_pos (by omega)]
    have b1 : byteY ((n - 256) / 65536) = true := by unfold byteY; rw [decide_eq_true (by omega), decide_eq_true (by omega)]; rfl
    have b2 : byteY ((n - 256) / 256 % 256) = true := by unfold byteY; rw [decide_eq_true (by omega), decide_eq_true (by omega)]; rfl
    have b3 : byteY ((n - 256) % 256) = true := by unfold byteY; rw [decide_eq_true (by omega), decide_eq_true (by omega)]; rfl
    show (if (2 : Int) = 2 ∧ byteY ((n - 256) / 65536) = true ∧ byteY ((n - 256) / 256 % 256) = true ∧ byteY ((n - 256) % 256) = true then 256 + 65536 * ((n - 256) / 65536) + 256 * ((n - 256) / 256 % 256) + (n - 256) % 256 else -2) = n
    rw [if_pos ⟨rfl, b1, b2, b3⟩]
    omega
theorem col_iff {n : Int} : colY n = true ↔ -1 ≤ n ∧ n < 16777472 := by unfold colY; simp
theorem app_fore (s : Sy) {n : Int} (h : colY n = true) (hs : s.fore = -1) : applyY s (tintY n 30) = { s with fore := n } := by
 obtain ⟨h0, h1⟩ := col_iff.1 h
 by_cases hn : n < 0
 ·unfold tintY
  rw [if_pos hn, apply_nil, show n = -1 by omega, ← hs]
 ·obtain ⟨a, p, e, hr, hb⟩ := said_tint (base := 30) (n := n) (by omega) h1
  rw [e, apply_one, set_far s p (by omega), hb, said_no (base := 40) (by omega), if_pos (by omega), if_neg (by decide)]
theorem app_back (s : Sy) {n : Int} (h : colY n = true) (hs : s.back = -1) : applyY s (tintY n 40) = { s with back := n } := by
 obtain ⟨h0, h1⟩ := col_iff.1 h
 by_cases hn : n < 0
 ·unfold tintY
  rw [if_pos hn, apply_nil, show n = -1 by omega, ← hs]
 ·obtain ⟨a, p, e, hr, hb⟩ := said_tint (base := 40) (n := n) (by omega) h1
  rw [e, apply_one, set_far s p (by omega), hb, said_no (base := 30) (by omega), if_neg (by decide), if_pos (by omega)]
theorem may_y {s : Sy} : mayY s = true ↔ (0 ≤ s.under ∧ s.under ≤ 5) ∧ colY s.fore = true ∧ colY s.back = true := by
 unfold mayY
 simp [and_assoc]
theorem sty_back {s : Sy} (h : mayY s = true) (t : Sy) : applyY t (parY s) = s := by
 obtain ⟨⟨u0, u1⟩, hf, hb⟩ := may_y.1 h
 have hz : applyY t [[0]] = usualY := rfl
 unfold parY
 rw [if_pos h]
 simp only [apply_app]
 rw [hz, app_bold, app_faint, app_italic, app_under _ u0 u1 rfl, app_blink, app_inverse, app_hidden, app_strike, app_fore _ hf rfl, app_back _ hb rfl]
 simp [usualY]
def pOk (p : List Int) : Prop := (1 ≤ p.length ∧ p.length ≤ 8) ∧ ∀ n ∈ p, -1 ≤ n ∧ n ≤ 1114111
theorem one_ok {b : Bool} {n : Int} (h0 : 0 ≤ n) (h1 : n ≤ 9) : (oneY b n).length ≤ 1 ∧ ∀ p ∈ oneY b n, pOk p := by
 unfold oneY
 split
 ·refine ⟨by simp, fun p hp => ?_⟩
  rw [List.mem_singleton.1 hp]
  refine ⟨by simp, fun m hm => ?_⟩
  rw [List.mem_singleton.1 hm]
  omega
 ·exact ⟨by simp, fun p hp => by cases hp⟩
theorem under_ok {u : Int} (h1 : u ≤ 5) : (underY u).length ≤ 1 ∧ ∀ p ∈ underY u, pOk p := by
 unfold underY
 split
 ·refine ⟨by simp, fun p hp => ?_⟩
  rw [List.mem_singleton.1 hp]
  exact ⟨by simp, fun m hm => by rw [List.mem_singleton.1 hm]; omega⟩
 ·split
  ·refine ⟨by simp, fun p hp => ?_⟩
   rw [List.mem_singleton.1 hp]
   refine ⟨by simp, fun m hm => ?_⟩
   simp only [List.mem_cons, List.not_mem_nil, or_false] at hm
   omega
  ·exact ⟨by simp, fun p hp => by cases hp⟩
theorem tint_ok {n base : Int} (h1 : n < 16777472) (b0 : 0 ≤ base) (b1 : base ≤ 40) : (tintY n base).length ≤ 1 ∧ ∀ p ∈ tintY n base, pOk p := by
 unfold tintY
 split
 ·exact ⟨by simp, fun p hp => by cases hp⟩
 ·split
  ·refine ⟨by simp, fun p hp => ?_⟩
   rw [List.mem_singleton.1 hp]
   exact ⟨by simp, fun m hm => by rw [List.mem_singleton.1 hm]; omega⟩
  ·split
   ·refine ⟨by simp, fun p hp => ?_⟩
    rw [List.mem_singleton.1 hp]
    exact ⟨by simp, fun m hm => by rw [List.mem_singleton.1 hm]; omega⟩
   ·split
    ·refine ⟨by simp, fun p hp => ?_⟩
     rw [List.mem_singleton.1 hp]
     refine ⟨by simp, fun m hm => ?_⟩
     simp only [List.mem_cons, List.not_mem_nil, or_false] at hm
     omega
    ·refine ⟨by simp, fun p hp => ?_⟩
     rw [List.mem_singleton.1 hp]
     refine ⟨by simp, fun m hm => ?_⟩
     simp only [List.mem_cons, List.not_mem_nil, or_false] at hm
     omega
theorem spar_ok {s : Sy} (h : mayY s = true) : parOk (parY s) = true ∧ parY s ≠ [] := by
 obtain ⟨⟨u0, u1⟩, hf, hb⟩ := may_y.1 h
 have hf := col_iff.1 hf
 have hb := col_iff.1 hb
 obtain ⟨a1, a2⟩ := one_ok (b := s.bold) (n := 1) (by decide) (by decide)
 obtain ⟨b1, b2⟩ := one_ok (b := s.faint) (n := 2) (by decide) (by decide)
 obtain ⟨c1, c2⟩ := one_ok (b := s.italic) (n := 3) (by decide) (by decide)
 obtain ⟨d1, d2⟩ := under_ok u1
 obtain ⟨e1, e2⟩ := one_ok (b := s.blink) (n := 5) (by decide) (by decide)
 obtain ⟨f1, f2⟩ := one_ok (b := s.inverse) (n := 7) (by decide) (by decide)
 obtain ⟨g1, g2⟩ := one_ok (b := s.hidden) (n := 8) (by decide) (by decide)
 obtain ⟨h1, h2⟩ := one_ok (b := s.strike) (n := 9) (by decide) (by decide)
 obtain ⟨i1, i2⟩ := tint_ok (base := 30) hf.2 (by decide) (by decide)
 obtain ⟨j1, j2⟩ := tint_ok (base := 40) hb.2 (by decide) (by decide)
 have hz : pOk [0] := ⟨by simp, fun m hm => by rw [List.mem_singleton.1 hm]; omega⟩
 have hall : ∀ p ∈ parY s, pOk p := by
  unfold parY
  rw [if_pos h]
  intro p hp
  simp only [List.mem_append, List.mem_singleton] at hp
  rcases hp with (((((((((hp | hp) | hp) | hp) | hp) | hp) | hp) | hp) | hp) | hp) | hp
  ·rw [hp]; exact hz
  ·exact a2 p hp
  ·exact b2 p hp
  ·exact c2 p hp
  ·exact d2 p hp
  ·exact e2 p hp
  ·exact f2 p hp
  ·exact g2 p hp
  ·exact h2 p hp
  ·exact i2 p hp
  ·exact j2 p hp
 have hne : ∃ t, parY s = [0] :: t := by
  unfold parY
  rw [if_pos h]
  exact ⟨oneY s.bold 1 ++ (oneY s.faint 2 ++ (oneY s.italic 3 ++ (underY s.under ++ (oneY s.blink 5 ++ (oneY s.inverse 7 ++ (oneY s.hidden 8 ++ (oneY s.strike 9 ++ (tintY s.fore 30 ++ tintY s.back 40)))))))), by simp only [List.append_assoc, List.cons_append, List.nil_append]⟩
 have hlen : (parY s).length ≤ 16 := by
  unfold parY
  rw [if_pos h]
  simp only [List.length_append, List.length_singleton]
  omega
 obtain ⟨t, ht⟩ := hne
 refine ⟨?_, by rw [ht]; simp⟩
 unfold parOk
 rw [decide_eq_true hlen, decide_eq_true (by rw [ht]; simp)]
 simp only [Bool.true_and, List.all_eq_true, Bool.and_eq_true, decide_eq_true_eq]
 exact fun p hp => ⟨⟨(hall p hp).1.1, (hall p hp).1.2⟩, fun n hn => (hall p hp).2 n hn⟩
theorem sty_text {s t : Sy} (hs : mayY s = true) (ht : mayY t = true) : parL (parY s) = parL (parY t) ↔ s = t := by
 constructor
 ·intro h
  have h2 : parY s = parY t := by rw [← nums_par (spar_ok hs).1, h, nums_par (spar_ok ht).1]
  rw [← sty_back hs usualY, h2, sty_back ht usualY]
 ·intro h
  rw [h]
end Go.Proofs.YtfifeofmfpjgfaaDoor
