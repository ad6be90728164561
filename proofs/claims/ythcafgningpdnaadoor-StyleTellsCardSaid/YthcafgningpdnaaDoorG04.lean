/-
  Layer 18's mathematics: how characters look, and the parameters that tell it.
-/
import Derived.Test.YthcafgningpdnaaDoorG03
namespace Go.Proofs.YthcafgningpdnaaDoor
structure Sy where
 bold : Bool
 faint : Bool
 italic : Bool
 blink : Bool
 inverse : Bool
 hidden : Bool
 strike : Bool
 under : Int
 fore : Int
 back : Int
deriving DecidableEq
def usualY : Sy := ⟨false, false, false, false, false, false, false, 0, -1, -1⟩
def colY (n : Int) : Bool := decide (-1 ≤ n) && decide (n < 16777472)
def mayY (s : Sy) : Bool := decide (0 ≤ s.under) && decide (s.under ≤ 5) && colY s.fore && colY s.back
def oneY (b : Bool) (n : Int) : List (List Int) := if b = true then [[n]] else []
def underY (u : Int) : List (List Int) := if u = 1 then [[4]] else if 1 < u then [[4, u]] else []
def tintY (n base : Int) : List (List Int) :=
 if n < 0 then [] else if n < 8 then [[base + n]] else if n < 16 then [[base + 52 + n]] else if n < 256 then [[base + 8, 5, n]] else [[base + 8, 2, -1, (n - 256) / 65536, (n - 256) / 256 % 256, (n - 256) % 256]]
def parY (s : Sy) : List (List Int) :=
 if mayY s = true then [[0]] ++ oneY s.bold 1 ++ oneY s.faint 2 ++ oneY s.italic 3 ++ underY s.under ++ oneY s.blink 5 ++ oneY s.inverse 7 ++ oneY s.hidden 8 ++ oneY s.strike 9 ++ tintY s.fore 30 ++ tintY s.back 40 else []
def byteY (n : Int) : Bool := decide (0 ≤ n) && decide (n ≤ 255)
def partedY (p : List Int) : Int :=
 match p with
 | [_, a, n] => if a = 5 ∧ byteY n = true then n else -2
 | [_, a, _, r, g, b] => if a = 2 ∧ byteY r = true ∧ byteY g = true ∧ byteY b = true then 256 + 65536 * r + 256 * g + b else -2
 | _ => -2
def saidY (p : List Int) (a base : Int) : Int :=
 if 0 ≤ a - base ∧ a - base ≤ 7 then a - base else if a - base = 9 then -1 else if 60 ≤ a - base ∧ a - base ≤ 67 then a - base - 52 else if a - base = 8 then partedY p else -2
def flagY (s : Sy) (n : Int) : Sy :=
 if n = 1 then { s with bold := true } else if n = 2 then { s with faint := true } else if n = 3 then { s with italic := true } else if n = 5 then { s with blink := true } else if n = 7 then { s with inverse := true } else if n = 8 then { s with hidden := true } else if n = 9 then { s with strike := true } else s
def undY (s : Sy) (p : List Int) : Sy :=
 match p with
 | _ :: u :: _ => if 0 ≤ u ∧ u ≤ 5 then { s with under := u } else s
 | _ => { s with under := 1 }
def setY (s : Sy) (p : List Int) : Sy :=
 match p with
 | [] => usualY
 | a :: _ =>
   if a ≤ 0 then usualY else if a = 4 then undY s p
   else flagY { s with fore := if -1 ≤ saidY p a 30 then saidY p a 30 else s.fore, back := if -1 ≤ saidY p a 40 then saidY p a 40 else s.back } a
def applyY (s : Sy) (l : List (List Int)) : Sy := l.foldl setY s
theorem apply_app (s : Sy) (a b : List (List Int)) : applyY s (a ++ b) = applyY (applyY s a) b := List.foldl_append
theorem said_no {p : List Int} {a base : Int} (h : a - base < 0 ∨ (9 < a - base ∧ (a - base < 60 ∨ 67 < a - base))) : saidY p a base = -2 := by
 unfold saidY
 rw [if_neg (by omega), if_neg (by omega), if_neg (by omega), if_neg (by omega)]
theorem col_iff {n : Int} : colY n = true ↔ -1 ≤ n ∧ n < 16777472 := by unfold colY; simp
theorem may_y {s : Sy} : mayY s = true ↔ (0 ≤ s.under ∧ s.under ≤ 5) ∧ colY s.fore = true ∧ colY s.back = true := by
 unfold mayY
 simp [and_assoc]
def pOk (p : List Int) : Prop := (1 ≤ p.length ∧ p.length ≤ 8) ∧ ∀ n ∈ p, -1 ≤ n ∧ n ≤ 1114111
theorem one_ok {b : Bool} {n : Int} (h0 : 0 ≤ n) (h1 : n ≤ 9) : (oneY b n).length ≤ 1 ∧ ∀ p ∈ oneY b n, pOk p := by
 unfold oneY
 split
 ·refine ⟨by simp, fun p hp => ?_⟩
  rw [List.mem_singleton.1 hp]
  refine ⟨by simp, fun m hm => ?_⟩
  rw [List.mem_singleton.1 hm]
  omega
 ·exact ⟨by simp, fun p hp => by cases hp⟩
theorem under_ok {u : Int} (h1 : u ≤ 5) : (underY u).length ≤ 1 ∧ ∀ p ∈ underY u, pOk p := by
 unfold underY
 split
 ·refine ⟨by simp, fun p hp => ?_⟩
  rw [List.mem_singleton.1 hp]
  exact ⟨by simp, fun m hm => by rw [List.mem_singleton.1 hm]; omega⟩
 ·split
  ·refine ⟨by simp, fun p hp => ?_⟩
   rw [List.mem_singleton.1 hp]
   refine ⟨by simp, fun m hm => ?_⟩
   simp only [List.mem_cons, List.not_mem_nil, or_false] at hm
   omega
  ·exact ⟨by simp, fun p hp => by cases hp⟩
theorem tint_ok {n base : Int} (h1 : n < 16777472) (b0 : 0 ≤ base) (b1 : base ≤ 40) : (tintY n base).length ≤ 1 ∧ ∀ p ∈ tintY n base, pOk p := by
 unfold tintY
 split
 ·exact ⟨by simp, fun p hp => by cases hp⟩
 ·split
  ·refine ⟨by simp, fun p hp => ?_⟩
   rw [List.mem_singleton.1 hp]
   exact ⟨by simp, fun m hm => by rw [List.mem_singleton.1 hm]; omega⟩
  ·split
   ·refine ⟨by simp, fun p hp => ?_⟩
    rw [List.mem_singleton.1 hp]
    exact ⟨by simp, fun m hm => by rw [List.mem_singleton.1 hm]; omega⟩
   ·split
    ·refine ⟨by simp, fun p hp => ?_⟩
     rw [List.mem_singleton.1 hp]
     refine ⟨by simp, fun m hm => ?_⟩
     simp only [List.mem_cons, List.not_mem_nil, or_false] at hm
     omega
    ·refine ⟨by simp, fun p hp => ?_⟩
     rw [List.mem_singleton.1 hp]
     refine ⟨by simp, fun m hm => ?_⟩
     simp only [List.mem_cons, List.not_mem_nil, or_false] at hm
     omega
theorem spar_ok {s : Sy} (h : mayY s = true) : parOk (parY s) = true ∧ parY s ≠ [] := by
 obtain ⟨⟨u0, u1⟩, hf, hb⟩ := may_y.1 h
 have hf := col_iff.1 hf
 have hb := col_iff.1 hb
 obtain ⟨a1, a2⟩ := one_ok (b := s.bold) (n := 1) (by decide) (by decide)
 obtain ⟨b1, b2⟩ := one_ok (b := s.faint) (n := 2) (by decide) (by decide)
 obtain ⟨c1, c2⟩ := one_ok (b := s.italic) (n := 3) (by decide) (by decide)
 obtain ⟨d1, d2⟩ := under_ok u1
 obtain ⟨e1, e2⟩ := one_ok (b := s.blink) (n := 5) (by decide) (by decide)
 obtain ⟨f1, f2⟩ := one_ok (b := s.inverse) (n := 7) (by decide) (by decide)
 obtain ⟨g1, g2⟩ := one_ok (b := s.hidden) (n := 8) (by decide) (by decide)
 obtain ⟨h1, h2⟩ := one_ok (b := s.strike) (n := 9) (by decide) (by decide)
 obtain ⟨i1, i2⟩ := tint_ok (base := 30) hf.2 (by decide) (by decide)
 obtain ⟨j1, j2⟩ := tint_ok (base := 40) hb.2 (by decide) (by decide)
 have hz : pOk [0] := ⟨by simp, fun m hm => by rw [List.mem_singleton.1 hm]; omega⟩
 have hall : ∀ p ∈ parY s, pOk p := by
  unfold parY
  rw [if_pos h]
  intro p hp
  simp only [List.mem_append, List.mem_singleton] at hp
  rcases hp with (((((((((hp | hp) | hp) | hp) | hp) | hp) | hp) | hp) | hp) | hp) | hp
  ·rw [hp]; exact hz
  ·exact a2 p hp
  ·exact b2 p hp
  ·exact c2 p hp
  ·exact d2 p hp
  ·exact e2 p hp
  ·exact f2 p hp
  ·exact g2 p hp
  ·exact h2 p hp
  ·exact i2 p hp
  ·exact j2 p hp
 have hne : ∃ t, parY s = [0] :: t := by
  unfold parY
  rw [if_pos h]
  exact ⟨oneY s.bold 1 ++ (oneY s.faint 2 ++ (oneY s.italic 3 ++ (underY s.under ++ (oneY s.blink 5 ++ (oneY s.inverse 7 ++ (oneY s.hidden 8 ++ (oneY s.strike 9 ++ (tintY s.fore 30 ++ tintY s.back 40)))))))), by simp only [List.append_assoc, List.cons_append, List.nil_append]⟩
 have hlen : (parY s).length ≤ 16 := by
  unfold parY
  rw [if_pos h]
  simp only [List.length_append, List.length_singleton]
  omega
 obtain ⟨t, ht⟩ := hne
 refine ⟨?_, by rw [ht]; simp⟩
 unfold parOk
 rw [decide_eq_true hlen, decide_eq_true (by rw [ht]; simp)]
 simp only [Bool.true_and, List.all_eq_true, Bool.and_eq_true, decide_eq_true_eq]
 exact fun p hp => ⟨⟨(hall p hp).1.1, (hall p hp).1.2⟩, fun n hn => (hall p hp).2 n hn⟩
end Go.Proofs.YthcafgningpdnaaDoor
