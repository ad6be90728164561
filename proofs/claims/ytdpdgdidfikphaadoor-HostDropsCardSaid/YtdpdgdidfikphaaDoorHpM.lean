/-
  Layer 5's mathematics: the program's parser as a function of its fields, byte by byte; what it tells is what the document's tells.
-/
import Derived.Test.YtdpdgdidfikphaaDoorHosM
namespace Go.Proofs.YtdpdgdidfikphaaDoor

/-- The program's parser: where it goes on (0 idle, 1 escaped, 2 head, 3 inData, 4 inString, 5 closing), and its fields. -/
structure PB where
  how : Nat
  kind : Int
  priv : UInt8
  pars : List (List Int)
  inter : List UInt8
  final : UInt8
  data : List UInt8
  spoilt : Bool
def pb0 : PB := ⟨0, 0, 0, [], [], 0, [], false⟩
def pbE : PB := ⟨1, 5, 0, [], [], 0, [], false⟩
def PB.sq (b : PB) : Sq := ⟨b.kind, b.priv, b.pars, b.inter, b.final, b.data⟩
def endP (b : PB) : List Sq := if b.spoilt = true then [] else if mayS b.sq = 0 then [b.sq] else []
def noneC (c : UInt8) : Prop := c.toNat < 32 ∨ c.toNat = 127
instance (c : UInt8) : Decidable (noneC c) := by unfold noneC; infer_instance
def interP (b : PB) (c : UInt8) : PB := if b.inter.length = 2 then { b with spoilt := true } else { b with inter := b.inter ++ [c] }
def privP (b : PB) (c : UInt8) : PB := if b.priv ≠ 0 ∨ b.pars ≠ [] ∨ b.inter ≠ [] then { b with spoilt := true } else { b with priv := c }
def fulP (ps : List (List Int)) : List (List Int) := if ps = [] then [[-1]] else ps
def lastP (ps : List (List Int)) : List Int := ps.getLastD []
def paramP (b : PB) (c : UInt8) : PB :=
  if b.inter ≠ [] then { b with spoilt := true }
  else if c.toNat < 58 then { b with pars := (fulP b.pars).dropLast ++ [(lastP (fulP b.pars)).dropLast ++ [rd 65535 ((lastP (fulP b.pars)).getLastD 0) c]] }
  else if c.toNat = 58 ∧ (lastP (fulP b.pars)).length < 8 then { b with pars := (fulP b.pars).dropLast ++ [lastP (fulP b.pars) ++ [-1]] }
  else if c.toNat = 59 ∧ (fulP b.pars).length < 16 then { b with pars := fulP b.pars ++ [[-1]] }
  else { b with pars := fulP b.pars, spoilt := true }
def chooseP (b : PB) (c : UInt8) : PB × Bool :=
  if c.toNat = 91 then ({ b with how := 2, kind := 1 }, false)
  else if c.toNat = 80 then ({ b with how := 2, kind := 3 }, false)
  else if c.toNat = 93 then ({ b with how := 3, kind := 4 }, false)
  else if c.toNat = 88 ∨ c.toNat = 94 ∨ c.toNat = 95 then ({ b with how := 4, kind := -1 }, false)
  else ({ b with final := c }, true)
def escP (b : PB) (c : UInt8) : PB × Bool :=
  if c.toNat = 27 then (pbE, false)
  else if noneC c then (b, false)
  else if 127 < c.toNat then (pb0, false)
  else if c.toNat < 48 then (interP b c, false)
  else if b.inter = [] then chooseP b c
  else ({ b with final := c }, true)
def headP (b : PB) (c : UInt8) : PB × Bool :=
  if c.toNat = 27 then (pbE, false)
  else if noneC c then (b, false)
  else if 127 < c.toNat then (pb0, false)
  else if c.toNat < 48 then (interP b c, false)
  else if c.toNat < 60 then (paramP b c, false)
  else if c.toNat < 64 then (privP b c, false)
  else ({ b with final := c, how := 3 }, decide (b.kind = 1))
def dataP (b : PB) (c : UInt8) : PB × Bool :=
  if c.toNat = 27 then ({ b with how := 5 }, false)
  else if c.toNat = 7 ∧ b.kind = 4 then (b, true)
  else if noneC c then (b, false)
  else if 127 < c.toNat ∨ b.data.length = 4096 then ({ b with spoilt := true }, false)
  else ({ b with data := b.data ++ [c] }, false)
def strP (b : PB) (c : UInt8) : PB × Bool := if c.toNat = 27 then ({ b with how := 5 }, false) else (b, false)
def closeP (b : PB) (c : UInt8) : PB × Bool := if c.toNat = 92 then (b, true) else escP pbE c
def idleP (b : PB) (c : UInt8) : PB × Bool := if c.toNat = 27 then (pbE, false) else (b, false)
def nextP (b : PB) (c : UInt8) : PB × Bool :=
  if b.how = 0 then idleP b c else if b.how = 1 then escP b c else if b.how = 2 then headP b c else if b.how = 3 then dataP b c else if b.how = 4 then strP b c else closeP b c
def takeP (b : PB) (c : UInt8) : PB × Bool := if c.toNat = 24 ∨ c.toNat = 26 then (pb0, false) else nextP b c

/-- What the fields may be. -/
structure Fit (b : PB) : Prop where
  how : b.how ≤ 5
  np : b.pars.length ≤ 16
  nq : ∀ q ∈ b.pars, q ≠ [] ∧ q.length ≤ 8 ∧ ∀ n ∈ q, -1 ≤ n ∧ n ≤ 65535
  ni : b.inter.length ≤ 2
  nd : b.data.length ≤ 4096
theorem fit0 : Fit pb0 := ⟨by decide, by decide, fun q hq => (by cases hq), by decide, by decide⟩
theorem fitE : Fit pbE := ⟨by decide, by decide, fun q hq => (by cases hq), by decide, by decide⟩
theorem rd_rng (n : Int) (c : UInt8) (hc : 48 ≤ c.toNat) : -1 ≤ rd 65535 n c ∧ rd 65535 n c ≤ 65535 := by
  unfold rd
  omega
theorem Fit.inter {b : PB} (h : Fit b) (c : UInt8) : Fit (interP b c) := by
  unfold interP
  split
  · exact ⟨h.how, h.np, h.nq, h.ni, h.nd⟩
  · refine ⟨h.how, h.np, h.nq, ?_, h.nd⟩
    have := h.ni
    show (b.inter ++ [c]).length ≤ 2
    rw [List.length_append, List.length_singleton]; omega
theorem Fit.priv {b : PB} (h : Fit b) (c : UInt8) : Fit (privP b c) := by
  unfold privP
  split <;> exact ⟨h.how, h.np, h.nq, h.ni, h.nd⟩
/-- The parameters, with what stands ahead of them all told. -/
theorem ful_parts {ps : List (List Int)} (hn : ps.length ≤ 16) (h : ∀ q ∈ ps, q ≠ [] ∧ q.length ≤ 8 ∧ ∀ n ∈ q, -1 ≤ n ∧ n ≤ 65535) :
    ∃ d o m, fulP ps = d ++ [o ++ [m]] ∧ (fulP ps).length ≤ 16 ∧ (∀ q ∈ d, q ≠ [] ∧ q.length ≤ 8 ∧ ∀ n ∈ q, -1 ≤ n ∧ n ≤ 65535) ∧ o.length < 8 ∧ (∀ n ∈ o, -1 ≤ n ∧ n ≤ 65535) ∧ -1 ≤ m ∧ m ≤ 65535 := by
  by_cases h0 : ps = []
  · subst h0
    exact ⟨[], [], -1, rfl, by decide, fun q hq => (by cases hq), by decide, fun n hn => (by cases hn), by decide, by decide⟩
  · have e : fulP ps = ps := if_neg h0
    rw [e]
    have hd := List.dropLast_concat_getLast h0
    have hm := List.getLast_mem h0
    obtain ⟨q0, q1, q2⟩ := h _ hm
    have hq := List.dropLast_concat_getLast q0
    refine ⟨ps.dropLast, (ps.getLast h0).dropLast, (ps.getLast h0).getLast q0, ?_, hn, fun q hq => h q (List.dropLast_subset _ hq), ?_, fun n hn => q2 n (List.dropLast_subset _ hn), q2 _ (List.getLast_mem q0)⟩
    · rw [hq, hd]
    · have := List.length_pos_iff.2 q0
      rw [List.length_dropLast]; omega
theorem last_snoc (d : List (List Int)) (q : List Int) : lastP (d ++ [q]) = q := by simp [lastP]
theorem Fit.param {b : PB} (h : Fit b) (c : UInt8) (hc : 48 ≤ c.toNat) : Fit (paramP b c) := by
  obtain ⟨d, o, m, e, h1, h2, h3, h4, h5, h6⟩ := ful_parts h.np h.nq
  unfold paramP
  rw [e] at h1 ⊢
  rw [last_snoc]
  simp only [List.dropLast_concat, List.getLastD_concat]
  rw [List.length_append, List.length_singleton] at h1
  have key : ∀ q ∈ d ++ [o ++ [m]], q ≠ [] ∧ q.length ≤ 8 ∧ ∀ n ∈ q, -1 ≤ n ∧ n ≤ 65535 := fun q hq => by
    rcases List.mem_append.1 hq with hq | hq
    · exact h2 q hq
    · rw [List.mem_singleton] at hq
      subst hq
      refine ⟨by simp, by simp; omega, fun n hn => ?_⟩
      rcases List.mem_append.1 hn with hn | hn
      · exact h4 n hn
      · rw [List.mem_singleton] at hn; subst hn; exact ⟨h5, h6⟩
  split
  · exact ⟨h.how, h.np, h.nq, h.ni, h.nd⟩
  · split
    · refine ⟨h.how, by simp; omega, fun q hq => ?_, h.ni, h.nd⟩
      rcases List.mem_append.1 hq with hq | hq
      · exact h2 q hq
      · rw [List.mem_singleton] at hq
        subst hq
        refine ⟨by simp, by simp; omega, fun n hn => ?_⟩
        rcases List.mem_append.1 hn with hn | hn
        · exact h4 n hn
        · rw [List.mem_singleton] at hn; subst hn; exact rd_rng _ _ hc
    · split
      · rename_i hx
        refine ⟨h.how, by simp; omega, fun q hq => ?_, h.ni, h.nd⟩
        rcases List.mem_append.1 hq with hq | hq
        · exact h2 q hq
        · rw [List.mem_singleton] at hq
          subst hq
          refine ⟨by simp, by have := hx.2; simp at this ⊢; omega, fun n hn => ?_⟩
          rcases List.mem_append.1 hn with hn | hn
          · exact (key _ (by simp)).2.2 n hn
          · rw [List.mem_singleton] at hn; subst hn; exact ⟨by decide, by decide⟩
      · split
        · rename_i hx
          refine ⟨h.how, by have := hx.2; simp at this ⊢; omega, fun q hq => ?_, h.ni, h.nd⟩
          rcases List.mem_append.1 hq with hq | hq
          · exact key q hq
          · rw [List.mem_singleton] at hq
            subst hq
            exact ⟨by simp, by simp, fun n hn => by rw [List.mem_singleton] at hn; subst hn; exact ⟨by decide, by decide⟩⟩
        · exact ⟨h.how, by simp; omega, key, h.ni, h.nd⟩
theorem Fit.choose {b : PB} (h : Fit b) (c : UInt8) : Fit (chooseP b c).1 := by
  unfold chooseP
  (repeat' split) <;> first | exact ⟨h.how, h.np, h.nq, h.ni, h.nd⟩ | exact ⟨by simp, h.np, h.nq, h.ni, h.nd⟩
theorem Fit.esc {b : PB} (h : Fit b) (c : UInt8) : Fit (escP b c).1 := by
  unfold escP
  (repeat' split) <;> first | exact fitE | exact fit0 | exact h | exact h.inter c | exact h.choose c | exact ⟨h.how, h.np, h.nq, h.ni, h.nd⟩
theorem Fit.head {b : PB} (h : Fit b) (c : UInt8) : Fit (headP b c).1 := by
  unfold headP
  (repeat' split) <;> first | exact fitE | exact fit0 | exact h | exact h.inter c | exact h.param c (by omega) | exact h.priv c | exact ⟨by simp, h.np, h.nq, h.ni, h.nd⟩
theorem Fit.data_ {b : PB} (h : Fit b) (c : UInt8) : Fit (dataP b c).1 := by
  unfold dataP
  (repeat' split) <;> first
    | exact h
    | exact ⟨h.how, h.np, h.nq, h.ni, h.nd⟩
    | (rename_i hx; have := h.nd; exact ⟨h.how, h.np, h.nq, h.ni, by rw [List.length_append, List.length_singleton]; omega⟩)
    | exact ⟨by simp, h.np, h.nq, h.ni, h.nd⟩
    | (rename_i hx; have := h.nd; exact ⟨h.how, h.np, h.nq, h.ni, by rw [List.length_append, List.length_singleton]; omega⟩)
theorem Fit.take {b : PB} (h : Fit b) (c : UInt8) : Fit (takeP b c).1 := by
  unfold takeP nextP idleP strP closeP
  (repeat' split) <;> first
    | exact fit0 | exact fitE | exact h | exact h.esc c | exact h.head c | exact h.data_ c | exact fitE.esc c
    | exact ⟨by simp, h.np, h.nq, h.ni, h.nd⟩

/-- A byte more of parameters. -/
theorem nums_snoc (M : Int) (l : List UInt8) : ∀ (n : Int) (one : List Int), ∃ d o m, numsC M n one l = d ++ [o ++ [m]] ∧
    ∀ c, numsC M n one (l ++ [c]) = if isD c = true then d ++ [o ++ [rd M m c]] else if c = 59 then (d ++ [o ++ [m]]) ++ [[-1]] else d ++ [(o ++ [m]) ++ [-1]] := by
  induction l with
  | nil => intro n one; exact ⟨[], one, n, rfl, fun c => by simp [numsC]⟩
  | cons x l ih =>
    intro n one
    by_cases h1 : isD x = true
    · obtain ⟨d, o, m, e1, e2⟩ := ih (rd M n x) one
      refine ⟨d, o, m, ?_, fun c => ?_⟩
      · rw [numsC, if_pos h1, e1]
      · rw [List.cons_append, numsC, if_pos h1, e2]
    · by_cases h2 : x = 59
      · obtain ⟨d, o, m, e1, e2⟩ := ih (-1) []
        refine ⟨(one ++ [n]) :: d, o, m, ?_, fun c => ?_⟩
        · rw [numsC, if_neg h1, if_pos h2, e1]; rfl
        · rw [List.cons_append, numsC, if_neg h1, if_pos h2, e2]
          split
          · rfl
          · split <;> rfl
      · obtain ⟨d, o, m, e1, e2⟩ := ih (-1) (one ++ [n])
        refine ⟨d, o, m, ?_, fun c => ?_⟩
        · rw [numsC, if_neg h1, if_neg h2, e1]
        · rw [List.cons_append, numsC, if_neg h1, if_neg h2, e2]
def many (ps : List (List Int)) : Prop := 16 < ps.length ∨ ∃ q ∈ ps, 8 < q.length
theorem many_no {ps : List (List Int)} (h : many ps) : parOk ps = false := by
  cases hp : parOk ps with
  | false => rfl
  | true =>
    simp only [parOk, Bool.and_eq_true, decide_eq_true_eq, List.all_eq_true] at hp
    rcases h with h | ⟨q, hq, h⟩
    · have := hp.1.1; omega
    · have := (hp.2 q hq).1.2; omega
theorem nums_ne (t : List UInt8) : numsC 65535 (-1) [] t ≠ [] := by
  obtain ⟨d, o, m, e, _⟩ := nums_snoc 65535 t (-1) []
  rw [e]; simp
theorem numsH_snoc (t : List UInt8) (c : UInt8) : numsH (t ++ [c]) = numsC 65535 (-1) [] (t ++ [c]) := if_neg (by simp)
theorem numsH_ful (t : List UInt8) : fulP (numsH t) = numsC 65535 (-1) [] t := by
  unfold numsH fulP
  by_cases h : t = []
  · subst h; rfl
  · rw [if_neg h, if_neg (nums_ne t)]
theorem many_snoc {t : List UInt8} (h : many (numsH t)) (c : UInt8) : many (numsH (t ++ [c])) := by
  have h' : many (numsC 65535 (-1) [] t) := by
    unfold numsH at h
    split at h
    · rcases h with h | ⟨q, hq, _⟩
      · simp at h
      · cases hq
    · exact h
  clear h
  obtain ⟨d, o, m, e1, e2⟩ := nums_snoc 65535 t (-1) []
  rw [numsH_snoc, e2]
  rw [e1] at h'
  rcases h' with h | ⟨q, hq, h⟩
  · simp only [List.length_append, List.length_singleton] at h
    refine .inl ?_
    split
    · simp; omega
    · split <;> (simp; omega)
  · rcases List.mem_append.1 hq with hq | hq
    · refine .inr ⟨q, ?_, h⟩
      split
      · simp [hq]
      · split <;> simp [hq]
    · rw [List.mem_singleton] at hq
      subst hq
      simp only [List.length_append, List.length_singleton] at h
      split
      · exact .inr ⟨o ++ [rd 65535 m c], by simp, by simp; omega⟩
      · split
        · exact .inr ⟨o ++ [m], by simp, by simp; omega⟩
        · exact .inr ⟨(o ++ [m]) ++ [-1], by simp, by simp; omega⟩
/-- What is told no more. -/
def Dead (p : HP) : Prop := p.bad = true ∨ many (numsH p.text)
theorem Dead.told {p : HP} (h : Dead p) (k : Int) (f : UInt8) : toldH { p with s := { p.s with kind := k, final := f } } = [] := by
  unfold toldH
  rcases h with h | h
  · rw [if_pos h]
  · split
    · rfl
    · refine if_neg ?_
      have := many_no h
      unfold mayS okS
      dsimp only
      rw [this]
      split
      · decide
      · simp
theorem Dead.told' {p : HP} (h : Dead p) : toldH p = [] := h.told p.s.kind p.s.final
theorem kind_no {s : Sq} (h : s.kind = -1) : mayS s ≠ 0 := by
  have hl : lastOk s = false := by
    unfold lastOk
    rw [if_neg (by omega), if_neg (by omega), decide_eq_false (by omega)]
    rfl
  unfold mayS okS
  rw [hl]
  split
  · decide
  · simp
end Go.Proofs.YtdpdgdidfikphaaDoor
