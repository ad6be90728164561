/-
  Layer 3's mathematics: the sequence with which bytes begin is told there and back, and there is one at most. A map that a literal makes, its entries laid in whatever order the region draws: what it reads as at the end.
-/
import Derived.Test.YtmagokkegadmiaaGreatDoorG01
import Derived.Test.YtmagokkegadmiaaGreatDoorG04
import Derived.Maps.OwnSet
import Derived.Maps.Ext
import Derived.Orders
import Derived.Carry
namespace Go.Proofs.YtmagokkegadmiaaGreatDoor

theorem tw {p : UInt8 → Bool} {c : UInt8} : ∀ (a m : List UInt8), (∀ x ∈ a, p x = true) → p c = false → (a ++ c :: m).takeWhile p = a := by
  intro a
  induction a with
  | nil => intro m _ hc; rw [List.nil_append, List.takeWhile_cons_of_neg (by rw [hc]; simp)]
  | cons x a ih =>
    intro m h hc
    rw [List.cons_append, List.takeWhile_cons_of_pos (h x (List.mem_cons_self ..)), ih m (fun y hy => h y (List.mem_cons_of_mem _ hy)) hc]

/-- The sequence that bytes might begin with, and how many its bytes would be. -/
def escS (r : List UInt8) : Option (Sq × Nat) :=
  match r.drop (r.takeWhile (btw 32 47)).length with
  | [] => none
  | f :: _ => some (⟨5, 0, [], r.takeWhile (btw 32 47), f, []⟩, 1 + (r.takeWhile (btw 32 47)).length + 1)
def tailS (k : Int) (pv : UInt8) (n : Nat) (r : List UInt8) : Option (Sq × Nat) :=
  match (r.drop (r.takeWhile (btw 48 59)).length).drop ((r.drop (r.takeWhile (btw 48 59)).length).takeWhile (btw 32 47)).length with
  | [] => none
  | f :: d => some (⟨k, pv, numsL (r.takeWhile (btw 48 59)), (r.drop (r.takeWhile (btw 48 59)).length).takeWhile (btw 32 47), f, if k = 3 then d.takeWhile (btw 32 126) else []⟩,
      n + (r.takeWhile (btw 48 59)).length + ((r.drop (r.takeWhile (btw 48 59)).length).takeWhile (btw 32 47)).length + 1 + if k = 3 then (d.takeWhile (btw 32 126)).length + 2 else 0)
def seqS (k : Int) (r : List UInt8) : Option (Sq × Nat) :=
  match r with
  | c :: r' => if btw 60 63 c = true then tailS k c 3 r' else tailS k 0 2 (c :: r')
  | [] => tailS k 0 2 []
def guessS (t : List UInt8) : Option (Sq × Nat) :=
  match t with
  | c0 :: c1 :: r =>
    if c0 ≠ 27 then none
    else if c1 = 79 then (match r with | f :: _ => some (⟨2, 0, [], [], f, []⟩, 3) | [] => none)
    else if c1 = 93 then some (⟨4, 0, [], [], 0, r.takeWhile (btw 32 126)⟩, 2 + (r.takeWhile (btw 32 126)).length + 2)
    else if c1 = 91 then seqS 1 r
    else if c1 = 80 then seqS 3 r
    else escS (c1 :: r)
  | _ => none

theorem tail_put (k : Int) (pv : UInt8) (n : Nat) (ps : List (List Int)) (it : List UInt8) (f : UInt8) (d m : List UInt8) (hp : parOk ps = true) (hi : ∀ c ∈ it, btw 32 47 c = true) (hf : btw 64 126 f = true) (hd : k = 3 → (∃ m', m = 27 :: m') ∧ ∀ c ∈ d, btw 32 126 c = true) (hk : k ≠ 3 → d = []) :
    tailS k pv n (parL ps ++ (it ++ (f :: (d ++ m)))) = some (⟨k, pv, ps, it, f, d⟩, n + (parL ps).length + it.length + 1 + if k = 3 then d.length + 2 else 0) := by
  have f1 : btw 48 59 f = false := by rw [btw_no]; have := (btw_iff _ _ _).1 hf; omega
  have f2 : btw 32 47 f = false := by rw [btw_no]; have := (btw_iff _ _ _).1 hf; omega
  have e1 : (parL ps ++ (it ++ (f :: (d ++ m)))).takeWhile (btw 48 59) = parL ps := by
    cases it with
    | nil => exact tw _ _ (par_btw ps) f1
    | cons c it =>
      refine tw _ _ (par_btw ps) ?_
      have := (btw_iff _ _ _).1 (hi c (List.mem_cons_self ..))
      rw [btw_no]; omega
  have e2 : (parL ps ++ (it ++ (f :: (d ++ m)))).drop (parL ps).length = it ++ (f :: (d ++ m)) := List.drop_left
  have e3 : (it ++ (f :: (d ++ m))).takeWhile (btw 32 47) = it := tw _ _ hi f2
  have e4 : (it ++ (f :: (d ++ m))).drop it.length = f :: (d ++ m) := List.drop_left
  unfold tailS
  simp only [e1, e2, e3, e4]
  rw [nums_par hp]
  by_cases h3 : k = 3
  · obtain ⟨⟨m', rfl⟩, hd2⟩ := hd h3
    have e5 : (d ++ 27 :: m').takeWhile (btw 32 126) = d := tw _ _ hd2 (by decide)
    rw [if_pos h3, e5, if_pos h3]
  · rw [hk h3, if_neg h3, if_neg h3, if_neg h3]

theorem ok_parts {s : Sq} (h : mayS s = 0) : s.data.length ≤ 4096 ∧ privOk s.priv = true ∧ parOk s.params = true ∧ s.inter.length ≤ 2 ∧ (∀ c ∈ s.inter, btw 32 47 c = true) ∧ (∀ c ∈ s.data, btw 32 126 c = true) ∧ lastOk s = true ∧ bareOk s = true := by
  unfold mayS at h
  split at h
  · cases h
  · split at h
    · rename_i h1 h2
      simp only [okS, Bool.and_eq_true, decide_eq_true_eq, List.all_eq_true] at h2
      obtain ⟨⟨⟨⟨⟨⟨a, b⟩, c⟩, d⟩, e⟩, f⟩, g⟩ := h2
      exact ⟨by omega, a, b, c, d, e, f, g⟩
    · cases h

theorem seq_put (k : Int) (pv : UInt8) (ps : List (List Int)) (it : List UInt8) (f : UInt8) (d m : List UInt8) (hv : privOk pv = true) (hp : parOk ps = true) (hi : ∀ c ∈ it, btw 32 47 c = true) (hf : btw 64 126 f = true) (hd : k = 3 → (∃ m', m = 27 :: m') ∧ ∀ c ∈ d, btw 32 126 c = true) (hk : k ≠ 3 → d = []) :
    seqS k (privL pv ++ (parL ps ++ (it ++ (f :: (d ++ m))))) = some (⟨k, pv, ps, it, f, d⟩, 2 + (privL pv).length + (parL ps).length + it.length + 1 + if k = 3 then d.length + 2 else 0) := by
  by_cases h0 : pv = 0
  · subst h0
    have ht := tail_put k 0 2 ps it f d m hp hi hf hd hk
    show seqS k (parL ps ++ (it ++ (f :: (d ++ m)))) = _
    have hhead : ∀ c r, parL ps ++ (it ++ (f :: (d ++ m))) = c :: r → btw 60 63 c = false := by
      intro c r e
      rw [btw_no]
      cases hps : parL ps with
      | cons x xs =>
        rw [hps] at e
        obtain rfl : x = c := by simpa using congrArg List.head? e
        have := (btw_iff _ _ _).1 (par_btw ps x (by rw [hps]; exact List.mem_cons_self ..))
        omega
      | nil =>
        rw [hps] at e
        cases it with
        | cons x xs =>
          obtain rfl : x = c := by simpa using congrArg List.head? e
          have := (btw_iff _ _ _).1 (hi x (List.mem_cons_self ..))
          omega
        | nil =>
          obtain rfl : f = c := by simpa using congrArg List.head? e
          have := (btw_iff _ _ _).1 hf
          omega
    generalize parL ps ++ (it ++ (f :: (d ++ m))) = t at *
    cases t with
    | nil => exact ht
    | cons c r =>
      unfold seqS
      dsimp only
      rw [if_neg (by rw [hhead c r rfl]; decide)]
      exact ht
  · have e : privL pv = [pv] := if_neg h0
    have hb : btw 60 63 pv = true := by
      simp only [privOk, Bool.or_eq_true, decide_eq_true_eq] at hv
      exact hv.resolve_left h0
    rw [e]
    unfold seqS
    simp only [List.cons_append, List.nil_append]
    rw [if_pos hb, tail_put k pv 3 ps it f d m hp hi hf hd hk]
    simp

theorem guess_put {s : Sq} (h : mayS s = 0) (m : List UInt8) : guessS (putS s ++ m) = some (s, (putS s).length) := by
  obtain ⟨_, hv, hp, _, hi, hd, hl, hb⟩ := ok_parts h
  obtain ⟨k, pv, ps, it, f, d⟩ := s
  dsimp only at hv hp hi hd
  have hcases : k = 1 ∨ k = 2 ∨ k = 3 ∨ k = 4 ∨ k = 5 := by
    unfold lastOk at hl
    dsimp only at hl
    split at hl
    · omega
    · split at hl
      · omega
      · simp only [Bool.and_eq_true, decide_eq_true_eq] at hl; omega
  rcases hcases with rfl | rfl | rfl | rfl | rfl
  · -- CSI
    have hf : btw 64 126 f = true := by simpa [lastOk] using hl
    have hd0 : d = [] := by simpa [bareOk] using hb
    subst hd0
    have := seq_put 1 pv ps it f [] m hv hp hi hf (by omega) (fun _ => rfl)
    have e : putS ⟨1, pv, ps, it, f, []⟩ ++ m = 27 :: 91 :: (privL pv ++ (parL ps ++ (it ++ (f :: ([] ++ m))))) := by
      simp [putS, bodyL]
    rw [e]
    show seqS 1 _ = _
    rw [this]
    simp [putS, bodyL]; omega
  · -- SS3
    have h1 : pv = 0 ∧ ps = [] ∧ it = [] ∧ d = [] := by
      simp [bareOk] at hb
      obtain ⟨⟨⟨a, b⟩, c⟩, e⟩ := hb
      exact ⟨a, b, c, e⟩
    obtain ⟨rfl, rfl, rfl, rfl⟩ := h1
    rfl
  · -- DCS
    have hf : btw 64 126 f = true := by simpa [lastOk] using hl
    have := seq_put 3 pv ps it f d (27 :: 92 :: m) hv hp hi hf (fun _ => ⟨⟨_, rfl⟩, hd⟩) (fun h => absurd rfl h)
    have e : putS ⟨3, pv, ps, it, f, d⟩ ++ m = 27 :: 80 :: (privL pv ++ (parL ps ++ (it ++ (f :: (d ++ (27 :: 92 :: m)))))) := by
      simp [putS, bodyL]
    rw [e]
    show seqS 3 _ = _
    rw [this]
    simp [putS, bodyL]; omega
  · -- OSC
    have h1 : pv = 0 ∧ ps = [] ∧ it = [] := by
      simp [bareOk] at hb
      exact ⟨hb.1.1, hb.1.2, hb.2⟩
    have hf : f = 0 := by simpa [lastOk] using hl
    obtain ⟨rfl, rfl, rfl⟩ := h1
    subst hf
    have e : putS ⟨4, 0, [], [], 0, d⟩ ++ m = 27 :: 93 :: (d ++ (27 :: 92 :: m)) := by simp [putS]
    rw [e]
    show some _ = _
    rw [tw d (92 :: m) hd (by decide)]
    simp [putS]; omega
  · -- ESC
    have h1 : pv = 0 ∧ ps = [] ∧ d = [] := by
      simp [bareOk] at hb
      exact ⟨hb.1.1, hb.1.2, hb.2⟩
    obtain ⟨rfl, rfl, rfl⟩ := h1
    have hf : btw 48 126 f = true ∧ (it ≠ [] ∨ ¬ (f = 79 ∨ f = 80 ∨ f = 88 ∨ f = 91 ∨ f = 93 ∨ f = 92 ∨ f = 94 ∨ f = 95)) := by
      simp [lastOk] at hl
      refine ⟨hl.1, ?_⟩
      rcases hl.2 with h | h
      · exact .inl h
      · right
        intro hh
        rcases hh with rfl | rfl | rfl | rfl | rfl | rfl | rfl | rfl <;> simp at h
    have f2 : btw 32 47 f = false := by rw [btw_no]; have := (btw_iff _ _ _).1 hf.1; omega
    have e : putS ⟨5, 0, [], it, f, []⟩ ++ m = 27 :: (it ++ (f :: m)) := by simp [putS]
    have hg : ∀ c1 r, it ++ (f :: m) = c1 :: r → c1 ≠ 79 ∧ c1 ≠ 93 ∧ c1 ≠ 91 ∧ c1 ≠ 80 := by
      intro c1 r e
      cases it with
      | cons x xs =>
        obtain rfl : x = c1 := by simpa using congrArg List.head? e
        have := (btw_iff _ _ _).1 (hi x (List.mem_cons_self ..))
        refine ⟨?_, ?_, ?_, ?_⟩ <;> (rintro rfl; simp at this)
      | nil =>
        obtain rfl : f = c1 := by simpa using congrArg List.head? e
        have := hf.2.resolve_left (by simp)
        refine ⟨?_, ?_, ?_, ?_⟩ <;> (intro h; exact this (by simp [h]))
    rw [e]
    have es : escS (it ++ (f :: m)) = some (⟨5, 0, [], it, f, []⟩, 1 + it.length + 1) := by
      unfold escS
      rw [tw it m hi f2, List.drop_left]
    cases ht : it ++ (f :: m) with
    | nil => simp at ht
    | cons c1 r =>
      obtain ⟨g1, g2, g3, g4⟩ := hg c1 r ht
      show (if (27 : UInt8) ≠ 27 then none else _) = _
      rw [if_neg (by simp), if_neg g1, if_neg g2, if_neg g3, if_neg g4, ← ht, es]
      simp [putS]; omega

/-- The sequence with which bytes begin. -/
def takeS (b : List UInt8) : Option (Sq × Nat) :=
  match guessS b with
  | some (s, n) => if n ≤ b.length ∧ mayS s = 0 ∧ putS s = b.take n then some (s, n) else none
  | none => none
theorem takeS_put {s : Sq} (h : mayS s = 0) (m : List UInt8) : takeS (putS s ++ m) = some (s, (putS s).length) := by
  unfold takeS
  rw [guess_put h m]
  dsimp only
  rw [if_pos ⟨by rw [List.length_append]; omega, h, by rw [List.take_left]⟩]
theorem takeS_some {b : List UInt8} {s : Sq} {n : Nat} (h : takeS b = some (s, n)) : mayS s = 0 ∧ n = (putS s).length ∧ b = putS s ++ b.drop n := by
  unfold takeS at h
  split at h
  · rename_i s' n' hg
    split at h
    · rename_i hc
      simp only [Option.some.injEq, Prod.mk.injEq] at h
      obtain ⟨rfl, rfl⟩ := h
      refine ⟨hc.2.1, ?_, by rw [hc.2.2, List.take_append_drop]⟩
      rw [hc.2.2, List.length_take]; omega
    · cases h
  · cases h
theorem putS_inj {s t : Sq} (hs : mayS s = 0) (ht : mayS t = 0) (h : putS s = putS t) : s = t := by
  have h1 := takeS_put hs []
  have h2 := takeS_put ht []
  rw [h, h2] at h1
  simp only [Option.some.injEq, Prod.mk.injEq] at h1
  exact h1.1.symm
theorem putS_ne {s : Sq} : 2 ≤ (putS s).length := by
  unfold putS
  repeat' split
  all_goals simp
/-- No beginning of a sequence's bytes is one's bytes, or begins with one's. -/
theorem take_cut {s : Sq} (h : mayS s = 0) (k : Nat) (hk : k < (putS s).length) : takeS ((putS s).take k) = none := by
  cases hc : takeS ((putS s).take k) with
  | none => rfl
  | some x =>
    obtain ⟨t, n⟩ := x
    obtain ⟨ht, hn, e⟩ := takeS_some hc
    have e2 : putS s = putS t ++ (((putS s).take k).drop n ++ (putS s).drop k) := by
      rw [← List.append_assoc, ← e, List.take_append_drop]
    have h1 := takeS_put h []
    rw [List.append_nil, e2, takeS_put ht] at h1
    simp only [Option.some.injEq, Prod.mk.injEq] at h1
    obtain ⟨rfl, h2⟩ := h1
    have h3 := congrArg List.length e
    rw [List.length_take, List.length_append] at h3
    omega
end Go.Proofs.YtmagokkegadmiaaGreatDoor
namespace Go.Proofs.YtmagokkegadmiaaGreatDoor
open Go.RowKit Go.Maps Go.ChangeMaps

/-- An element as it is. -/
def hel (v : Value) : Option (DataW Value × List MemPlace) := some (.held v, [])

section
variable {P : Program} {ops : Array Oper} {Q : Exit → Act → World → Prop} {md : Region.Mode}

/-- Quiet operations, taken one behind the other. -/
inductive Takes (P : Program) (md : Region.Mode) (ops : Array Oper) : Nat → Array Bool → Act → Array Bool → Act → Prop
  | nil {l a} : Takes P md ops 0 l a l a
  | cons {n l a l' a'} (i : Nat) {o : Oper} (v : Value) (hi : ops[i]? = some o) (hf : Region.free md ops l i = true) (hr : (Region.ready md ops l).contains i = true)
      (hy : Yields P ops o v a) (h : Takes P md ops n (l.setIfInBounds i true) (a.put o.dst v) l' a') : Takes P md ops (n + 1) l a l' a'
theorem wpAny_takes (hs : Region.noSelect ops = true) (hQ : ∀ c a d v w, Q (.panic c) (a.put d v) w → Q (.panic c) a w) {n : Nat} {l l' : Array Bool} {a a' : Act} (h : Takes P md ops n l a l' a') :
    ∀ {fuel : Nat} {w : World}, wpAny P md ops Q fuel l' a' w → wpAny P md ops Q (fuel + n) l a w := by
  induction h with
  | nil => exact fun h => h
  | cons i v hi hf hr hy _ ih => exact fun h => wpAny_take hi hs hf hr (fun c a w => hQ c a _ v w) hy (ih h)

theorem Takes.done {l l' : Array Bool} {a a' : Act} (hl : l = l') (ha : a = a') : Takes P md ops 0 l a l' a' := by
  subst hl ha
  exact .nil
theorem wpOp_make {T : TypeId} {i : Nat} {o : Oper} (hi : ops[i]? = some o) (hop : o.op = .makeMap T none) (hg : o.guard = none) {a : Act} {w : World} {G : Act → World → Prop} (h : G (a.put o.dst (.map (some w.heap.size))) (w.alloc (.map #[] 0))) : wpOp P ops Q i G a w := by
  unfold wpOp
  simp only [hi, Region.wanted, hg]
  refine .inl ?_
  unfold Oper.wp
  have e : (execOp a.eval o).run P w = .ok (.value (.map (some w.heap.size))) (w.alloc (.map #[] 0)) := by
    unfold execOp
    rw [hop]
    simp [run_makeMap, Result.andThen]
  rw [e, Oper.upon_value]
  exact h
theorem wpAny_only {i fuel : Nat} {l : Array Bool} {a : Act} {w : World} (hr : Region.ready md ops l = [i]) (h : wpOp P ops Q i (wpAny P md ops Q fuel (l.setIfInBounds i true)) a w) : wpAny P md ops Q (fuel + 1) l a w :=
  wpAny_all hr (by simp) fun j hj => by
    obtain rfl := List.mem_singleton.1 hj
    exact h
theorem all_cons {α : Type} {X : α → Prop} {x : α} {l : List α} (h : X x) (hs : ∀ y ∈ l, X y) : ∀ y ∈ x :: l, X y := fun y hy => by
  rcases List.mem_cons.1 hy with rfl | hy
  · exact h
  · exact hs y hy
theorem all_nil {α : Type} {X : α → Prop} : ∀ y ∈ ([] : List α), X y := fun _ hy => by cases hy
/-- An entry that is to be laid: which operation, the key, the value. -/
structure Ent where
  i : Nat
  key : Lit
  val : Value
structure IsIns (P : Program) (ops : Array Oper) (T K : TypeId) (a : Act) (b : Nat) (p : Ent) : Prop where
  all : ∃ o m x v key, ops[p.i]? = some o ∧ o.op = .insert T m x v ∧ o.guard = none ∧ o.dst = none ∧ a.eval m = .map (some b) ∧ a.eval x = key ∧ keyOf P K key = some p.key ∧ a.eval v = p.val
/-- What stands when all entries of I but those of R are laid. -/
structure LaidBut (P : Program) (K : TypeId) (b : Nat) (I R : List Ent) (w0 w : World) (D : DataW Value) : Prop where
  own : w.ownsMap P K hel b (I.length - R.length) D
  grown : w0.grownBy w (some b)
  there : ∀ p ∈ I, p ∉ R → ∀ z, D.atKey p.key z = .held p.val
  nokey : ∀ k, (∀ p ∈ I, p ∈ R ∨ p.key ≠ k) → ∀ z, D.atKey k z = z
def insCheck (md : Region.Mode) (ops : Array Oper) (L1 : Array Bool) (I : List Nat) : Bool :=
  (List.range ops.size).all fun j =>
    match ops[j]? with
    | none => true
    | some o =>
      if I.contains j then o.after.all (fun e => !Region.binds md e || (L1.getD e.on false && !I.contains e.on))
      else L1.getD j true || I.all (fun i => o.after.any fun e => Region.binds md e && e.on == i)
/-- All but those of R have come. -/
def Come (L1 l : Array Bool) (R : List Nat) : Prop := l.size = L1.size ∧ ∀ j, j < L1.size → l[j]? = if j ∈ R then some false else L1[j]?
theorem Come.getD {L1 l : Array Bool} {R : List Nat} (h : Come L1 l R) {j : Nat} (hj : j < L1.size) (d : Bool) : l.getD j d = if j ∈ R then false else L1.getD j d := by
  have := h.2 j hj
  rw [Array.getD_eq_getD_getElem?, Array.getD_eq_getD_getElem?, this]
  split <;> simp
theorem Come.nil {L1 l : Array Bool} (h : Come L1 l []) : l = L1 := by
  apply Array.ext_getElem?
  intro j
  by_cases hj : j < L1.size
  · simpa using h.2 j hj
  · rw [Array.getElem?_eq_none (by rw [h.1]; omega), Array.getElem?_eq_none (by omega)]
theorem Come.start {L1 : Array Bool} {R : List Nat} {l : Array Bool} (h : l.size = L1.size) (hh : ((List.range L1.size).all fun j => l[j]? == if R.contains j then some false else L1[j]?) = true) : Come L1 l R :=
  ⟨h, fun j hj => by
    have := List.all_eq_true.1 hh j (List.mem_range.2 hj)
    have h2 := eq_of_beq this
    rw [h2]
    by_cases hc : j ∈ R
    · simp [hc]
    · simp [hc]⟩
theorem Come.step {L1 l : Array Bool} {R : List Nat} (h : Come L1 l R) {i : Nat} (hi : L1[i]? = some true) (hn : R.Nodup) : Come L1 (l.setIfInBounds i true) (R.erase i) := by
  have hlt : i < L1.size := (Array.getElem?_eq_some_iff.1 hi).1
  refine ⟨by rw [Array.size_setIfInBounds]; exact h.1, fun j hj => ?_⟩
  by_cases hij : i = j
  · subst hij
    rw [Array.getElem?_setIfInBounds_self_of_lt (by rw [h.1]; exact hlt), if_neg (fun hm => (List.Nodup.mem_erase_iff hn).1 hm |>.1 rfl), hi]
  · rw [Array.getElem?_setIfInBounds_ne hij, h.2 j hj]
    by_cases hm : j ∈ R
    · rw [if_pos hm, if_pos ((List.Nodup.mem_erase_iff hn).2 ⟨fun e => hij e.symm, hm⟩)]
    · rw [if_neg hm, if_neg (fun hm' => hm (List.mem_of_mem_erase hm'))]

theorem ready_of_check {L1 l : Array Bool} {I R : List Nat} (hc : insCheck md ops L1 I = true) (hsz : L1.size = ops.size) (hI : ∀ i ∈ I, L1[i]? = some true) (hl : Come L1 l R) (hR : ∀ i ∈ R, i ∈ I) (hne : R ≠ []) :
    ∀ j, j ∈ Region.ready md ops l ↔ j ∈ R := by
  intro j
  rw [mem_ready]
  constructor
  · rintro ⟨h0, o, ho, hall⟩
    have hj : j < ops.size := (Array.getElem?_eq_some_iff.1 ho).1
    rw [hl.getD (by omega)] at h0
    by_cases hm : j ∈ R
    · exact hm
    · exfalso
      rw [if_neg hm] at h0
      have h1 := List.all_eq_true.1 hc j (List.mem_range.2 hj)
      simp only [ho] at h1
      by_cases hjI : I.contains j = true
      · have := hI j (by simpa using hjI)
        rw [Array.getD_eq_getD_getElem?, this] at h0
        cases h0
      · rw [if_neg hjI, h0, Bool.false_or] at h1
        obtain ⟨r, rest, rfl⟩ := List.exists_cons_of_ne_nil hne
        have h2 := List.all_eq_true.1 h1 r (hR r (List.mem_cons_self ..))
        obtain ⟨e, he, hb⟩ := Array.any_eq_true'.1 h2
        simp only [Bool.and_eq_true, beq_iff_eq] at hb
        have h3 := hall e he hb.1
        rw [hb.2] at h3
        have hrl : r < L1.size := (Array.getElem?_eq_some_iff.1 (hI r (hR r (List.mem_cons_self ..)))).1
        rw [hl.getD hrl, if_pos (List.mem_cons_self ..)] at h3
        cases h3
  · intro hm
    have hjI := hR j hm
    have hlt : j < L1.size := (Array.getElem?_eq_some_iff.1 (hI j hjI)).1
    have ho : ops[j]? = some ops[j] := Array.getElem?_eq_getElem (by omega)
    refine ⟨by rw [hl.getD hlt, if_pos hm], ops[j], ho, fun e he hb => ?_⟩
    have h1 := List.all_eq_true.1 hc j (List.mem_range.2 (by omega))
    simp only [ho] at h1
    rw [if_pos (by simpa using hjI)] at h1
    have h2 := Array.all_eq_true_iff_forall_mem.1 h1 e he
    simp only [hb, Bool.not_true, Bool.false_or, Bool.and_eq_true, Bool.not_eq_true'] at h2
    have hon : e.on < L1.size := by
      rcases Nat.lt_or_ge e.on L1.size with h | h
      · exact h
      · have := h2.1
        rw [Array.getD_eq_getD_getElem?, Array.getElem?_eq_none h] at this
        cases this
    have hnR : e.on ∉ R := fun h => by
      have := hR _ h
      have h3 := h2.2
      simp [this] at h3
    rw [hl.getD hon, if_neg hnR]
    exact h2.1

theorem wpOp_insert {T K E : TypeId} (KK : Keyed P K) (hT : P.underlying T = some (.map K E)) {a : Act} {b n : Nat} {p : Ent} (hp : IsIns P ops T K a b p) {D : DataW Value} {w : World} (hown : w.ownsMap P K hel b n D) (hn : n < maxLen) {G : Act → World → Prop}
    (hK : ∀ w', w'.ownsMap P K hel b (n + 1) (D.put p.key (.held p.val)) → w.mapTurned w' b → G a w') : wpOp P ops Q p.i G a w := by
  obtain ⟨o, m, x, v, key, ho, hop, hg, hd, hm, hx, hkey, hv⟩ := hp.all
  obtain ⟨w', hrun, h1, h2⟩ := hown.store KK hT hn hkey (show hel p.val = some (.held p.val, []) from rfl)
  unfold wpOp
  simp only [ho, Region.wanted, hg]
  refine .inl ?_
  unfold Oper.wp
  have e : (execOp a.eval o).run P w = .ok .skip w' := by
    unfold execOp
    rw [hop]
    simp [hm, hx, hv, hrun, Result.andThen]
  rw [e, Oper.upon_skip, hd]
  exact hK w' h1 h2

theorem inj_of_nodup {α β : Type} {f : α → β} : ∀ {l : List α}, (l.map f).Nodup → ∀ {x y : α}, x ∈ l → y ∈ l → f x = f y → x = y
  | [], _, _, _, h, _, _ => by cases h
  | z :: l, hn, x, y, hx, hy, e => by
    rw [List.map_cons, List.nodup_cons] at hn
    rcases List.mem_cons.1 hx with h1 | h1
    · rcases List.mem_cons.1 hy with h2 | h2
      · rw [h1, h2]
      · exact absurd (List.mem_map.2 ⟨y, h2, by rw [← e, h1]⟩) hn.1
    · rcases List.mem_cons.1 hy with h2 | h2
      · exact absurd (List.mem_map.2 ⟨x, h1, by rw [e, h2]⟩) hn.1
      · exact inj_of_nodup hn.2 h1 h2 e
theorem wpAny_inserts {T K E : TypeId} (KK : Keyed P K) (hT : P.underlying T = some (.map K E)) {a : Act} {b : Nat} {I : List Ent} {L1 : Array Bool} {w0 : World} (hI : ∀ p ∈ I, IsIns P ops T K a b p)
    (hc : insCheck md ops L1 (I.map (·.i)) = true) (hsz : L1.size = ops.size) (hL : ∀ i ∈ I.map (·.i), L1[i]? = some true) (hnd : (I.map (·.i)).Nodup) (hkn : (I.map (·.key)).Nodup) (hkl : ∀ p ∈ I, WideAt.IsKeyLit p.key) (hlen : I.length < maxLen)
    {fuel : Nat} (hK : ∀ w D, LaidBut P K b I [] w0 w D → wpAny P md ops Q fuel L1 a w) :
    ∀ (n : Nat) (R : List Ent) (l : Array Bool) (w : World) (D : DataW Value), R.length = n → R.Sublist I → Come L1 l (R.map (·.i)) → LaidBut P K b I R w0 w D → wpAny P md ops Q (fuel + n) l a w := by
  intro n
  induction n with
  | zero =>
    intro R l w D hn hs hl hD
    obtain rfl : R = [] := List.eq_nil_of_length_eq_zero hn
    rw [hl.nil]
    exact hK w D hD
  | succ n ih =>
    intro R l w D hn hs hl hD
    have hne : R ≠ [] := fun e => by rw [e] at hn; cases hn
    have hmem := ready_of_check hc hsz hL hl (fun i hi => by
      obtain ⟨p, hp, rfl⟩ := List.mem_map.1 hi
      exact List.mem_map.2 ⟨p, hs.subset hp, rfl⟩) (by simpa using hne)
    refine ⟨fun h0 => ?_, fun j hj => ?_⟩
    · exfalso
      obtain ⟨r, rest, rfl⟩ := List.exists_cons_of_ne_nil hne
      have := (hmem r.i).2 (List.mem_map.2 ⟨r, List.mem_cons_self .., rfl⟩)
      rw [h0] at this
      cases this
    · obtain ⟨p, hp, rfl⟩ := List.mem_map.1 ((hmem j).1 hj)
      have hpI := hs.subset hp
      have hRn : (R.map (·.i)).Nodup := hnd.sublist (hs.map _)
      have hIlen : R.length ≤ I.length := hs.length_le
      refine wpOp_insert KK hT (hI p hpI) hD.own (by omega) fun w' h1 h2 => ?_
      have hinj : ∀ q ∈ I, q.i = p.i → q = p := fun q hq e => by
        exact inj_of_nodup hnd hq hpI e
      have hkinj : ∀ q ∈ I, q.key = p.key → q = p := fun q hq e => inj_of_nodup hkn hq hpI e
      obtain ⟨R1, R2, rfl⟩ := List.append_of_mem hp
      have hsub : (R1 ++ R2).Sublist (R1 ++ p :: R2) := (List.append_sublist_append_left R1).2 (List.sublist_cons_self p R2)
      have hpn : p ∉ R1 ++ R2 := fun hm => by
        rw [List.map_append, List.map_cons] at hRn
        have h3 := (List.nodup_append.1 hRn)
        have h4 := List.nodup_cons.1 h3.2.1
        rcases List.mem_append.1 hm with h | h
        · exact h3.2.2 p.i (List.mem_map.2 ⟨p, h, rfl⟩) p.i (List.mem_cons_self ..) rfl
        · exact h4.1 (List.mem_map.2 ⟨p, h, rfl⟩)
      refine ih (R1 ++ R2) _ w' (D.put p.key (.held p.val)) (by simp at hn ⊢; omega) (hsub.trans hs) ?_ ?_
      · have h5 := hl.step (hL p.i (List.mem_map.2 ⟨p, hpI, rfl⟩)) hRn
        have h6 : ((R1 ++ p :: R2).map (·.i)).erase p.i = (R1 ++ R2).map (·.i) := by
          rw [List.map_append, List.map_cons, List.map_append, List.erase_append_right, List.erase_cons_head]
          rw [List.map_append, List.map_cons] at hRn
          intro hm
          exact (List.nodup_append.1 hRn).2.2 p.i hm p.i (List.mem_cons_self ..) rfl
        rw [h6] at h5
        exact h5
      · have hm := hD.own.isMap
        refine ⟨h1.mono (by simp at hIlen ⊢; omega), hD.grown.trans h2.grown, fun q hq hnq z => ?_, fun k hk z => ?_⟩
        · by_cases e : q = p
          · subst e
            exact atKey_put_same hm (hkl q hq) _ z
          · rw [atKey_put_other (fun e' => e (hkinj q hq e'))]
            refine hD.there q hq (fun hm' => hnq ?_) z
            rcases List.mem_append.1 hm' with h | h
            · exact List.mem_append_left _ h
            · rcases List.mem_cons.1 h with h | h
              · exact absurd h e
              · exact List.mem_append_right _ h
        · have hkp : p.key ≠ k := (hk p hpI).resolve_left hpn
          rw [atKey_put_other (fun e => hkp e.symm)]
          exact hD.nokey k (fun q hq => (hk q hq).imp (fun h => hsub.subset h) id) z

/-- What stands at the end, said at once. -/
theorem LaidBut.eq {K : TypeId} (KK : Keyed P K) {b : Nat} {I : List Ent} {w0 w : World} {D : DataW Value} (h : LaidBut P K b I [] w0 w D) {L : List (Lit × DataW Value)} (hr : L.Pairwise (fun p q => p.1.before q.1 = true)) (hk : ∀ p ∈ L, WideAt.IsKeyLit p.1)
    (h1 : ∀ p ∈ I, ((p.key, DataW.held p.val) : Lit × DataW Value) ∈ L) (h2 : ∀ q ∈ L, ∃ p ∈ I, q = (p.key, DataW.held p.val)) : D = .map L := by
  have hkI : ∀ p ∈ I, WideAt.IsKeyLit p.key := fun p hp => hk _ (h1 p hp)
  have at1 : ∀ p ∈ I, ∀ z, (DataW.map L : DataW Value).atKey p.key z = .held p.val := fun p hp z => WideAt.atKey_mem z (hkI p hp) (apart_of_rising hr) (h1 p hp)
  have at2 : ∀ k, (∀ p ∈ I, p.key ≠ k) → ∀ z, (DataW.map L : DataW Value).atKey k z = z := fun k hk' z => WideAt.atKey_none z (fun q hq => by
    obtain ⟨p, hp, rfl⟩ := h2 q hq
    exact hk' p hp)
  have key : ∀ k, (∃ p ∈ I, p.key = k) ∨ ∀ p ∈ I, p.key ≠ k := fun k => by
    by_cases e : ∃ p ∈ I, p.key = k
    · exact .inl e
    · exact .inr fun p hp hh => e ⟨p, hp, hh⟩
  refine Maps.ext (h.own.canon KK) ⟨L, rfl, hr, hk⟩ (fun k => ?_) (fun k z hh => ?_)
  · rcases key k with ⟨p, hp, rfl⟩ | hn
    · rw [has_true_of_atKey (h.there p hp (by simp)), has_true_of_atKey (at1 p hp)]
    · rw [has_false_of_atKey (h.nokey k fun p hp => .inr (hn p hp)), has_false_of_atKey (at2 k hn)]
  · rcases key k with ⟨p, hp, rfl⟩ | hn
    · rw [h.there p hp (by simp), at1 p hp]
    · rw [h.nokey k (fun p hp => .inr (hn p hp)), at2 k hn]
end
end Go.Proofs.YtmagokkegadmiaaGreatDoor
