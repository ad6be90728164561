/-
  Layer 3's mathematics: the sequence with which bytes begin is told there and back, and there is one at most. A region that draws its order, in which memory is made: what an operation yields may hang on what the run alone tells (where a new block lies): one look at each operation serves whatever order is picked.
-/
import Derived.Test.YtdfojkbgdoiglaaDoorG04
import Derived.Test.YtdfojkbgdoiglaaDoorG05
import Derived.Laws.NewFold
namespace Go.Proofs.YtdfojkbgdoiglaaDoor
theorem tw {p : UInt8 → Bool} {c : UInt8} : ∀ (a m : List UInt8), (∀ x ∈ a, p x = true) → p c = false → (a ++ c :: m).takeWhile p = a := by
 intro a
 induction a with
 | nil => intro m _ hc; rw [List.nil_append, List.takeWhile_cons_of_neg (by rw [hc]; simp)]
 | cons x a ih =>
   intro m h hc
   rw [List.cons_append, List.takeWhile_cons_of_pos (h x (List.mem_cons_self ..)), ih m (fun y hy => h y (List.mem_cons_of_mem _ hy)) hc]
def escS (r : List UInt8) : Option (Sq × Nat) :=
 match r.drop (r.takeWhile (btw 32 47)).length with
 | [] => none
 | f :: _ => some (⟨5, 0, [], r.takeWhile (btw 32 47), f, []⟩, 1 + (r.takeWhile (btw 32 47)).length + 1)
def tailS (k : Int) (pv : UInt8) (n : Nat) (r : List UInt8) : Option (Sq × Nat) :=
 match (r.drop (r.takeWhile (btw 48 59)).length).drop ((r.drop (r.takeWhile (btw 48 59)).length).takeWhile (btw 32 47)).length with
 | [] => none
 | f :: d => some (⟨k, pv, numsL (r.takeWhile (btw 48 59)), (r.drop (r.takeWhile (btw 48 59)).length).takeWhile (btw 32 47), f, if k = 3 then d.takeWhile (btw 32 126) else []⟩,
     n + (r.takeWhile (btw 48 59)).length + ((r.drop (r.takeWhile (btw 48 59)).length).takeWhile (btw 32 47)).length + 1 + if k = 3 then (d.takeWhile (btw 32 126)).length + 2 else 0)
def seqS (k : Int) (r : List UInt8) : Option (Sq × Nat) :=
 match r with
 | c :: r' => if btw 60 63 c = true then tailS k c 3 r' else tailS k 0 2 (c :: r')
 | [] => tailS k 0 2 []
def guessS (t : List UInt8) : Option (Sq × Nat) :=
 match t with
 | c0 :: c1 :: r =>
   if c0 ≠ 27 then none
   else if c1 = 79 then (match r with | f :: _ => some (⟨2, 0, [], [], f, []⟩, 3) | [] => none)
   else if c1 = 93 then some (⟨4, 0, [], [], 0, r.takeWhile (btw 32 126)⟩, 2 + (r.takeWhile (btw 32 126)).length + 2)
   else if c1 = 91 then seqS 1 r
   else if c1 = 80 then seqS 3 r
   else escS (c1 :: r)
 | _ => none
theorem tail_put (k : Int) (pv : UInt8) (n : Nat) (ps : List (List Int)) (it : List UInt8) (f : UInt8) (d m : List UInt8) (hp : parOk ps = true) (hi : ∀ c ∈ it, btw 32 47 c = true) (hf : btw 64 126 f = true) (hd : k = 3 → (∃ m', m = 27 :: m') ∧ ∀ c ∈ d, btw 32 126 c = true) (hk : k ≠ 3 → d = []) :
 tailS k pv n (parL ps ++ (it ++ (f :: (d ++ m)))) = some (⟨k, pv, ps, it, f, d⟩, n + (parL ps).length + it.length + 1 + if k = 3 then d.length + 2 else 0) := by
 have f1 : btw 48 59 f = false := by rw [btw_no]; have := (btw_iff _ _ _).1 hf; omega
 have f2 : btw 32 47 f = false := by rw [btw_no]; have := (btw_iff _ _ _).1 hf; omega
 have e1 : (parL ps ++ (it ++ (f :: (d ++ m)))).takeWhile (btw 48 59) = parL ps := by
  cases it with
  | nil => exact tw _ _ (par_btw ps) f1
  | cons c it =>
    refine tw _ _ (par_btw ps) ?_
    have := (btw_iff _ _ _).1 (hi c (List.mem_cons_self ..))
    rw [btw_no]; omega
 have e2 : (parL ps ++ (it ++ (f :: (d ++ m)))).drop (parL ps).length = it ++ (f :: (d ++ m)) := List.drop_left
 have e3 : (it ++ (f :: (d ++ m))).takeWhile (btw 32 47) = it := tw _ _ hi f2
 have e4 : (it ++ (f :: (d ++ m))).drop it.length = f :: (d ++ m) := List.drop_left
 unfold tailS
 simp only [e1, e2, e3, e4]
 rw [nums_par hp]
 by_cases h3 : k = 3
 ·obtain ⟨⟨m', rfl⟩, hd2⟩ := hd h3
  have e5 : (d ++ 27 :: m').takeWhile (btw 32 126) = d := tw _ _ hd2 (by decide)
  rw [if_pos h3, e5, if_pos h3]
 ·rw [hk h3, if_neg h3, if_neg h3, if_neg h3]
theorem ok_parts {s : Sq} (h : mayS s = 0) : s.data.length ≤ 4096 ∧ privOk s.priv = true ∧ parOk s.params = true ∧ s.inter.length ≤ 2 ∧ (∀ c ∈ s.inter, btw 32 47 c = true) ∧ (∀ c ∈ s.data, btw 32 126 c = true) ∧ lastOk s = true ∧ bareOk s = true := by
 unfold mayS at h
 split at h
 ·cases h
 ·split at h
  ·rename_i h1 h2
   simp only [okS, Bool.and_eq_true, decide_eq_true_eq, List.all_eq_true] at h2
   obtain ⟨⟨⟨⟨⟨⟨a, b⟩, c⟩, d⟩, e⟩, f⟩, g⟩ := h2
   exact ⟨by omega, a, b, c, d, e, f, g⟩
  ·cases h
theorem seq_put (k : Int) (pv : UInt8) (ps : List (List Int)) (it : List UInt8) (f : UInt8) (d m : List UInt8) (hv : privOk pv = true) (hp : parOk ps = true) (hi : ∀ c ∈ it, btw 32 47 c = true) (hf : btw 64 126 f = true) (hd : k = 3 → (∃ m', m = 27 :: m') ∧ ∀ c ∈ d, btw 32 126 c = true) (hk : k ≠ 3 → d = []) :
 seqS k (privL pv ++ (parL ps ++ (it ++ (f :: (d ++ m))))) = some (⟨k, pv, ps, it, f, d⟩, 2 + (privL pv).length + (parL ps).length + it.length + 1 + if k = 3 then d.length + 2 else 0) := by
 by_cases h0 : pv = 0
 ·subst h0
  have ht := tail_put k 0 2 ps it f d m hp hi hf hd hk
  show seqS k (parL ps ++ (it ++ (f :: (d ++ m)))) = _
  have hhead : ∀ c r, parL ps ++ (it ++ (f :: (d ++ m))) = c :: r → btw 60 63 c = false := by
   intro c r e
   rw [btw_no]
   cases hps : parL ps with
   | cons x xs =>
     rw [hps] at e
     obtain rfl : x = c := by simpa using congrArg List.head? e
     have := (btw_iff _ _ _).1 (par_btw ps x (by rw [hps]; exact List.mem_cons_self ..))
     omega
   | nil =>
     rw [hps] at e
     cases it with
     | cons x xs =>
       obtain rfl : x = c := by simpa using congrArg List.head? e
       have := (btw_iff _ _ _).1 (hi x (List.mem_cons_self ..))
       omega
     | nil =>
       obtain rfl : f = c := by simpa using congrArg List.head? e
       have := (btw_iff _ _ _).1 hf
       omega
  generalize parL ps ++ (it ++ (f :: (d ++ m))) = t at *
  cases t with
  | nil => exact ht
  | cons c r =>
    unfold seqS
    dsimp only
    rw [if_neg (by rw [hhead c r rfl]; decide)]
    exact ht
 ·have e : privL pv = [pv] := if_neg h0
  have hb : btw 60 63 pv = true := by
   simp only [privOk, Bool.or_eq_true, decide_eq_true_eq] at hv
   exact hv.resolve_left h0
  rw [e]
  unfold seqS
  simp only [List.cons_append, List.nil_append]
  rw [if_pos hb, tail_put k pv 3 ps it f d m hp hi hf hd hk]
  simp
theorem guess_put {s : Sq} (h : mayS s = 0) (m : List UInt8) : guessS (putS s ++ m) = some (s, (putS s).length) := by
 obtain ⟨_, hv, hp, _, hi, hd, hl, hb⟩ := ok_parts h
 obtain ⟨k, pv, ps, it, f, d⟩ := s
 dsimp only at hv hp hi hd
 have hcases : k = 1 ∨ k = 2 ∨ k = 3 ∨ k = 4 ∨ k = 5 := by
  unfold lastOk at hl
  dsimp only at hl
  split at hl
  ·omega
  ·split at hl
   ·omega
   ·simp only [Bool.and_eq_true, decide_eq_true_eq] at hl; omega
 rcases hcases with rfl | rfl | rfl | rfl | rfl
 ·
  have hf : btw 64 126 f = true := by simpa [lastOk] using hl
  have hd0 : d = [] := by simpa [bareOk] using hb
  subst hd0
  have := seq_put 1 pv ps it f [] m hv hp hi hf (by omega) (fun _ => rfl)
  have e : putS ⟨1, pv, ps, it, f, []⟩ ++ m = 27 :: 91 :: (privL pv ++ (parL ps ++ (it ++ (f :: ([] ++ m))))) := by
   simp [putS, bodyL]
  rw [e]
  show seqS 1 _ = _
  rw [this]
  simp [putS, bodyL]; omega
 ·
  have h1 : pv = 0 ∧ ps = [] ∧ it = [] ∧ d = [] := by
   simp [bareOk] at hb
   obtain ⟨⟨⟨a, b⟩, c⟩, e⟩ := hb
   exact ⟨a, b, c, e⟩
  obtain ⟨rfl, rfl, rfl, rfl⟩ := h1
  rfl
 ·
  have hf : btw 64 126 f = true := by simpa [lastOk] using hl
  have := seq_put 3 pv ps it f d (27 :: 92 :: m) hv hp hi hf (fun _ => ⟨⟨_, rfl⟩, hd⟩) (fun h => absurd rfl h)
  have e : putS ⟨3, pv, ps, it, f, d⟩ ++ m = 27 :: 80 :: (privL pv ++ (parL ps ++ (it ++ (f :: (d ++ (27 :: 92 :: m)))))) := by
   simp [putS, bodyL]
  rw [e]
  show seqS 3 _ = _
  rw [this]
  simp [putS, bodyL]; omega
 ·
  have h1 : pv = 0 ∧ ps = [] ∧ it = [] := by
   simp [bareOk] at hb
   exact ⟨hb.1.1, hb.1.2, hb.2⟩
  have hf : f = 0 := by simpa [lastOk] using hl
  obtain ⟨rfl, rfl, rfl⟩ := h1
  subst hf
  have e : putS ⟨4, 0, [], [], 0, d⟩ ++ m = 27 :: 93 :: (d ++ (27 :: 92 :: m)) := by simp [putS]
  rw [e]
  show some _ = _
  rw [tw d (92 :: m) hd (by decide)]
  simp [putS]; omega
 ·
  have h1 : pv = 0 ∧ ps = [] ∧ d = [] := by
   simp [bareOk] at hb
   exact ⟨hb.1.1, hb.1.2, hb.2⟩
  obtain ⟨rfl, rfl, rfl⟩ := h1
  have hf : btw 48 126 f = true ∧ (it ≠ [] ∨ ¬ (f = 79 ∨ f = 80 ∨ f = 88 ∨ f = 91 ∨ f = 93 ∨ f = 92 ∨ f = 94 ∨ f = 95)) := by
   simp [lastOk] at hl
   refine ⟨hl.1, ?_⟩
   rcases hl.2 with h | h
   ·exact .inl h
   ·right
    intro hh
    rcases hh with rfl | rfl | rfl | rfl | rfl | rfl | rfl | rfl <;> simp at h
  have f2 : btw 32 47 f = false := by rw [btw_no]; have := (btw_iff _ _ _).1 hf.1; omega
  have e : putS ⟨5, 0, [], it, f, []⟩ ++ m = 27 :: (it ++ (f :: m)) := by simp [putS]
  have hg : ∀ c1 r, it ++ (f :: m) = c1 :: r → c1 ≠ 79 ∧ c1 ≠ 93 ∧ c1 ≠ 91 ∧ c1 ≠ 80 := by
   intro c1 r e
   cases it with
   | cons x xs =>
     obtain rfl : x = c1 := by simpa using congrArg List.head? e
     have := (btw_iff _ _ _).1 (hi x (List.mem_cons_self ..))
     refine ⟨?_, ?_, ?_, ?_⟩ <;> (rintro rfl; simp at this)
   | nil =>
     obtain rfl : f = c1 := by simpa using congrArg List.head? e
     have := hf.2.resolve_left (by simp)
     refine ⟨?_, ?_, ?_, ?_⟩ <;> (intro h; exact this (by simp [h]))
  rw [e]
  have es : escS (it ++ (f :: m)) = some (⟨5, 0, [], it, f, []⟩, 1 + it.length + 1) := by
   unfold escS
   rw [tw it m hi f2, List.drop_left]
  cases ht : it ++ (f :: m) with
  | nil => simp at ht
  | cons c1 r =>
    obtain ⟨g1, g2, g3, g4⟩ := hg c1 r ht
    show (if (27 : UInt8) ≠ 27 then none else _) = _
    rw [if_neg (by simp), if_neg g1, if_neg g2, if_neg g3, if_neg g4, ← ht, es]
    simp [putS]; omega
def takeS (b : List UInt8) : Option (Sq × Nat) :=
 match guessS b with
 | some (s, n) => if n ≤ b.length ∧ mayS s = 0 ∧ putS s = b.take n then some (s, n) else none
 | none => none
theorem takeS_put {s : Sq} (h : mayS s = 0) (m : List UInt8) : takeS (putS s ++ m) = some (s, (putS s).length) := by
 unfold takeS
 rw [guess_put h m]
 dsimp only
 rw [if_pos ⟨by rw [List.length_append]; omega, h, by rw [List.take_left]⟩]
theorem putS_inj {s t : Sq} (hs : mayS s = 0) (ht : mayS t = 0) (h : putS s = putS t) : s = t := by
 have h1 := takeS_put hs []
 have h2 := takeS_put ht []
 rw [h, h2] at h1
 simp only [Option.some.injEq, Prod.mk.injEq] at h1
 exact h1.1.symm
end Go.Proofs.YtdfojkbgdoiglaaDoor
namespace Go.Proofs.YtdfojkbgdoiglaaDoor
open Go.RowKit
section
variable {P : Program} {ops : Array Oper} {Q : Exit → Act → World → Prop} {md : Region.Mode}
def upd (g : Tmp → Value) (d : Tmp) (v : Value) : Tmp → Value := fun t => if t = d then v else g t
theorem upd_at (g : Tmp → Value) (d : Tmp) (v : Value) : upd g d v d = v := if_pos rfl
theorem upd_ne (g : Tmp → Value) {d t : Tmp} (v : Value) (h : t ≠ d) : upd g d v t = g t := if_neg h
def fillT (g : Tmp → Value) : List Tmp → Array Value → Array Value
 | [], t => t
 | d :: ds, t => fillT g ds (t.setIfInBounds d (g d))
def fillA (a : Act) (ds : List Tmp) (g : Tmp → Value) : Act := ⟨fillT g ds a.tmps, a.defers⟩
theorem fillT_size (g : Tmp → Value) : ∀ (ds : List Tmp) (t : Array Value), (fillT g ds t).size = t.size
 | [], _ => rfl
 | d :: ds, t => by
   show (fillT g ds _).size = _
   rw [fillT_size g ds, Array.size_setIfInBounds]
theorem fillT_other (g : Tmp → Value) (d : Tmp) (v : Value) {t : Tmp} (ht : t ≠ d) : ∀ (ds : List Tmp) (s s' : Array Value), s.size = s'.size → s[t]? = s'[t]? → (fillT (upd g d v) ds s)[t]? = (fillT g ds s')[t]?
 | [], _, _, _, h => h
 | x :: ds, s, s', hz, h => by
   refine fillT_other g d v ht ds _ _ (by simp [hz]) ?_
   by_cases hx : x = t
   ·subst hx
    rw [upd_ne g v ht]
    by_cases hl : x < s.size
    ·rw [Array.getElem?_setIfInBounds_self_of_lt hl, Array.getElem?_setIfInBounds_self_of_lt (hz ▸ hl)]
    ·rw [Array.getElem?_eq_none (by rw [Array.size_setIfInBounds]; exact Nat.le_of_not_lt hl), Array.getElem?_eq_none (by rw [Array.size_setIfInBounds, ← hz]; exact Nat.le_of_not_lt hl)]
   ·rw [Array.getElem?_setIfInBounds_ne hx, Array.getElem?_setIfInBounds_ne hx, h]
def After (aF : (Tmp → Value) → Act) (S : Array Bool → (Tmp → Value) → World → Prop) (i : Nat) (o : Oper) (l : Array Bool) (g : Tmp → Value) (v : Value) (w : World) : Prop :=
 ∃ g', (g' = g ∨ ∃ d u, o.dst = some d ∧ g' = upd g d u) ∧ (∀ d, o.dst = some d → (aF g').tmps[d]? = some v) ∧ S (l.setIfInBounds i true) g' w
def GoesM (P : Program) (md : Region.Mode) (ops : Array Oper) (aF : (Tmp → Value) → Act) (S : Array Bool → (Tmp → Value) → World → Prop) (i : Nat) (o : Oper) : Prop :=
 ∀ l g w, l.size = ops.size → l.getD i false = false → (∀ e ∈ o.after, Region.binds md e = true → l.getD e.on false = true) → S l g w →
   if Region.wanted o (yielded ops (aF g).tmps) = true then
    (∃ v w', ((execOp (aF g).eval o).run P w = .ok (.value v) w' ∨ ((execOp (aF g).eval o).run P w = .ok .skip w' ∧ v = undef)) ∧ After aF S i o l g v w') ∨
    (∃ f args w1, (execOp (aF g).eval o).run P w = .ok (.enter f args) w1 ∧ Calls P f args w1 fun e w' => ∃ v, e = .returned v ∧ After aF S i o l g v w')
   else After aF S i o l g undef w
def GoesAllM (P : Program) (md : Region.Mode) (ops : Array Oper) (aF : (Tmp → Value) → Act) (S : Array Bool → (Tmp → Value) → World → Prop) : Prop :=
 ∀ (i : Nat) (o : Oper), ops[i]? = some o → GoesM P md ops aF S i o
theorem Near.turn {aF : (Tmp → Value) → Act} (hF : ∀ g d v, (∀ t, t ≠ d → (aF (upd g d v)).tmps[t]? = (aF g).tmps[t]?) ∧ (aF (upd g d v)).defers = (aF g).defers ∧ (aF (upd g d v)).tmps.size = (aF g).tmps.size)
 {g g' : Tmp → Value} {l : Array Bool} {a : Act} {i : Nat} {o : Oper} (ho : ops[i]? = some o) (hl : l.getD i false = false) (hg : g' = g ∨ ∃ d u, o.dst = some d ∧ g' = upd g d u) (h : Near ops (aF g) l a) : Near ops (aF g') l a := by
 rcases hg with rfl | ⟨d, u, hd, rfl⟩
 ·exact h
 ·obtain ⟨h1, h2, h3⟩ := hF g d u
  refine ⟨h.defers.trans h2.symm, h.size.trans h3.symm, fun t ht => ?_⟩
  have hne : t ≠ d := fun e => by
   have := ht i o ho (by rw [hd, e])
   rw [hl] at this
   cases this
  rw [h1 t hne]
  exact h.at_ t ht
theorem wpAny_made (hc : regCheck md ops = true) (hs : Region.noSelect ops = true) {aF : (Tmp → Value) → Act} {S : Array Bool → (Tmp → Value) → World → Prop}
 (hF : ∀ g d v, (∀ t, t ≠ d → (aF (upd g d v)).tmps[t]? = (aF g).tmps[t]?) ∧ (aF (upd g d v)).defers = (aF g).defers ∧ (aF (upd g d v)).tmps.size = (aF g).tmps.size)
 (hg : GoesAllM P md ops aF S) (hQ : ∀ l g w, (∀ j, j < ops.size → l.getD j false = true) → S l g w → Q .normal (aF g) w) :
 ∀ (fuel : Nat) (l : Array Bool) (a : Act) (w : World), l.size = ops.size → l.toList.countP (fun b => !b) ≤ fuel → (∃ g, Near ops (aF g) l a ∧ S l g w) → wpAny P md ops Q fuel l a w := by
 have fin : ∀ (l : Array Bool) (a : Act) (w : World), l.size = ops.size → Region.ready md ops l = [] → (∃ g, Near ops (aF g) l a ∧ S l g w) → Q .normal a w := fun l a w hsz hr ⟨g, hn, hS⟩ => by
  have all : ∀ j, j < ops.size → l.getD j false = true := by
   intro j
   induction j using Nat.strongRecOn with
   | _ j ih =>
     intro hj
     have ho : ops[j]? = some ops[j] := Array.getElem?_eq_getElem hj
     cases hh : l.getD j false with
     | true => rfl
     | false =>
       exfalso
       have hm : j ∈ Region.ready md ops l := mem_ready.2 ⟨by
        rw [Array.getD_eq_getD_getElem?] at hh ⊢
        rw [Array.getElem?_eq_getElem (by omega)] at hh ⊢
        exact hh, ops[j], ho, fun e he hb => by
        have h1 := List.all_eq_true.1 hc j (List.mem_range.2 hj)
        simp only [ho, Bool.and_eq_true] at h1
        have h2 := Array.all_eq_true_iff_forall_mem.1 h1.2 e he
        simp only [hb, Bool.not_true, Bool.false_or, decide_eq_true_eq] at h2
        exact ih e.on h2 (by omega)⟩
       rw [hr] at hm
       cases hm
  rw [hn.eq all]
  exact hQ l g w all hS
 intro fuel
 induction fuel with
 | zero =>
   intro l a w hsz hcnt hn
   have h0 := unl_none l.toList (by omega)
   have hr : Region.ready md ops l = [] := by
    rw [List.eq_nil_iff_forall_not_mem]
    intro j hj
    obtain ⟨h1, o, ho, _⟩ := mem_ready.1 hj
    have hlt : j < l.size := by rw [hsz]; exact (Array.getElem?_eq_some_iff.1 ho).1
    have h2 := h0 j (by simpa using hlt)
    rw [Array.getElem?_toList] at h2
    rw [Array.getD_eq_getD_getElem?, h2] at h1
    cases h1
   exact ⟨hr, fin l a w hsz hr hn⟩
 | succ fuel ih =>
   intro l a w hsz hcnt hnn
   refine ⟨fun hr => fin l a w hsz hr hnn, fun i hi => ?_⟩
   obtain ⟨g, hn, hS⟩ := hnn
   obtain ⟨h1, o, ho, hall⟩ := mem_ready.1 hi
   have hlt : i < l.size := by rw [hsz]; exact (Array.getElem?_eq_some_iff.1 ho).1
   have hli : l.toList[i]? = some false := by
    rw [Array.getElem?_toList, Array.getElem?_eq_getElem hlt]
    rw [Array.getD_eq_getD_getElem?, Array.getElem?_eq_getElem hlt] at h1
    exact congrArg some h1
   have h1f : l.getD i false = false := by
    rw [Array.getD_eq_getD_getElem?, ← Array.getElem?_toList, hli]
    rfl
   have hstep : ∀ (v : Value) (w' : World), After aF S i o l g v w' → wpAny P md ops Q fuel (l.setIfInBounds i true) (a.put o.dst v) w' := fun v w' ⟨g', hg', hv, hS'⟩ =>
    ih _ _ w' (by simpa using hsz) (by
     have := unl_set l.toList i hli
     rw [Array.toList_setIfInBounds]
     omega) ⟨g', (hn.turn hF ho h1f hg').put ho hv, hS'⟩
   have hw := hg i o ho l g w hsz h1f hall hS
   have he : execOp a.eval o = execOp (aF g).eval o := execOp_congr o (fun cs b => Region.noSelect_spec hs i o cs b ho) fun x hx => hn.eval x fun t ht => waits hc ho hall (by
    subst ht
    exact List.mem_append_left _ (List.mem_filterMap.2 ⟨.tmp t, by simpa using hx, rfl⟩))
   have hwt : Region.wanted o (yielded ops a.tmps) = Region.wanted o (yielded ops (aF g).tmps) := by
    unfold Region.wanted
    cases hgd : o.guard with
    | none => rfl
    | some gw =>
      obtain ⟨gg, want⟩ := gw
      have hy : yielded ops a.tmps gg = yielded ops (aF g).tmps gg := by
       unfold yielded
       cases ht : (ops[gg]?).bind (·.dst) with
       | none => rfl
       | some t =>
         have := hn.at_ t (waits hc ho hall (by simp [Oper.looksAt, hgd, ht]))
         show (match (some t).bind (a.tmps[·]?) with | some (.bool b) => some b | _ => none) = (match (some t).bind ((aF g).tmps[·]?) with | some (.bool b) => some b | _ => none)
         simp only [Option.bind_some, this]
      simp only [hy]
   unfold wpOp
   simp only [ho]
   rw [hwt]
   by_cases hq : Region.wanted o (yielded ops (aF g).tmps) = true
   ·rw [if_pos hq] at hw ⊢
    refine .inl ?_
    unfold Oper.wp
    rw [he]
    rcases hw with ⟨v, w', hrun | ⟨hrun, rfl⟩, hA⟩ | ⟨f, args, w1, hrun, hcall⟩
    ·rw [hrun, Oper.upon_value]
     exact hstep v w' hA
    ·rw [hrun, Oper.upon_skip]
     exact hstep undef w' hA
    ·rw [hrun, Oper.upon_enter]
     refine hcall.mono ?_
     rintro e w' ⟨v, rfl, hA⟩
     exact hstep v w' hA
   ·rw [if_neg hq] at hw ⊢
    exact hstep undef w hw
theorem fill_turn (a0 : Act) (ds : List Tmp) (g : Tmp → Value) (d : Tmp) (v : Value) : (∀ t, t ≠ d → (fillA a0 ds (upd g d v)).tmps[t]? = (fillA a0 ds g).tmps[t]?) ∧ (fillA a0 ds (upd g d v)).defers = (fillA a0 ds g).defers ∧ (fillA a0 ds (upd g d v)).tmps.size = (fillA a0 ds g).tmps.size :=
 ⟨fun _ ht => fillT_other g d v ht ds _ _ rfl rfl, rfl, by simp [fillA, fillT_size]⟩
theorem wp_region_made {id : Nat} {a a0 : Act} {w : World} {S : Array Bool → (Tmp → Value) → World → Prop} (ds : List Tmp) (hm : P.follows .mixedOrders = true) (hc : regCheck .any ops = true) (hs : Region.noSelect ops = true)
 (g0 : Tmp → Value) (hn : Near ops (fillA a0 ds g0) (Array.replicate ops.size false) a) (hS : S (Array.replicate ops.size false) g0 w.drew) (hg : GoesAllM P .any ops (fillA a0 ds) S)
 (hQ : ∀ l g w, (∀ j, j < ops.size → l.getD j false = true) → S l g w → Q .normal (fillA a0 ds g) w) :
 (Code.region id ops true).wp P Q a w :=
 wp_region_any hm (wpAny_made hc hs (fill_turn a0 ds) hg hQ ops.size _ a _ (by simp) (by
  refine Nat.le_trans List.countP_le_length ?_
  simp) ⟨g0, hn, hS⟩)
end
end Go.Proofs.YtdfojkbgdoiglaaDoor
