/-
  Layer 9: what keys are: mathematics. A map that a literal makes, its entries laid in whatever order the region draws: what it reads as at the end. Layer 2: what takes and puts answer. (No function of any dump.) Layer 2, walked: what a code point is; the sizes, in their array.
-/
import Derived.Test.YtbjmfhcgkpjcfaaDoorG01
import Derived.Test.YtbjmfhcgkpjcfaaDoorG02
import Derived.Maps.OwnSet
import Derived.Maps.Ext
import Derived.Orders
import Derived.Carry
import Derived.BigQuiet
import Derived.Deep.QuietTactic
namespace Go.Proofs.YtbjmfhcgkpjcfaaDoor

structure En where
  kind : Int
  fin : Int
  num : Int
  char : Int
  keys : Bool
deriving DecidableEq
def letterN (c : Int) : Int :=
  if c = 57350 ∨ c = 57417 then 68 else if c = 57351 ∨ c = 57418 then 67 else if c = 57352 ∨ c = 57419 then 65 else if c = 57353 ∨ c = 57420 then 66
  else if c = 57356 ∨ c = 57423 then 72 else if c = 57357 ∨ c = 57424 then 70 else if c = 57427 then 69 else if 57364 ≤ c ∧ c ≤ 57367 then 80 + c - 57364 else 0
def numberN (c : Int) : Int :=
  if c = 57348 ∨ c = 57425 then 2 else if c = 57349 ∨ c = 57426 then 3 else if c = 57354 ∨ c = 57421 then 5 else if c = 57355 ∨ c = 57422 then 6
  else if c = 57368 then 15 else if 57369 ≤ c ∧ c ≤ 57373 then 17 + c - 57369 else if 57374 ≤ c ∧ c ≤ 57375 then 23 + c - 57374 else if c = 57363 then 29 else 0
def padE (c : Int) : En :=
  if c ≤ 57408 then ⟨5, 112 + c - 57399, 0, 48 + c - 57399, true⟩
  else ⟨5, [110, 111, 106, 109, 107, 77, 88, 108].getD (c - 57409).toNat 0, 0, [46, 47, 42, 45, 43, 13, 61, 44].getD (c - 57409).toNat 0, true⟩
def isPtK (c : Int) : Bool := decide (0 ≤ c ∧ c ≤ 1114111 ∧ ¬ (55296 ≤ c ∧ c ≤ 57343))
def restN (c : Int) : Int :=
  if c = 9 ∨ c = 13 ∨ c = 27 ∨ c = 127 then 2
  else if 57358 ≤ c ∧ c ≤ 57362 ∨ 57376 ≤ c ∧ c ≤ 57398 ∨ 57428 ≤ c ∧ c ≤ 57440 then 6
  else if 57441 ≤ c ∧ c ≤ 57454 then 7
  else if isPtK c = false ∨ c < 32 ∨ 127 ≤ c ∧ c ≤ 159 ∨ 57344 ≤ c ∧ c ≤ 63743 then 0 else 1
def lookE (c : Int) : En :=
  if letterN c ≠ 0 then ⟨3, letterN c, 0, 0, decide (57399 ≤ c)⟩
  else if numberN c ≠ 0 then ⟨4, 0, numberN c, 0, decide (57399 ≤ c)⟩
  else if 57399 ≤ c ∧ c ≤ 57416 then padE c else ⟨restN c, 0, 0, 0, false⟩
/-- Whether a code has a form. -/
def hasE (f n c : Int) : Bool := (lookE c).kind == 3 && (lookE c).fin == f || (lookE c).kind == 4 && f == 126 && (lookE c).num == n
def findK (f n : Int) : Nat → Int → Int × Bool
  | 0, _ => (0, false)
  | k + 1, c => if hasE f n c then (c, true) else findK f n k (c + 1)
def findE (f n : Int) : Int × Bool := findK f n 55 57344
theorem letter_out {c : Int} (h : c < 57344 ∨ 57455 ≤ c) : letterN c = 0 := by
  unfold letterN
  repeat' split
  all_goals omega
theorem number_out {c : Int} (h : c < 57344 ∨ 57455 ≤ c) : numberN c = 0 := by
  unfold numberN
  repeat' split
  all_goals omega
/-- What has no code of its own. -/
theorem look_out {c : Int} (h : c < 57344 ∨ 57455 ≤ c) : lookE c = ⟨restN c, 0, 0, 0, false⟩ := by
  unfold lookE
  rw [letter_out h, number_out h, if_neg (by decide), if_neg (by decide), if_neg (by omega)]
theorem find_hit (f n : Int) : ∀ (k : Nat) (c : Int), (findK f n k c).2 = true → hasE f n (findK f n k c).1 = true ∧ c ≤ (findK f n k c).1 ∧ (findK f n k c).1 < c + k
  | 0, _, h => by cases h
  | k + 1, c, h => by
    unfold findK at h ⊢
    split
    next hc => exact ⟨hc, Int.le_refl _, by simp; omega⟩
    next hc =>
      rw [if_neg hc] at h
      have := find_hit f n k (c + 1) h
      exact ⟨this.1, by omega, by simp; omega⟩
theorem find_none (f n : Int) : ∀ (k : Nat) (c : Int), (findK f n k c).2 = false → (findK f n k c).1 = 0 ∧ ∀ d, c ≤ d → d < c + k → hasE f n d = false
  | 0, c, _ => ⟨rfl, fun d h1 h2 => by simp at h2; omega⟩
  | k + 1, c, h => by
    unfold findK at h ⊢
    split
    next hc => rw [if_pos hc] at h; cases h
    next hc =>
      rw [if_neg hc] at h
      have ih := find_none f n k (c + 1) h
      refine ⟨ih.1, fun d h1 h2 => ?_⟩
      by_cases hd : d = c
      · subst hd; simpa using hc
      · exact ih.2 d (by omega) (by push_cast at h2; omega)
/-- The codes of the main board, one by one: each with a form is found by it. -/
theorem main_all : ∀ k : Fin 111, ((lookE (57344 + k.1)).kind == 3 || (lookE (57344 + k.1)).kind == 4) && !(lookE (57344 + k.1)).keys → findE (if (lookE (57344 + k.1)).kind = 4 then 126 else (lookE (57344 + k.1)).fin) (lookE (57344 + k.1)).num = (57344 + (k.1 : Int), true) := by decide +kernel
theorem rest_rng (c : Int) : restN c = 0 ∨ restN c = 1 ∨ restN c = 2 ∨ restN c = 6 ∨ restN c = 7 := by
  unfold restN
  repeat' split
  all_goals simp
theorem main_found {c : Int} (hk : (lookE c).kind = 3 ∨ (lookE c).kind = 4) (hm : (lookE c).keys = false) : findE (if (lookE c).kind = 4 then 126 else (lookE c).fin) (lookE c).num = (c, true) := by
  by_cases h : c < 57344 ∨ 57455 ≤ c
  · rw [look_out h] at hk
    have := rest_rng c
    simp only at hk
    omega
  · obtain ⟨k, hk2⟩ : ∃ k : Fin 111, c = 57344 + k.1 := ⟨⟨(c - 57344).toNat, by omega⟩, by simp; omega⟩
    subst hk2
    exact main_all k (by rw [hm]; rcases hk with e | e <;> rw [e] <;> rfl)
theorem code_all : ∀ k : Fin 111, (lookE (57344 + k.1)).kind = 0 ∨ (lookE (57344 + k.1)).kind = 3 ∨ (lookE (57344 + k.1)).kind = 4 ∨ (lookE (57344 + k.1)).kind = 5 ∨ (lookE (57344 + k.1)).kind = 6 ∨ (lookE (57344 + k.1)).kind = 7 := by decide +kernel
/-- No code of the main board stands on the pad. -/
theorem main_keys : ∀ k : Fin 55, (lookE (57344 + k.1)).keys = false := by decide +kernel
theorem found_right {f n : Int} (h : (findE f n).2 = true) : hasE f n (findE f n).1 = true ∧ (lookE (findE f n).1).keys = false := by
  obtain ⟨h1, h2, h3⟩ := find_hit f n 55 57344 h
  refine ⟨h1, ?_⟩
  have hb : 57344 ≤ (findE f n).1 ∧ (findE f n).1 < 57344 + 55 := ⟨h2, h3⟩
  obtain ⟨c, hc⟩ : ∃ c, (findE f n).1 = c := ⟨_, rfl⟩
  rw [hc] at hb ⊢
  obtain ⟨k, rfl⟩ : ∃ k : Fin 55, c = 57344 + k.1 := ⟨⟨(c - 57344).toNat, by omega⟩, by simp; omega⟩
  exact main_keys k
end Go.Proofs.YtbjmfhcgkpjcfaaDoor
namespace Go.Proofs.YtbjmfhcgkpjcfaaDoor
open Go.RowKit Go.Maps Go.ChangeMaps

/-- An element as it is. -/
def hel (v : Value) : Option (DataW Value × List MemPlace) := some (.held v, [])

section
variable {P : Program} {ops : Array Oper} {Q : Exit → Act → World → Prop} {md : Region.Mode}

/-- Quiet operations, taken one behind the other. -/
inductive Takes (P : Program) (md : Region.Mode) (ops : Array Oper) : Nat → Array Bool → Act → Array Bool → Act → Prop
  | nil {l a} : Takes P md ops 0 l a l a
  | cons {n l a l' a'} (i : Nat) {o : Oper} (v : Value) (hi : ops[i]? = some o) (hf : Region.free md ops l i = true) (hr : (Region.ready md ops l).contains i = true)
      (hy : Yields P ops o v a) (h : Takes P md ops n (l.setIfInBounds i true) (a.put o.dst v) l' a') : Takes P md ops (n + 1) l a l' a'
theorem wpAny_takes (hs : Region.noSelect ops = true) (hQ : ∀ c a d v w, Q (.panic c) (a.put d v) w → Q (.panic c) a w) {n : Nat} {l l' : Array Bool} {a a' : Act} (h : Takes P md ops n l a l' a') :
    ∀ {fuel : Nat} {w : World}, wpAny P md ops Q fuel l' a' w → wpAny P md ops Q (fuel + n) l a w := by
  induction h with
  | nil => exact fun h => h
  | cons i v hi hf hr hy _ ih => exact fun h => wpAny_take hi hs hf hr (fun c a w => hQ c a _ v w) hy (ih h)

theorem Takes.done {l l' : Array Bool} {a a' : Act} (hl : l = l') (ha : a = a') : Takes P md ops 0 l a l' a' := by
  subst hl ha
  exact .nil
theorem wpOp_make {T : TypeId} {i : Nat} {o : Oper} (hi : ops[i]? = some o) (hop : o.op = .makeMap T none) (hg : o.guard = none) {a : Act} {w : World} {G : Act → World → Prop} (h : G (a.put o.dst (.map (some w.heap.size))) (w.alloc (.map #[] 0))) : wpOp P ops Q i G a w := by
  unfold wpOp
  simp only [hi, Region.wanted, hg]
  refine .inl ?_
  unfold Oper.wp
  have e : (execOp a.eval o).run P w = .ok (.value (.map (some w.heap.size))) (w.alloc (.map #[] 0)) := by
    unfold execOp
    rw [hop]
    simp [run_makeMap, Result.andThen]
  rw [e, Oper.upon_value]
  exact h
theorem wpAny_only {i fuel : Nat} {l : Array Bool} {a : Act} {w : World} (hr : Region.ready md ops l = [i]) (h : wpOp P ops Q i (wpAny P md ops Q fuel (l.setIfInBounds i true)) a w) : wpAny P md ops Q (fuel + 1) l a w :=
  wpAny_all hr (by simp) fun j hj => by
    obtain rfl := List.mem_singleton.1 hj
    exact h
theorem all_cons {α : Type} {X : α → Prop} {x : α} {l : List α} (h : X x) (hs : ∀ y ∈ l, X y) : ∀ y ∈ x :: l, X y := fun y hy => by
  rcases List.mem_cons.1 hy with rfl | hy
  · exact h
  · exact hs y hy
theorem all_nil {α : Type} {X : α → Prop} : ∀ y ∈ ([] : List α), X y := fun _ hy => by cases hy
/-- An entry that is to be laid: which operation, the key, the value. -/
structure Ent where
  i : Nat
  key : Lit
  val : Value
structure IsIns (P : Program) (ops : Array Oper) (T K : TypeId) (a : Act) (b : Nat) (p : Ent) : Prop where
  all : ∃ o m x v key, ops[p.i]? = some o ∧ o.op = .insert T m x v ∧ o.guard = none ∧ o.dst = none ∧ a.eval m = .map (some b) ∧ a.eval x = key ∧ keyOf P K key = some p.key ∧ a.eval v = p.val
/-- What stands when all entries of I but those of R are laid. -/
structure LaidBut (P : Program) (K : TypeId) (b : Nat) (I R : List Ent) (w0 w : World) (D : DataW Value) : Prop where
  own : w.ownsMap P K hel b (I.length - R.length) D
  grown : w0.grownBy w (some b)
  there : ∀ p ∈ I, p ∉ R → ∀ z, D.atKey p.key z = .held p.val
  nokey : ∀ k, (∀ p ∈ I, p ∈ R ∨ p.key ≠ k) → ∀ z, D.atKey k z = z
def insCheck (md : Region.Mode) (ops : Array Oper) (L1 : Array Bool) (I : List Nat) : Bool :=
  (List.range ops.size).all fun j =>
    match ops[j]? with
    | none => true
    | some o =>
      if I.contains j then o.after.all (fun e => !Region.binds md e || (L1.getD e.on false && !I.contains e.on))
      else L1.getD j true || I.all (fun i => o.after.any fun e => Region.binds md e && e.on == i)
/-- All but those of R have come. -/
def Come (L1 l : Array Bool) (R : List Nat) : Prop := l.size = L1.size ∧ ∀ j, j < L1.size → l[j]? = if j ∈ R then some false else L1[j]?
theorem Come.getD {L1 l : Array Bool} {R : List Nat} (h : Come L1 l R) {j : Nat} (hj : j < L1.size) (d : Bool) : l.getD j d = if j ∈ R then false else L1.getD j d := by
  have := h.2 j hj
  rw [Array.getD_eq_getD_getElem?, Array.getD_eq_getD_getElem?, this]
  split <;> simp
theorem Come.nil {L1 l : Array Bool} (h : Come L1 l []) : l = L1 := by
  apply Array.ext_getElem?
  intro j
  by_cases hj : j < L1.size
  · simpa using h.2 j hj
  · rw [Array.getElem?_eq_none (by rw [h.1]; omega), Array.getElem?_eq_none (by omega)]
theorem Come.start {L1 : Array Bool} {R : List Nat} {l : Array Bool} (h : l.size = L1.size) (hh : ((List.range L1.size).all fun j => l[j]? == if R.contains j then some false else L1[j]?) = true) : Come L1 l R :=
  ⟨h, fun j hj => by
    have := List.all_eq_true.1 hh j (List.mem_range.2 hj)
    have h2 := eq_of_beq this
    rw [h2]
    by_cases hc : j ∈ R
    · simp [hc]
    · simp [hc]⟩
theorem Come.step {L1 l : Array Bool} {R : List Nat} (h : Come L1 l R) {i : Nat} (hi : L1[i]? = some true) (hn : R.Nodup) : Come L1 (l.setIfInBounds i true) (R.erase i) := by
  have hlt : i < L1.size := (Array.getElem?_eq_some_iff.1 hi).1
  refine ⟨by rw [Array.size_setIfInBounds]; exact h.1, fun j hj => ?_⟩
  by_cases hij : i = j
  · subst hij
    rw [Array.getElem?_setIfInBounds_self_of_lt (by rw [h.1]; exact hlt), if_neg (fun hm => (List.Nodup.mem_erase_iff hn).1 hm |>.1 rfl), hi]
  · rw [Array.getElem?_setIfInBounds_ne hij, h.2 j hj]
    by_cases hm : j ∈ R
    · rw [if_pos hm, if_pos ((List.Nodup.mem_erase_iff hn).2 ⟨fun e => hij e.symm, hm⟩)]
    · rw [if_neg hm, if_neg (fun hm' => hm (List.mem_of_mem_erase hm'))]

theorem ready_of_check {L1 l : Array Bool} {I R : List Nat} (hc : insCheck md ops L1 I = true) (hsz : L1.size = ops.size) (hI : ∀ i ∈ I, L1[i]? = some true) (hl : Come L1 l R) (hR : ∀ i ∈ R, i ∈ I) (hne : R ≠ []) :
    ∀ j, j ∈ Region.ready md ops l ↔ j ∈ R := by
  intro j
  rw [mem_ready]
  constructor
  · rintro ⟨h0, o, ho, hall⟩
    have hj : j < ops.size := (Array.getElem?_eq_some_iff.1 ho).1
    rw [hl.getD (by omega)] at h0
    by_cases hm : j ∈ R
    · exact hm
    · exfalso
      rw [if_neg hm] at h0
      have h1 := List.all_eq_true.1 hc j (List.mem_range.2 hj)
      simp only [ho] at h1
      by_cases hjI : I.contains j = true
      · have := hI j (by simpa using hjI)
        rw [Array.getD_eq_getD_getElem?, this] at h0
        cases h0
      · rw [if_neg hjI, h0, Bool.false_or] at h1
        obtain ⟨r, rest, rfl⟩ := List.exists_cons_of_ne_nil hne
        have h2 := List.all_eq_true.1 h1 r (hR r (List.mem_cons_self ..))
        obtain ⟨e, he, hb⟩ := Array.any_eq_true'.1 h2
        simp only [Bool.and_eq_true, beq_iff_eq] at hb
        have h3 := hall e he hb.1
        rw [hb.2] at h3
        have hrl : r < L1.size := (Array.getElem?_eq_some_iff.1 (hI r (hR r (List.mem_cons_self ..)))).1
        rw [hl.getD hrl, if_pos (List.mem_cons_self ..)] at h3
        cases h3
  · intro hm
    have hjI := hR j hm
    have hlt : j < L1.size := (Array.getElem?_eq_some_iff.1 (hI j hjI)).1
    have ho : ops[j]? = some ops[j] := Array.getElem?_eq_getElem (by omega)
    refine ⟨by rw [hl.getD hlt, if_pos hm], ops[j], ho, fun e he hb => ?_⟩
    have h1 := List.all_eq_true.1 hc j (List.mem_range.2 (by omega))
    simp only [ho] at h1
    rw [if_pos (by simpa using hjI)] at h1
    have h2 := Array.all_eq_true_iff_forall_mem.1 h1 e he
    simp only [hb, Bool.not_true, Bool.false_or, Bool.and_eq_true, Bool.not_eq_true'] at h2
    have hon : e.on < L1.size := by
      rcases Nat.lt_or_ge e.on L1.size with h | h
      · exact h
      · have := h2.1
        rw [Array.getD_eq_getD_getElem?, Array.getElem?_eq_none h] at this
        cases this
    have hnR : e.on ∉ R := fun h => by
      have := hR _ h
      have h3 := h2.2
      simp [this] at h3
    rw [hl.getD hon, if_neg hnR]
    exact h2.1

theorem wpOp_insert {T K E : TypeId} (KK : Keyed P K) (hT : P.underlying T = some (.map K E)) {a : Act} {b n : Nat} {p : Ent} (hp : IsIns P ops T K a b p) {D : DataW Value} {w : World} (hown : w.ownsMap P K hel b n D) (hn : n < maxLen) {G : Act → World → Prop}
    (hK : ∀ w', w'.ownsMap P K hel b (n + 1) (D.put p.key (.held p.val)) → w.mapTurned w' b → G a w') : wpOp P ops Q p.i G a w := by
  obtain ⟨o, m, x, v, key, ho, hop, hg, hd, hm, hx, hkey, hv⟩ := hp.all
  obtain ⟨w', hrun, h1, h2⟩ := hown.store KK hT hn hkey (show hel p.val = some (.held p.val, []) from rfl)
  unfold wpOp
  simp only [ho, Region.wanted, hg]
  refine .inl ?_
  unfold Oper.wp
  have e : (execOp a.eval o).run P w = .ok .skip w' := by
    unfold execOp
    rw [hop]
    simp [hm, hx, hv, hrun, Result.andThen]
  rw [e, Oper.upon_skip, hd]
  exact hK w' h1 h2

theorem inj_of_nodup {α β : Type} {f : α → β} : ∀ {l : List α}, (l.map f).Nodup → ∀ {x y : α}, x ∈ l → y ∈ l → f x = f y → x = y
  | [], _, _, _, h, _, _ => by cases h
  | z :: l, hn, x, y, hx, hy, e => by
    rw [List.map_cons, List.nodup_cons] at hn
    rcases List.mem_cons.1 hx with h1 | h1
    · rcases List.mem_cons.1 hy with h2 | h2
      · rw [h1, h2]
      · exact absurd (List.mem_map.2 ⟨y, h2, by rw [← e, h1]⟩) hn.1
    · rcases List.mem_cons.1 hy with h2 | h2
      · exact absurd (List.mem_map.2 ⟨x, h1, by rw [e, h2]⟩) hn.1
      · exact inj_of_nodup hn.2 h1 h2 e
theorem wpAny_inserts {T K E : TypeId} (KK : Keyed P K) (hT : P.underlying T = some (.map K E)) {a : Act} {b : Nat} {I : List Ent} {L1 : Array Bool} {w0 : World} (hI : ∀ p ∈ I, IsIns P ops T K a b p)
    (hc : insCheck md ops L1 (I.map (·.i)) = true) (hsz : L1.size = ops.size) (hL : ∀ i ∈ I.map (·.i), L1[i]? = some true) (hnd : (I.map (·.i)).Nodup) (hkn : (I.map (·.key)).Nodup) (hkl : ∀ p ∈ I, WideAt.IsKeyLit p.key) (hlen : I.length < maxLen)
    {fuel : Nat} (hK : ∀ w D, LaidBut P K b I [] w0 w D → wpAny P md ops Q fuel L1 a w) :
    ∀ (n : Nat) (R : List Ent) (l : Array Bool) (w : World) (D : DataW Value), R.length = n → R.Sublist I → Come L1 l (R.map (·.i)) → LaidBut P K b I R w0 w D → wpAny P md ops Q (fuel + n) l a w := by
  intro n
  induction n with
  | zero =>
    intro R l w D hn hs hl hD
    obtain rfl : R = [] := List.eq_nil_of_length_eq_zero hn
    rw [hl.nil]
    exact hK w D hD
  | succ n ih =>
    intro R l w D hn hs hl hD
    have hne : R ≠ [] := fun e => by rw [e] at hn; cases hn
    have hmem := ready_of_check hc hsz hL hl (fun i hi => by
      obtain ⟨p, hp, rfl⟩ := List.mem_map.1 hi
      exact List.mem_map.2 ⟨p, hs.subset hp, rfl⟩) (by simpa using hne)
    refine ⟨fun h0 => ?_, fun j hj => ?_⟩
    · exfalso
      obtain ⟨r, rest, rfl⟩ := List.exists_cons_of_ne_nil hne
      have := (hmem r.i).2 (List.mem_map.2 ⟨r, List.mem_cons_self .., rfl⟩)
      rw [h0] at this
      cases this
    · obtain ⟨p, hp, rfl⟩ := List.mem_map.1 ((hmem j).1 hj)
      have hpI := hs.subset hp
      have hRn : (R.map (·.i)).Nodup := hnd.sublist (hs.map _)
      have hIlen : R.length ≤ I.length := hs.length_le
      refine wpOp_insert KK hT (hI p hpI) hD.own (by omega) fun w' h1 h2 => ?_
      have hinj : ∀ q ∈ I, q.i = p.i → q = p := fun q hq e => by
        exact inj_of_nodup hnd hq hpI e
      have hkinj : ∀ q ∈ I, q.key = p.key → q = p := fun q hq e => inj_of_nodup hkn hq hpI e
      obtain ⟨R1, R2, rfl⟩ := List.append_of_mem hp
      have hsub : (R1 ++ R2).Sublist (R1 ++ p :: R2) := (List.append_sublist_append_left R1).2 (List.sublist_cons_self p R2)
      have hpn : p ∉ R1 ++ R2 := fun hm => by
        rw [List.map_append, List.map_cons] at hRn
        have h3 := (List.nodup_append.1 hRn)
        have h4 := List.nodup_cons.1 h3.2.1
        rcases List.mem_append.1 hm with h | h
        · exact h3.2.2 p.i (List.mem_map.2 ⟨p, h, rfl⟩) p.i (List.mem_cons_self ..) rfl
        · exact h4.1 (List.mem_map.2 ⟨p, h, rfl⟩)
      refine ih (R1 ++ R2) _ w' (D.put p.key (.held p.val)) (by simp at hn ⊢; omega) (hsub.trans hs) ?_ ?_
      · have h5 := hl.step (hL p.i (List.mem_map.2 ⟨p, hpI, rfl⟩)) hRn
        have h6 : ((R1 ++ p :: R2).map (·.i)).erase p.i = (R1 ++ R2).map (·.i) := by
          rw [List.map_append, List.map_cons, List.map_append, List.erase_append_right, List.erase_cons_head]
          rw [List.map_append, List.map_cons] at hRn
          intro hm
          exact (List.nodup_append.1 hRn).2.2 p.i hm p.i (List.mem_cons_self ..) rfl
        rw [h6] at h5
        exact h5
      · have hm := hD.own.isMap
        refine ⟨h1.mono (by simp at hIlen ⊢; omega), hD.grown.trans h2.grown, fun q hq hnq z => ?_, fun k hk z => ?_⟩
        · by_cases e : q = p
          · subst e
            exact atKey_put_same hm (hkl q hq) _ z
          · rw [atKey_put_other (fun e' => e (hkinj q hq e'))]
            refine hD.there q hq (fun hm' => hnq ?_) z
            rcases List.mem_append.1 hm' with h | h
            · exact List.mem_append_left _ h
            · rcases List.mem_cons.1 h with h | h
              · exact absurd h e
              · exact List.mem_append_right _ h
        · have hkp : p.key ≠ k := (hk p hpI).resolve_left hpn
          rw [atKey_put_other (fun e => hkp e.symm)]
          exact hD.nokey k (fun q hq => (hk q hq).imp (fun h => hsub.subset h) id) z

/-- What stands at the end, said at once. -/
theorem LaidBut.eq {K : TypeId} (KK : Keyed P K) {b : Nat} {I : List Ent} {w0 w : World} {D : DataW Value} (h : LaidBut P K b I [] w0 w D) {L : List (Lit × DataW Value)} (hr : L.Pairwise (fun p q => p.1.before q.1 = true)) (hk : ∀ p ∈ L, WideAt.IsKeyLit p.1)
    (h1 : ∀ p ∈ I, ((p.key, DataW.held p.val) : Lit × DataW Value) ∈ L) (h2 : ∀ q ∈ L, ∃ p ∈ I, q = (p.key, DataW.held p.val)) : D = .map L := by
  have hkI : ∀ p ∈ I, WideAt.IsKeyLit p.key := fun p hp => hk _ (h1 p hp)
  have at1 : ∀ p ∈ I, ∀ z, (DataW.map L : DataW Value).atKey p.key z = .held p.val := fun p hp z => WideAt.atKey_mem z (hkI p hp) (apart_of_rising hr) (h1 p hp)
  have at2 : ∀ k, (∀ p ∈ I, p.key ≠ k) → ∀ z, (DataW.map L : DataW Value).atKey k z = z := fun k hk' z => WideAt.atKey_none z (fun q hq => by
    obtain ⟨p, hp, rfl⟩ := h2 q hq
    exact hk' p hp)
  have key : ∀ k, (∃ p ∈ I, p.key = k) ∨ ∀ p ∈ I, p.key ≠ k := fun k => by
    by_cases e : ∃ p ∈ I, p.key = k
    · exact .inl e
    · exact .inr fun p hp hh => e ⟨p, hp, hh⟩
  refine Maps.ext (h.own.canon KK) ⟨L, rfl, hr, hk⟩ (fun k => ?_) (fun k z hh => ?_)
  · rcases key k with ⟨p, hp, rfl⟩ | hn
    · rw [has_true_of_atKey (h.there p hp (by simp)), has_true_of_atKey (at1 p hp)]
    · rw [has_false_of_atKey (h.nokey k fun p hp => .inr (hn p hp)), has_false_of_atKey (at2 k hn)]
  · rcases key k with ⟨p, hp, rfl⟩ | hn
    · rw [h.there p hp (by simp), at1 p hp]
    · rw [h.nokey k (fun p hp => .inr (hn p hp)), at2 k hn]
end
end Go.Proofs.YtbjmfhcgkpjcfaaDoor
namespace Go.Proofs.YtbjmfhcgkpjcfaaDoor
open Go.RowKit

/-- A byte that was reckoned. -/
theorem byt_val (k : Int) (h : 0 ≤ k) (h1 : k < 256) : [Value.int .u8 k] = bs [byt k] := by
  show _ = [Value.int .u8 ((byt k).toNat : Int)]
  rw [byt_nat k h h1]

/-- A slice of bytes handed back, of the call's own. -/
def Out (l : List UInt8) (w : World) (e : Ending) (w' : World) : Prop := ∃ A c, e = .returned (.slice A l.length c) ∧ Rd w' A (bs l) ∧ Below w.heap.size w w'
theorem out_own {base : Nat} {t : TypeId} {v : Value} {n : Nat} {l : List UInt8} {w w' : World} (ho : Own w' base t 1 v n (bs l)) (hb : Below w.heap.size w w') : Out l w (.returned v) w' := by
  obtain ⟨A, c, rfl, hr⟩ := ho.form
  have := ho.1
  rw [bs_length] at this
  exact ⟨A, c, by rw [show n = l.length by omega], hr, hb⟩

theorem out_lit (w : World) (t : TypeId) {l : List UInt8} {L : List Value} {n : Nat} (hE : bs l = L) (hL : l.length = n) : Out l w (.returned (.slice (some ⟨w.heap.size, 0, none⟩) n n)) (w.alloc (.cells L.toArray t)) := by
  subst hL hE
  exact ⟨_, _, rfl, Rd.block (heap_alloc_new w _) (by simp), (Below.refl _ _).alloc (Nat.le_refl _) _⟩

theorem bs1 (a : Int) (ha : 0 ≤ a) (ha' : a < 256) : bs [byt a] = [.int .u8 a] := (byt_val a ha ha').symm
theorem bs_cons (a : Int) (ha : 0 ≤ a) (ha' : a < 256) (l : List UInt8) : bs (byt a :: l) = .int .u8 a :: bs l := by
  show _ :: _ = _
  rw [show B8 (byt a) = .int .u8 a by unfold B8; rw [byt_nat a ha ha']]
  rfl

theorem rd_lit (w : World) (x : Value) (t : TypeId) : Rd (w.alloc (.cells #[x] t)) (some ⟨w.heap.size, 0, none⟩) [x] := Rd.block (heap_alloc_new w _) rfl
/-- What Take answers. -/
def Tk (l : List UInt8) : Ending := .returned (.tuple #[.int .i64 (takeL l).1, .int .i64 ((takeL l).2 : Nat)])
theorem tk_zero {l : List UInt8} (h : takeL l = (0, 0)) : Ending.returned (.tuple #[.int .i64 0, .int .i64 0]) = Tk l := by unfold Tk; rw [h]; rfl
theorem tk_is {l : List UInt8} {x : Int} {n : Nat} {m : Int} (h : takeL l = (x, n)) (hm : m = n) : Ending.returned (.tuple #[.int .i64 x, .int .i64 m]) = Tk l := by unfold Tk; rw [h, hm]

end Go.Proofs.YtbjmfhcgkpjcfaaDoor
namespace Go.Proofs.YtbjmfhcgkpjcfaaDoor
open Go.RowKit

set_option maxHeartbeats 1000000 in
theorem isPt_any (r : Int) (w : World) : Calls Tryd.prog 64 #[.int .i64 r] w fun e w' => e = .returned (.bool (isPt r)) ∧ w = w' := by
  by_cases h0 : 0 ≤ r
  · by_cases h1 : r ≤ 1114111
    · by_cases h2 : r < 55296
      · go_enter Tryd.func64, Tryd.ntmps64
        go_wp2
        go_ret
        exact ⟨ret_b (((isPt_iff r).2 (by omega)).symm), rfl⟩
      · by_cases h3 : 57343 < r
        · go_enter Tryd.func64, Tryd.ntmps64
          go_wp2
          go_ret
          exact ⟨ret_b (((isPt_iff r).2 (by omega)).symm), rfl⟩
        · go_enter Tryd.func64, Tryd.ntmps64
          go_wp2
          go_ret
          exact ⟨ret_b (((isPt_no r).2 (by omega)).symm), rfl⟩
    · go_enter Tryd.func64, Tryd.ntmps64
      go_wp2
      go_ret
      exact ⟨ret_b (((isPt_no r).2 (by omega)).symm), rfl⟩
  · go_enter Tryd.func64, Tryd.ntmps64
    go_wp2
    go_ret
    exact ⟨ret_b (((isPt_no r).2 (by omega)).symm), rfl⟩

/-- The array of sizes, as it was laid. -/
def sizC : Array Value := #[.int .i64 1, .int .i64 0, .int .i64 0, .int .i64 2, .int .i64 128, .int .i64 192, .int .i64 3, .int .i64 2048, .int .i64 224, .int .i64 4, .int .i64 65536, .int .i64 240]
def Siz (w : World) : Prop := ∃ t fz, w.heap[1]? = some (.cells sizC t fz)
theorem Siz.below {w w' : World} {B : Nat} (h : Siz w) (hb : Below B w w') (hB : w.heap.size ≤ B) : Siz w' := by
  obtain ⟨t, fz, hh⟩ := h
  have := (Array.getElem?_eq_some_iff.1 hh).1
  exact ⟨t, fz, (hb.block _ (by omega)).trans hh⟩
theorem Siz.below' {w w' : World} (h : Siz w) (hb : Below w.heap.size w w') : Siz w' := h.below hb (Nat.le_refl _)

/-- A size, by its place. -/
def szA : Nat → Array Value
  | 0 => #[.int .i64 1, .int .i64 0, .int .i64 0]
  | 1 => #[.int .i64 2, .int .i64 128, .int .i64 192]
  | 2 => #[.int .i64 3, .int .i64 2048, .int .i64 224]
  | _ => #[.int .i64 4, .int .i64 65536, .int .i64 240]
/-- The place of a code point's size, of those up to place k; and of a first byte's. -/
def ixP (r : Int) (k : Nat) : Nat := if 3 < k ∧ 65536 ≤ r then 3 else if 2 < k ∧ 2048 ≤ r then 2 else if 1 < k ∧ 128 ≤ r then 1 else 0
def ixF (r : Int) (k : Nat) : Nat := if 3 < k ∧ 240 ≤ r then 3 else if 2 < k ∧ 224 ≤ r then 2 else if 1 < k ∧ 192 ≤ r then 1 else 0
end Go.Proofs.YtbjmfhcgkpjcfaaDoor
