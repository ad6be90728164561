/-
  Layer 9: what keys are: mathematics. Numbers in figures, plainly: no program is named here. (Later layers' texts take this in the place of layer 1's own.) Layer 3's mathematics: a sequence, whether it may be, its bytes, and the sequence with which bytes begin. Layer 2: what takes and puts answer. (No function of any dump.) Layer 2, the document's Is and Put, walked. (Nothing of the program's.) Layer 2, walked: what a code point is; the sizes, in their array.
-/
import Derived.Test.YtbjmfhcgkpjcfaaGreatDoorG01
import Derived.Test.YtbjmfhcgkpjcfaaGreatDoorG02
import Derived.Lib.ItoaLen
import Derived.BigQuiet
import Derived.Deep.QuietTactic
namespace Go.Proofs.YtbjmfhcgkpjcfaaGreatDoor

structure En where
  kind : Int
  fin : Int
  num : Int
  char : Int
  keys : Bool
deriving DecidableEq
def letterN (c : Int) : Int :=
  if c = 57350 ∨ c = 57417 then 68 else if c = 57351 ∨ c = 57418 then 67 else if c = 57352 ∨ c = 57419 then 65 else if c = 57353 ∨ c = 57420 then 66
  else if c = 57356 ∨ c = 57423 then 72 else if c = 57357 ∨ c = 57424 then 70 else if c = 57427 then 69 else if 57364 ≤ c ∧ c ≤ 57367 then 80 + c - 57364 else 0
def numberN (c : Int) : Int :=
  if c = 57348 ∨ c = 57425 then 2 else if c = 57349 ∨ c = 57426 then 3 else if c = 57354 ∨ c = 57421 then 5 else if c = 57355 ∨ c = 57422 then 6
  else if c = 57368 then 15 else if 57369 ≤ c ∧ c ≤ 57373 then 17 + c - 57369 else if 57374 ≤ c ∧ c ≤ 57375 then 23 + c - 57374 else if c = 57363 then 29 else 0
def padE (c : Int) : En :=
  if c ≤ 57408 then ⟨5, 112 + c - 57399, 0, 48 + c - 57399, true⟩
  else ⟨5, [110, 111, 106, 109, 107, 77, 88, 108].getD (c - 57409).toNat 0, 0, [46, 47, 42, 45, 43, 13, 61, 44].getD (c - 57409).toNat 0, true⟩
def isPtK (c : Int) : Bool := decide (0 ≤ c ∧ c ≤ 1114111 ∧ ¬ (55296 ≤ c ∧ c ≤ 57343))
def restN (c : Int) : Int :=
  if c = 9 ∨ c = 13 ∨ c = 27 ∨ c = 127 then 2
  else if 57358 ≤ c ∧ c ≤ 57362 ∨ 57376 ≤ c ∧ c ≤ 57398 ∨ 57428 ≤ c ∧ c ≤ 57440 then 6
  else if 57441 ≤ c ∧ c ≤ 57454 then 7
  else if isPtK c = false ∨ c < 32 ∨ 127 ≤ c ∧ c ≤ 159 ∨ 57344 ≤ c ∧ c ≤ 63743 then 0 else 1
def lookE (c : Int) : En :=
  if letterN c ≠ 0 then ⟨3, letterN c, 0, 0, decide (57399 ≤ c)⟩
  else if numberN c ≠ 0 then ⟨4, 0, numberN c, 0, decide (57399 ≤ c)⟩
  else if 57399 ≤ c ∧ c ≤ 57416 then padE c else ⟨restN c, 0, 0, 0, false⟩
/-- Whether a code has a form. -/
def hasE (f n c : Int) : Bool := (lookE c).kind == 3 && (lookE c).fin == f || (lookE c).kind == 4 && f == 126 && (lookE c).num == n
def findK (f n : Int) : Nat → Int → Int × Bool
  | 0, _ => (0, false)
  | k + 1, c => if hasE f n c then (c, true) else findK f n k (c + 1)
def findE (f n : Int) : Int × Bool := findK f n 55 57344
theorem letter_out {c : Int} (h : c < 57344 ∨ 57455 ≤ c) : letterN c = 0 := by
  unfold letterN
  repeat' split
  all_goals omega
theorem number_out {c : Int} (h : c < 57344 ∨ 57455 ≤ c) : numberN c = 0 := by
  unfold numberN
  repeat' split
  all_goals omega
/-- What has no code of its own. -/
theorem look_out {c : Int} (h : c < 57344 ∨ 57455 ≤ c) : lookE c = ⟨restN c, 0, 0, 0, false⟩ := by
  unfold lookE
  rw [letter_out h, number_out h, if_neg (by decide), if_neg (by decide), if_neg (by omega)]
theorem find_hit (f n : Int) : ∀ (k : Nat) (c : Int), (findK f n k c).2 = true → hasE f n (findK f n k c).1 = true ∧ c ≤ (findK f n k c).1 ∧ (findK f n k c).1 < c + k
  | 0, _, h => by cases h
  | k + 1, c, h => by
    unfold findK at h ⊢
    split
    next hc => exact ⟨hc, Int.le_refl _, by simp; omega⟩
    next hc =>
      rw [if_neg hc] at h
      have := find_hit f n k (c + 1) h
      exact ⟨this.1, by omega, by simp; omega⟩
theorem find_none (f n : Int) : ∀ (k : Nat) (c : Int), (findK f n k c).2 = false → (findK f n k c).1 = 0 ∧ ∀ d, c ≤ d → d < c + k → hasE f n d = false
  | 0, c, _ => ⟨rfl, fun d h1 h2 => by simp at h2; omega⟩
  | k + 1, c, h => by
    unfold findK at h ⊢
    split
    next hc => rw [if_pos hc] at h; cases h
    next hc =>
      rw [if_neg hc] at h
      have ih := find_none f n k (c + 1) h
      refine ⟨ih.1, fun d h1 h2 => ?_⟩
      by_cases hd : d = c
      · subst hd; simpa using hc
      · exact ih.2 d (by omega) (by push_cast at h2; omega)
/-- The codes of the main board, one by one: each with a form is found by it. -/
theorem main_all : ∀ k : Fin 111, ((lookE (57344 + k.1)).kind == 3 || (lookE (57344 + k.1)).kind == 4) && !(lookE (57344 + k.1)).keys → findE (if (lookE (57344 + k.1)).kind = 4 then 126 else (lookE (57344 + k.1)).fin) (lookE (57344 + k.1)).num = (57344 + (k.1 : Int), true) := by decide +kernel
theorem rest_rng (c : Int) : restN c = 0 ∨ restN c = 1 ∨ restN c = 2 ∨ restN c = 6 ∨ restN c = 7 := by
  unfold restN
  repeat' split
  all_goals simp
theorem main_found {c : Int} (hk : (lookE c).kind = 3 ∨ (lookE c).kind = 4) (hm : (lookE c).keys = false) : findE (if (lookE c).kind = 4 then 126 else (lookE c).fin) (lookE c).num = (c, true) := by
  by_cases h : c < 57344 ∨ 57455 ≤ c
  · rw [look_out h] at hk
    have := rest_rng c
    simp only at hk
    omega
  · obtain ⟨k, hk2⟩ : ∃ k : Fin 111, c = 57344 + k.1 := ⟨⟨(c - 57344).toNat, by omega⟩, by simp; omega⟩
    subst hk2
    exact main_all k (by rw [hm]; rcases hk with e | e <;> rw [e] <;> rfl)
theorem code_all : ∀ k : Fin 111, (lookE (57344 + k.1)).kind = 0 ∨ (lookE (57344 + k.1)).kind = 3 ∨ (lookE (57344 + k.1)).kind = 4 ∨ (lookE (57344 + k.1)).kind = 5 ∨ (lookE (57344 + k.1)).kind = 6 ∨ (lookE (57344 + k.1)).kind = 7 := by decide +kernel
/-- No code of the main board stands on the pad. -/
theorem main_keys : ∀ k : Fin 55, (lookE (57344 + k.1)).keys = false := by decide +kernel
theorem found_right {f n : Int} (h : (findE f n).2 = true) : hasE f n (findE f n).1 = true ∧ (lookE (findE f n).1).keys = false := by
  obtain ⟨h1, h2, h3⟩ := find_hit f n 55 57344 h
  refine ⟨h1, ?_⟩
  have hb : 57344 ≤ (findE f n).1 ∧ (findE f n).1 < 57344 + 55 := ⟨h2, h3⟩
  obtain ⟨c, hc⟩ : ∃ c, (findE f n).1 = c := ⟨_, rfl⟩
  rw [hc] at hb ⊢
  obtain ⟨k, rfl⟩ : ∃ k : Fin 55, c = 57344 + k.1 := ⟨⟨(c - 57344).toNat, by omega⟩, by simp; omega⟩
  exact main_keys k
end Go.Proofs.YtbjmfhcgkpjcfaaGreatDoor
namespace Go.Proofs.YtbjmfhcgkpjcfaaGreatDoor

/-- A number in figures. -/
def textL (n : Int) : List UInt8 := if n < 0 then [] else Lib.decDigits n.toNat
theorem textL_neg (n : Int) (h : n < 0) : textL n = [] := if_pos h
theorem textL_small (n : Int) (h0 : 0 ≤ n) (h : n < 10) : textL n = [UInt8.ofNat (48 + n.toNat)] := by
  unfold textL; rw [if_neg (by omega), Lib.decDigits, dif_pos (by omega)]
theorem textL_big (n : Int) (h : 10 ≤ n) : textL n = textL (n / 10) ++ [UInt8.ofNat (48 + (n % 10).toNat)] := by
  unfold textL
  rw [if_neg (by omega), if_neg (by omega), Lib.decDigits, dif_neg (by omega)]
  rw [show (n / 10).toNat = n.toNat / 10 by omega, show (n % 10).toNat = n.toNat % 10 by omega]
theorem textL_length (n : Int) (h1 : n ≤ 9223372036854775807) : (textL n).length ≤ 21 := by
  by_cases h : n < 0
  · rw [textL_neg n h]; simp
  · rw [show textL n = Lib.itoa n by unfold textL Lib.itoa; rw [if_neg h, if_neg h]]
    exact Lib.itoa_length_le n (by omega) h1

def isD (c : UInt8) : Bool := decide (48 ≤ c.toNat ∧ c.toNat ≤ 57)
theorem digit_isD (k : Nat) (h : k < 10) : isD (UInt8.ofNat (48 + k)) = true ∧ (UInt8.ofNat (48 + k)).toNat = 48 + k := by
  have e : (UInt8.ofNat (48 + k)).toNat = 48 + k := UInt8.toNat_ofNat_of_lt' (by show 48 + k < 256; omega)
  unfold isD
  rw [e]
  exact ⟨decide_eq_true (by omega), rfl⟩
theorem dec_step (u : Nat) (h : ¬ u < 10) : Lib.decDigits u = Lib.decDigits (u / 10) ++ [UInt8.ofNat (48 + u % 10)] := by rw [Lib.decDigits, dif_neg h]
theorem dec_small (u : Nat) (h : u < 10) : Lib.decDigits u = [UInt8.ofNat (48 + u)] := by rw [Lib.decDigits, dif_pos h]
theorem dec_all (u : Nat) : ∀ c ∈ Lib.decDigits u, isD c = true := by
  induction u using Nat.strongRecOn with
  | _ u ih =>
    by_cases h : u < 10
    · rw [dec_small u h]
      intro c hc
      rw [List.mem_singleton] at hc
      subst hc
      exact (digit_isD u h).1
    · rw [dec_step u h]
      intro c hc
      rcases List.mem_append.1 hc with hc | hc
      · exact ih (u / 10) (by omega) c hc
      · rw [List.mem_singleton] at hc
        subst hc
        exact (digit_isD (u % 10) (by omega)).1
theorem dec_ne (u : Nat) : Lib.decDigits u ≠ [] := by
  by_cases h : u < 10
  · rw [dec_small u h]; simp
  · rw [dec_step u h]; simp
/-- Figures read on, held down at a greatest number. -/
def rd (M : Int) (n : Int) (c : UInt8) : Int := min (10 * max n 0 + ((c.toNat : Int) - 48)) M
theorem dec_read (M : Int) (u : Nat) (hM : 9 ≤ M) : (Lib.decDigits u).foldl (rd M) (-1) = min (u : Int) M := by
  induction u using Nat.strongRecOn with
  | _ u ih =>
    by_cases h : u < 10
    · rw [dec_small u h, List.foldl_cons, List.foldl_nil, rd, (digit_isD u h).2]; omega
    · rw [dec_step u h, List.foldl_append, ih (u / 10) (by omega), List.foldl_cons, List.foldl_nil, rd, (digit_isD (u % 10) (by omega)).2]; omega
theorem text_read (M n : Int) (hM : 9 ≤ M) (h : 0 ≤ n) : (textL n).foldl (rd M) (-1) = min n M := by
  unfold textL
  rw [if_neg (by omega), dec_read M _ hM]
  omega
theorem text_all_isD (n : Int) : ∀ c ∈ textL n, isD c = true := by
  unfold textL
  split
  · intro c hc; cases hc
  · exact dec_all _
theorem text_ne (n : Int) (h : 0 ≤ n) : textL n ≠ [] := by
  unfold textL
  rw [if_neg (by omega)]
  exact dec_ne _
end Go.Proofs.YtbjmfhcgkpjcfaaGreatDoor
namespace Go.Proofs.YtbjmfhcgkpjcfaaGreatDoor

structure Sq where
  kind : Int
  priv : UInt8
  params : List (List Int)
  inter : List UInt8
  final : UInt8
  data : List UInt8

/-- From one byte to another one. -/
def btw (a b : Nat) (c : UInt8) : Bool := decide (a ≤ c.toNat) && decide (c.toNat ≤ b)
theorem btw_iff (a b : Nat) (c : UInt8) : btw a b c = true ↔ a ≤ c.toNat ∧ c.toNat ≤ b := by simp [btw]
theorem btw_no (a b : Nat) (c : UInt8) : btw a b c = false ↔ ¬ (a ≤ c.toNat ∧ c.toNat ≤ b) := by rw [← btw_iff]; simp
def parOk (l : List (List Int)) : Bool := decide (l.length ≤ 16) && decide (l ≠ [[-1]]) && l.all fun p => decide (1 ≤ p.length) && decide (p.length ≤ 8) && p.all fun n => decide (-1 ≤ n) && decide (n ≤ 1114111)
def lastOk (s : Sq) : Bool :=
  if s.kind = 1 ∨ s.kind = 2 ∨ s.kind = 3 then btw 64 126 s.final
  else if s.kind = 5 then btw 48 126 s.final && (decide (s.inter ≠ []) || !([79, 80, 88, 91, 93, 92, 94, 95] : List UInt8).contains s.final)
  else decide (s.kind = 4) && decide (s.final = 0)
def bareOk (s : Sq) : Bool :=
  !(decide (s.kind = 2 ∨ s.kind = 4 ∨ s.kind = 5) && (decide (s.priv ≠ 0) || decide (s.params ≠ []))) && !(decide (s.kind = 2 ∨ s.kind = 4) && decide (s.inter ≠ [])) && (decide (s.data = []) || decide (s.kind = 3 ∨ s.kind = 4))
def privOk (c : UInt8) : Bool := decide (c = 0) || btw 60 63 c
def okS (s : Sq) : Bool := privOk s.priv && parOk s.params && decide (s.inter.length ≤ 2) && s.inter.all (btw 32 47) && s.data.all (btw 32 126) && lastOk s && bareOk s
/-- The error's number. -/
def mayS (s : Sq) : Int := if 4096 < s.data.length then 4 else if okS s = true then 0 else 1

/-- A parameter's parts; all parameters; the body. -/
def partL : List Int → List UInt8
  | [] => []
  | [n] => textL n
  | n :: m :: p => textL n ++ (58 :: partL (m :: p))
def parL : List (List Int) → List UInt8
  | [] => []
  | [p] => partL p
  | p :: q :: l => partL p ++ (59 :: parL (q :: l))
def privL (c : UInt8) : List UInt8 := if c = 0 then [] else [c]
def bodyL (s : Sq) : List UInt8 := privL s.priv ++ parL s.params ++ s.inter
def putS (s : Sq) : List UInt8 :=
  if s.kind = 1 then 27 :: 91 :: (bodyL s ++ [s.final])
  else if s.kind = 2 then [27, 79, s.final]
  else if s.kind = 3 then 27 :: 80 :: (bodyL s ++ (s.final :: (s.data ++ [27, 92])))
  else if s.kind = 4 then 27 :: 93 :: (s.data ++ [27, 92])
  else 27 :: (s.inter ++ [s.final])

/-- The parameters in bytes of figures, colons and semicolons. -/
def numsGo (n : Int) (one : List Int) : List UInt8 → List (List Int)
  | [] => [one ++ [n]]
  | c :: l => if isD c = true then numsGo (rd 1114112 n c) one l else if c = 59 then (one ++ [n]) :: numsGo (-1) [] l else numsGo (-1) (one ++ [n]) l
def numsL (l : List UInt8) : List (List Int) := if l = [] then [] else numsGo (-1) [] l

/-- What follows figures isn't one. -/
theorem go_figs (l m : List UInt8) (n : Int) (one : List Int) (h : ∀ c ∈ l, isD c = true) : numsGo n one (l ++ m) = numsGo (l.foldl (rd 1114112) n) one m := by
  induction l generalizing n with
  | nil => rfl
  | cons c l ih =>
    have hc := h c (List.mem_cons_self ..)
    rw [List.cons_append]
    show (if isD c = true then numsGo (rd 1114112 n c) one (l ++ m) else _) = _
    rw [if_pos hc, ih _ (fun d hd => h d (List.mem_cons_of_mem _ hd))]
    rfl
theorem go_text (n : Int) (h0 : -1 ≤ n) (h1 : n ≤ 1114111) (m : List UInt8) (one : List Int) : numsGo (-1) one (textL n ++ m) = numsGo n one m := by
  rw [go_figs _ _ _ _ (text_all_isD n)]
  by_cases h : n < 0
  · rw [textL_neg n h, show n = -1 by omega]; rfl
  · rw [text_read _ _ (by omega) (by omega), show min n 1114112 = n by omega]
def partOk (p : List Int) : Prop := ∀ n ∈ p, -1 ≤ n ∧ n ≤ 1114111
theorem go_part : ∀ (p : List Int) (_ : p ≠ []) (_ : partOk p) (one : List Int), numsGo (-1) one (partL p) = [one ++ p] ∧ ∀ m, numsGo (-1) one (partL p ++ (59 :: m)) = (one ++ p) :: numsGo (-1) [] m := by
  intro p
  induction p with
  | nil => intro h; exact absurd rfl h
  | cons n p ih =>
    intro _ ho one
    obtain ⟨h0, h1⟩ := ho n (List.mem_cons_self ..)
    cases p with
    | nil =>
      refine ⟨?_, fun m => ?_⟩
      · have := go_text n h0 h1 [] one
        rw [List.append_nil] at this
        exact this
      · have := go_text n h0 h1 (59 :: m) one
        exact this
    | cons k p =>
      have ih' := ih (by simp) (fun x hx => ho x (List.mem_cons_of_mem _ hx)) (one ++ [n])
      have e : partL (n :: k :: p) = textL n ++ (58 :: partL (k :: p)) := rfl
      refine ⟨?_, fun m => ?_⟩
      · rw [e, go_text n h0 h1]
        show numsGo (-1) (one ++ [n]) (partL (k :: p)) = _
        rw [ih'.1, List.append_assoc]; rfl
      · rw [e, List.append_assoc, go_text n h0 h1]
        show numsGo (-1) (one ++ [n]) (partL (k :: p) ++ (59 :: m)) = _
        rw [ih'.2 m, List.append_assoc]; rfl
theorem go_par : ∀ (l : List (List Int)), l ≠ [] → (∀ p ∈ l, p ≠ [] ∧ partOk p) → numsGo (-1) [] (parL l) = l := by
  intro l
  induction l with
  | nil => intro h; exact absurd rfl h
  | cons p l ih =>
    intro _ ho
    obtain ⟨h0, h1⟩ := ho p (List.mem_cons_self ..)
    cases l with
    | nil => exact (go_part p h0 h1 []).1
    | cons q l =>
      have ih' := ih (by simp) (fun x hx => ho x (List.mem_cons_of_mem _ hx))
      have e : parL (p :: q :: l) = partL p ++ (59 :: parL (q :: l)) := rfl
      rw [e, (go_part p h0 h1 []).2, ih']; rfl
theorem part_nil : ∀ (p : List Int), partOk p → p ≠ [] → partL p = [] → p = [-1] := by
  intro p ho hn h
  match p with
  | [] => exact absurd rfl hn
  | [n] =>
    obtain ⟨h0, h1⟩ := ho n (List.mem_cons_self ..)
    by_cases hneg : n < 0
    · rw [show n = -1 by omega]
    · exact absurd h (text_ne n (by omega))
  | n :: m :: p => simp [partL] at h
theorem par_nil : ∀ (l : List (List Int)), (∀ p ∈ l, p ≠ [] ∧ partOk p) → parL l = [] → l = [] ∨ l = [[-1]] := by
  intro l ho h
  match l with
  | [] => exact .inl rfl
  | [p] => exact .inr (by rw [part_nil p (ho p (List.mem_cons_self ..)).2 (ho p (List.mem_cons_self ..)).1 h])
  | p :: q :: l => simp [parL] at h
theorem parOk_all {l : List (List Int)} (h : parOk l = true) : (∀ p ∈ l, p ≠ [] ∧ partOk p) ∧ l ≠ [[-1]] := by
  simp only [parOk, Bool.and_eq_true, decide_eq_true_eq, List.all_eq_true] at h
  refine ⟨fun p hp => ?_, h.1.2⟩
  obtain ⟨⟨h1, _⟩, h2⟩ := h.2 p hp
  refine ⟨fun e => by rw [e] at h1; simp at h1, fun n hn => h2 n hn⟩
theorem nums_par {l : List (List Int)} (h : parOk l = true) : numsL (parL l) = l := by
  obtain ⟨h1, h2⟩ := parOk_all h
  unfold numsL
  by_cases he : l = []
  · subst he; rfl
  · rw [if_neg (fun e => (par_nil l h1 e).elim he h2)]
    exact go_par l he h1
/-- A parameter's bytes: figures, colons, semicolons. -/
theorem part_btw (p : List Int) : ∀ c ∈ partL p, btw 48 59 c = true := by
  have ht : ∀ n, ∀ c ∈ textL n, btw 48 59 c = true := fun n c hc => by
    have := of_decide_eq_true (text_all_isD n c hc)
    rw [btw_iff]; omega
  match p with
  | [] => intro c hc; cases hc
  | [n] => exact ht n
  | n :: m :: p =>
    intro c hc
    rcases List.mem_append.1 (show c ∈ textL n ++ (58 :: partL (m :: p)) from hc) with h | h
    · exact ht n c h
    · rcases List.mem_cons.1 h with rfl | h
      · decide
      · exact part_btw (m :: p) c h
theorem par_btw (l : List (List Int)) : ∀ c ∈ parL l, btw 48 59 c = true := by
  match l with
  | [] => intro c hc; cases hc
  | [p] => exact part_btw p
  | p :: q :: l =>
    intro c hc
    rcases List.mem_append.1 (show c ∈ partL p ++ (59 :: parL (q :: l)) from hc) with h | h
    · exact part_btw p c h
    · rcases List.mem_cons.1 h with rfl | h
      · decide
      · exact par_btw (q :: l) c h
end Go.Proofs.YtbjmfhcgkpjcfaaGreatDoor
namespace Go.Proofs.YtbjmfhcgkpjcfaaGreatDoor
open Go.RowKit

/-- A byte that was reckoned. -/
theorem byt_val (k : Int) (h : 0 ≤ k) (h1 : k < 256) : [Value.int .u8 k] = bs [byt k] := by
  show _ = [Value.int .u8 ((byt k).toNat : Int)]
  rw [byt_nat k h h1]

/-- A slice of bytes handed back, of the call's own. -/
def Out (l : List UInt8) (w : World) (e : Ending) (w' : World) : Prop := ∃ A c, e = .returned (.slice A l.length c) ∧ Rd w' A (bs l) ∧ Below w.heap.size w w'
theorem out_own {base : Nat} {t : TypeId} {v : Value} {n : Nat} {l : List UInt8} {w w' : World} (ho : Own w' base t 1 v n (bs l)) (hb : Below w.heap.size w w') : Out l w (.returned v) w' := by
  obtain ⟨A, c, rfl, hr⟩ := ho.form
  have := ho.1
  rw [bs_length] at this
  exact ⟨A, c, by rw [show n = l.length by omega], hr, hb⟩

theorem out_lit (w : World) (t : TypeId) {l : List UInt8} {L : List Value} {n : Nat} (hE : bs l = L) (hL : l.length = n) : Out l w (.returned (.slice (some ⟨w.heap.size, 0, none⟩) n n)) (w.alloc (.cells L.toArray t)) := by
  subst hL hE
  exact ⟨_, _, rfl, Rd.block (heap_alloc_new w _) (by simp), (Below.refl _ _).alloc (Nat.le_refl _) _⟩

theorem bs1 (a : Int) (ha : 0 ≤ a) (ha' : a < 256) : bs [byt a] = [.int .u8 a] := (byt_val a ha ha').symm
theorem bs_cons (a : Int) (ha : 0 ≤ a) (ha' : a < 256) (l : List UInt8) : bs (byt a :: l) = .int .u8 a :: bs l := by
  show _ :: _ = _
  rw [show B8 (byt a) = .int .u8 a by unfold B8; rw [byt_nat a ha ha']]
  rfl

theorem rd_lit (w : World) (x : Value) (t : TypeId) : Rd (w.alloc (.cells #[x] t)) (some ⟨w.heap.size, 0, none⟩) [x] := Rd.block (heap_alloc_new w _) rfl
/-- What Take answers. -/
def Tk (l : List UInt8) : Ending := .returned (.tuple #[.int .i64 (takeL l).1, .int .i64 ((takeL l).2 : Nat)])
theorem tk_zero {l : List UInt8} (h : takeL l = (0, 0)) : Ending.returned (.tuple #[.int .i64 0, .int .i64 0]) = Tk l := by unfold Tk; rw [h]; rfl
theorem tk_is {l : List UInt8} {x : Int} {n : Nat} {m : Int} (h : takeL l = (x, n)) (hm : m = n) : Ending.returned (.tuple #[.int .i64 x, .int .i64 m]) = Tk l := by unfold Tk; rw [h, hm]

end Go.Proofs.YtbjmfhcgkpjcfaaGreatDoor
namespace Go.Proofs.YtbjmfhcgkpjcfaaGreatDoor
open Go.RowKit

set_option maxHeartbeats 1000000 in
theorem risPt_any (r : Int) (w : World) : Calls Tryz.prog 55 #[.int .i64 r] w fun e w' => e = .returned (.bool (isPt r)) ∧ w = w' := by
  by_cases h0 : 0 ≤ r
  · by_cases h1 : r ≤ 1114111
    · by_cases h2 : r < 55296
      · go_enter Tryz.func55, Tryz.ntmps55
        go_wp2
        go_ret
        exact ⟨ret_b (((isPt_iff r).2 (by omega)).symm), rfl⟩
      · by_cases h3 : 57343 < r
        · go_enter Tryz.func55, Tryz.ntmps55
          go_wp2
          go_ret
          exact ⟨ret_b (((isPt_iff r).2 (by omega)).symm), rfl⟩
        · go_enter Tryz.func55, Tryz.ntmps55
          go_wp2
          go_ret
          exact ⟨ret_b (((isPt_no r).2 (by omega)).symm), rfl⟩
    · go_enter Tryz.func55, Tryz.ntmps55
      go_wp2
      go_ret
      exact ⟨ret_b (((isPt_no r).2 (by omega)).symm), rfl⟩
  · go_enter Tryz.func55, Tryz.ntmps55
    go_wp2
    go_ret
    exact ⟨ret_b (((isPt_no r).2 (by omega)).symm), rfl⟩

set_option maxHeartbeats 2000000 in
theorem rPut_any (r : Int) (w : World) : Calls Tryz.prog 43 #[.int .i64 r] w (Out (putL r) w) := by
  cases h : isPt r with
  | false =>
    rw [putL_no h]
    go_enter Tryz.func43, Tryz.ntmps43
    go_wp2_with fail
    refine (risPt_any r _).mono ?_
    rintro e w1 ⟨rfl, rfl⟩
    go_wp2_with fail
    go_ret
    exact ⟨none, 0, rfl, Rd.nil _ _, Below.refl _ _⟩
  | true =>
    obtain ⟨h0, h1, h2⟩ := (isPt_iff r).1 h
    clear h2
    by_cases a1 : r < 128
    · have e := putL_1 h a1
      have E := Lib.hid (show bs (putL r) = [.int .u8 r] by rw [e, bs1 r (by omega) (by omega)])
      have L := Lib.hid (show (putL r).length = 1 by rw [e]; rfl)
      clear e
      go_enter Tryz.func43, Tryz.ntmps43
      go_wp2_with fail
      refine (risPt_any r _).mono ?_
      rintro e w1 ⟨rfl, rfl⟩
      go_wp2_with fail
      go_ret
      exact out_lit w 5 E.out L.out
    · by_cases a2 : r < 2048
      · have e := putL_2 h (by omega) a2
        have E := Lib.hid (show bs (putL r) = [.int .u8 (192 + r / 64), .int .u8 (128 + r % 64)] by rw [e, bs_cons _ (by omega) (by omega), bs1 _ (by omega) (by omega)])
        have L := Lib.hid (show (putL r).length = 2 by rw [e]; rfl)
        clear e
        go_enter Tryz.func43, Tryz.ntmps43
        go_wp2_with fail
        refine (risPt_any r _).mono ?_
        rintro e w1 ⟨rfl, rfl⟩
        go_wp2_with fail
        go_ret
        exact out_lit w 5 E.out L.out
      · by_cases a3 : r < 65536
        · have e := putL_3 h (by omega) a3
          have E := Lib.hid (show bs (putL r) = [.int .u8 (224 + r / 4096), .int .u8 (128 + r / 64 % 64), .int .u8 (128 + r % 64)] by rw [e, bs_cons _ (by omega) (by omega), bs_cons _ (by omega) (by omega), bs1 _ (by omega) (by omega)])
          have L := Lib.hid (show (putL r).length = 3 by rw [e]; rfl)
          clear e
          go_enter Tryz.func43, Tryz.ntmps43
          go_wp2_with fail
          refine (risPt_any r _).mono ?_
          rintro e w1 ⟨rfl, rfl⟩
          go_wp2_with fail
          go_ret
          exact out_lit w 5 E.out L.out
        · have e := putL_4 h (by omega)
          have E := Lib.hid (show bs (putL r) = [.int .u8 (240 + r / 262144), .int .u8 (128 + r / 4096 % 64), .int .u8 (128 + r / 64 % 64), .int .u8 (128 + r % 64)] by rw [e, bs_cons _ (by omega) (by omega), bs_cons _ (by omega) (by omega), bs_cons _ (by omega) (by omega), bs1 _ (by omega) (by omega)])
          have L := Lib.hid (show (putL r).length = 4 by rw [e]; rfl)
          clear e
          go_enter Tryz.func43, Tryz.ntmps43
          go_wp2_with fail
          refine (risPt_any r _).mono ?_
          rintro e w1 ⟨rfl, rfl⟩
          go_wp2_with fail
          go_ret
          exact out_lit w 5 E.out L.out
end Go.Proofs.YtbjmfhcgkpjcfaaGreatDoor
namespace Go.Proofs.YtbjmfhcgkpjcfaaGreatDoor
open Go.RowKit

set_option maxHeartbeats 1000000 in
theorem isPt_any (r : Int) (w : World) : Calls Tryz.prog 60 #[.int .i64 r] w fun e w' => e = .returned (.bool (isPt r)) ∧ w = w' := by
  by_cases h0 : 0 ≤ r
  · by_cases h1 : r ≤ 1114111
    · by_cases h2 : r < 55296
      · go_enter Tryz.func60, Tryz.ntmps60
        go_wp2
        go_ret
        exact ⟨ret_b (((isPt_iff r).2 (by omega)).symm), rfl⟩
      · by_cases h3 : 57343 < r
        · go_enter Tryz.func60, Tryz.ntmps60
          go_wp2
          go_ret
          exact ⟨ret_b (((isPt_iff r).2 (by omega)).symm), rfl⟩
        · go_enter Tryz.func60, Tryz.ntmps60
          go_wp2
          go_ret
          exact ⟨ret_b (((isPt_no r).2 (by omega)).symm), rfl⟩
    · go_enter Tryz.func60, Tryz.ntmps60
      go_wp2
      go_ret
      exact ⟨ret_b (((isPt_no r).2 (by omega)).symm), rfl⟩
  · go_enter Tryz.func60, Tryz.ntmps60
    go_wp2
    go_ret
    exact ⟨ret_b (((isPt_no r).2 (by omega)).symm), rfl⟩

/-- The array of sizes, as it was laid. -/
def sizC : Array Value := #[.int .i64 1, .int .i64 0, .int .i64 0, .int .i64 2, .int .i64 128, .int .i64 192, .int .i64 3, .int .i64 2048, .int .i64 224, .int .i64 4, .int .i64 65536, .int .i64 240]
def Siz (w : World) : Prop := ∃ t fz, w.heap[1]? = some (.cells sizC t fz)
theorem Siz.below {w w' : World} {B : Nat} (h : Siz w) (hb : Below B w w') (hB : w.heap.size ≤ B) : Siz w' := by
  obtain ⟨t, fz, hh⟩ := h
  have := (Array.getElem?_eq_some_iff.1 hh).1
  exact ⟨t, fz, (hb.block _ (by omega)).trans hh⟩
theorem Siz.below' {w w' : World} (h : Siz w) (hb : Below w.heap.size w w') : Siz w' := h.below hb (Nat.le_refl _)

/-- A size, by its place. -/
def szA : Nat → Array Value
  | 0 => #[.int .i64 1, .int .i64 0, .int .i64 0]
  | 1 => #[.int .i64 2, .int .i64 128, .int .i64 192]
  | 2 => #[.int .i64 3, .int .i64 2048, .int .i64 224]
  | _ => #[.int .i64 4, .int .i64 65536, .int .i64 240]
/-- The place of a code point's size, of those up to place k; and of a first byte's. -/
def ixP (r : Int) (k : Nat) : Nat := if 3 < k ∧ 65536 ≤ r then 3 else if 2 < k ∧ 2048 ≤ r then 2 else if 1 < k ∧ 128 ≤ r then 1 else 0
def ixF (r : Int) (k : Nat) : Nat := if 3 < k ∧ 240 ≤ r then 3 else if 2 < k ∧ 224 ≤ r then 2 else if 1 < k ∧ 192 ≤ r then 1 else 0
end Go.Proofs.YtbjmfhcgkpjcfaaGreatDoor
