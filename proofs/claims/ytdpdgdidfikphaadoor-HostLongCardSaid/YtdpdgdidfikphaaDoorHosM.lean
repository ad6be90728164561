/-
  Layer 5's mathematics: the parser of what a host sends, byte by byte, as the document has it; what it tells, however bytes are cut; what may be is told as it is.
-/
import Derived.Test.YtdpdgdidfikphaaDoorWirG
namespace Go.Proofs.YtdpdgdidfikphaaDoor

/-- The parameters in bytes of figures, colons and semicolons, a part M at most. -/
def numsC (M n : Int) (one : List Int) : List UInt8 → List (List Int)
  | [] => [one ++ [n]]
  | c :: l => if isD c = true then numsC M (rd M n c) one l else if c = 59 then (one ++ [n]) :: numsC M (-1) [] l else numsC M (-1) (one ++ [n]) l
def numsH (l : List UInt8) : List (List Int) := if l = [] then [] else numsC 65535 (-1) [] l

/-- A parser: how it is (0 idle, 1 behind an escape byte, 2 in a head, 3 in data, 4 in a string, 5 behind an escape byte in these), what was begun, its bytes of parameters, whether nothing of the head has come, whether it is spoilt. -/
structure HP where
  how : Nat
  s : Sq
  text : List UInt8
  first : Bool
  bad : Bool
def sq0 : Sq := ⟨0, 0, [], [], 0, []⟩
def hp0 : HP := ⟨0, sq0, [], false, false⟩
def toldH (p : HP) : List Sq := if p.bad = true then [] else if mayS { p.s with params := numsH p.text } = 0 then [{ p.s with params := numsH p.text }] else []
def escH (p : HP) (c : UInt8) : HP × List Sq :=
  if c.toNat < 32 ∨ c.toNat = 127 then ({ p with how := 1 }, [])
  else if 128 ≤ c.toNat then (hp0, [])
  else if c.toNat < 48 then ({ p with how := 1, bad := p.bad || decide (1 < p.s.inter.length), s := { p.s with inter := p.s.inter ++ [c] } }, [])
  else if p.s.inter = [] ∧ c = 91 then (⟨2, ⟨1, 0, [], [], 0, []⟩, [], true, false⟩, [])
  else if p.s.inter = [] ∧ c = 80 then (⟨2, ⟨3, 0, [], [], 0, []⟩, [], true, false⟩, [])
  else if p.s.inter = [] ∧ c = 93 then (⟨3, ⟨4, 0, [], [], 0, []⟩, [], false, false⟩, [])
  else if p.s.inter = [] ∧ (c = 88 ∨ c = 94 ∨ c = 95) then (⟨4, sq0, [], false, false⟩, [])
  else (hp0, toldH { p with s := { p.s with kind := 5, final := c } })
def headH (p : HP) (c : UInt8) : HP × List Sq :=
  if c.toNat < 32 ∨ c.toNat = 127 then (p, [])
  else if 128 ≤ c.toNat then (hp0, [])
  else if c.toNat < 48 then ({ p with first := false, bad := p.bad || decide (1 < p.s.inter.length), s := { p.s with inter := p.s.inter ++ [c] } }, [])
  else if c.toNat < 60 then ({ p with first := false, bad := p.bad || decide (p.s.inter ≠ []), text := p.text ++ [c] }, [])
  else if c.toNat < 64 then ({ p with first := false, bad := p.bad || !p.first, s := { p.s with priv := c } }, [])
  else if p.s.kind = 1 then (hp0, toldH { p with s := { p.s with final := c } })
  else ({ p with how := 3, first := false, s := { p.s with final := c } }, [])
def dataH (p : HP) (c : UInt8) : HP × List Sq :=
  if c.toNat = 7 ∧ p.s.kind = 4 then (hp0, toldH p)
  else if c.toNat < 32 ∨ c.toNat = 127 then (p, [])
  else if p.bad = true ∨ 128 ≤ c.toNat ∨ 4096 ≤ p.s.data.length then ({ p with bad := true }, [])
  else ({ p with s := { p.s with data := p.s.data ++ [c] } }, [])
/-- A byte. -/
def oneH (p : HP) (c : UInt8) : HP × List Sq :=
  if c.toNat = 24 ∨ c.toNat = 26 then (hp0, [])
  else if c.toNat = 27 then (if p.how = 3 ∨ p.how = 4 then ({ p with how := 5, bad := p.bad || decide (p.how = 4) }, []) else (⟨1, sq0, [], false, false⟩, []))
  else if p.how = 1 then escH p c
  else if p.how = 2 then headH p c
  else if p.how = 3 then dataH p c
  else if p.how = 5 then (if c.toNat = 92 then (hp0, toldH p) else escH hp0 c)
  else (p, [])
def feedH (p : HP) : List UInt8 → HP × List Sq
  | [] => (p, [])
  | c :: l => ((feedH (oneH p c).1 l).1, (oneH p c).2 ++ (feedH (oneH p c).1 l).2)
/-- However bytes are cut. -/
theorem feed_append (p : HP) (a b : List UInt8) : feedH p (a ++ b) = ((feedH (feedH p a).1 b).1, (feedH p a).2 ++ (feedH (feedH p a).1 b).2) := by
  induction a generalizing p with
  | nil => rfl
  | cons c a ih =>
    rw [List.cons_append, feedH, ih, feedH, List.append_assoc]
theorem feed_then {p q r : HP} {a b : List UInt8} {s t : List Sq} (h : feedH p a = (q, s)) (h' : feedH q b = (r, t)) : feedH p (a ++ b) = (r, s ++ t) := by
  rw [feed_append, h, h']
theorem feed_one {p q r : HP} {c : UInt8} {b : List UInt8} {s t : List Sq} (h : oneH p c = (q, s)) (h' : feedH q b = (r, t)) : feedH p (c :: b) = (r, s ++ t) := by
  rw [feedH, h, h']
theorem feed_snoc (p : HP) (a : List UInt8) (c : UInt8) : feedH p (a ++ [c]) = ((oneH (feedH p a).1 c).1, (feedH p a).2 ++ (oneH (feedH p a).1 c).2) := by
  rw [feed_append]
  simp [feedH]
/-- What was begun is dropped. -/
theorem one_drop (p : HP) (c : UInt8) (h : c.toNat = 24 ∨ c.toNat = 26) : oneH p c = (hp0, []) := by
  unfold oneH
  rw [if_pos h]
/-- Idle: nothing. -/
theorem one_idle (c : UInt8) (h : c.toNat ≠ 27) : oneH hp0 c = (hp0, []) := by
  unfold oneH
  split
  · rfl
  · rfl
theorem one_esc {p : HP} {c : UInt8} (hp : p.how = 1) (h : c.toNat ≠ 24 ∧ c.toNat ≠ 26 ∧ c.toNat ≠ 27) : oneH p c = escH p c := by
  unfold oneH
  rw [if_neg (by omega), if_neg (by omega), if_pos hp]
theorem one_head {p : HP} {c : UInt8} (hp : p.how = 2) (h : c.toNat ≠ 24 ∧ c.toNat ≠ 26 ∧ c.toNat ≠ 27) : oneH p c = headH p c := by
  unfold oneH
  rw [if_neg (by omega), if_neg (by omega), if_neg (by omega), if_pos hp]
theorem one_data {p : HP} {c : UInt8} (hp : p.how = 3) (h : c.toNat ≠ 24 ∧ c.toNat ≠ 26 ∧ c.toNat ≠ 27) : oneH p c = dataH p c := by
  unfold oneH
  rw [if_neg (by omega), if_neg (by omega), if_neg (by omega), if_neg (by omega), if_pos hp]
theorem feed_idle : ∀ (l : List UInt8), (∀ c ∈ l, c.toNat ≠ 27) → feedH hp0 l = (hp0, [])
  | [], _ => rfl
  | c :: l, h => feed_one (one_idle c (h c (List.mem_cons_self ..))) (feed_idle l fun d hd => h d (List.mem_cons_of_mem _ hd))

/-- What follows figures isn't one. -/
theorem cgo_figs (M : Int) (l m : List UInt8) (n : Int) (one : List Int) (h : ∀ c ∈ l, isD c = true) : numsC M n one (l ++ m) = numsC M (l.foldl (rd M) n) one m := by
  induction l generalizing n with
  | nil => rfl
  | cons c l ih =>
    have hc := h c (List.mem_cons_self ..)
    rw [List.cons_append]
    show (if isD c = true then numsC M (rd M n c) one (l ++ m) else _) = _
    rw [if_pos hc, ih _ (fun d hd => h d (List.mem_cons_of_mem _ hd))]
    rfl
theorem cgo_text (M n : Int) (hM : 9 ≤ M) (h0 : -1 ≤ n) (h1 : n ≤ M) (m : List UInt8) (one : List Int) : numsC M (-1) one (textL n ++ m) = numsC M n one m := by
  rw [cgo_figs _ _ _ _ _ (text_all_isD n)]
  by_cases h : n < 0
  · rw [textL_neg n h, show n = -1 by omega]; rfl
  · rw [text_read _ _ hM (by omega), show min n M = n by omega]
def partIn (M : Int) (p : List Int) : Prop := ∀ n ∈ p, -1 ≤ n ∧ n ≤ M
theorem cgo_part (M : Int) (hM : 9 ≤ M) : ∀ (p : List Int) (_ : p ≠ []) (_ : partIn M p) (one : List Int), numsC M (-1) one (partL p) = [one ++ p] ∧ ∀ m, numsC M (-1) one (partL p ++ (59 :: m)) = (one ++ p) :: numsC M (-1) [] m := by
  intro p
  induction p with
  | nil => intro h; exact absurd rfl h
  | cons n p ih =>
    intro _ ho one
    obtain ⟨h0, h1⟩ := ho n (List.mem_cons_self ..)
    cases p with
    | nil =>
      refine ⟨?_, fun m => ?_⟩
      · have := cgo_text M n hM h0 h1 [] one
        rw [List.append_nil] at this
        exact this
      · have := cgo_text M n hM h0 h1 (59 :: m) one
        exact this
    | cons k p =>
      have ih' := ih (by simp) (fun x hx => ho x (List.mem_cons_of_mem _ hx)) (one ++ [n])
      have e : partL (n :: k :: p) = textL n ++ (58 :: partL (k :: p)) := rfl
      refine ⟨?_, fun m => ?_⟩
      · rw [e, cgo_text M n hM h0 h1]
        show numsC M (-1) (one ++ [n]) (partL (k :: p)) = _
        rw [ih'.1, List.append_assoc]; rfl
      · rw [e, List.append_assoc, cgo_text M n hM h0 h1]
        show numsC M (-1) (one ++ [n]) (partL (k :: p) ++ (59 :: m)) = _
        rw [ih'.2 m, List.append_assoc]; rfl
theorem cgo_par (M : Int) (hM : 9 ≤ M) : ∀ (l : List (List Int)), l ≠ [] → (∀ p ∈ l, p ≠ [] ∧ partIn M p) → numsC M (-1) [] (parL l) = l := by
  intro l
  induction l with
  | nil => intro h; exact absurd rfl h
  | cons p l ih =>
    intro _ ho
    obtain ⟨h0, h1⟩ := ho p (List.mem_cons_self ..)
    cases l with
    | nil => exact (cgo_part M hM p h0 h1 []).1
    | cons q l =>
      have ih' := ih (by simp) (fun x hx => ho x (List.mem_cons_of_mem _ hx))
      have e : parL (p :: q :: l) = partL p ++ (59 :: parL (q :: l)) := rfl
      rw [e, (cgo_part M hM p h0 h1 []).2, ih']; rfl
/-- No part is greater than is read. -/
def smallP (l : List (List Int)) : Prop := ∀ p ∈ l, ∀ n ∈ p, n ≤ 65535
theorem nums_small {l : List (List Int)} (h : parOk l = true) (hs : smallP l) : numsH (parL l) = l := by
  obtain ⟨h1, h2⟩ := parOk_all h
  unfold numsH
  by_cases he : l = []
  · subst he; rfl
  · rw [if_neg (fun e => (par_nil l h1 e).elim he h2)]
    exact cgo_par 65535 (by omega) l he fun p hp => ⟨(h1 p hp).1, fun n hn => ⟨((h1 p hp).2 n hn).1, hs p hp n hn⟩⟩

/-- In a head. -/
theorem head_par (k : Int) (pv : UInt8) : ∀ (t txt : List UInt8) (first : Bool), (∀ c ∈ t, btw 48 59 c = true) →
    feedH ⟨2, ⟨k, pv, [], [], 0, []⟩, txt, first, false⟩ t = (⟨2, ⟨k, pv, [], [], 0, []⟩, txt ++ t, first && decide (t = []), false⟩, [])
  | [], txt, first, _ => by simp [feedH]
  | c :: t, txt, first, h => by
    have hc := (btw_iff _ _ _).1 (h c (List.mem_cons_self ..))
    have e : oneH ⟨2, ⟨k, pv, [], [], 0, []⟩, txt, first, false⟩ c = (⟨2, ⟨k, pv, [], [], 0, []⟩, txt ++ [c], false, false⟩, []) := by
      rw [one_head rfl (by omega)]
      unfold headH
      dsimp only
      rw [if_neg (by omega), if_neg (by omega), if_neg (by omega), if_pos (by omega)]
      simp
    have := feed_one e (head_par k pv t (txt ++ [c]) false fun d hd => h d (List.mem_cons_of_mem _ hd))
    simpa using this
theorem head_inter (k : Int) (pv : UInt8) (txt : List UInt8) : ∀ (it i0 : List UInt8) (first : Bool), i0.length + it.length ≤ 2 → (∀ c ∈ it, btw 32 47 c = true) →
    ∃ f', feedH ⟨2, ⟨k, pv, [], i0, 0, []⟩, txt, first, false⟩ it = (⟨2, ⟨k, pv, [], i0 ++ it, 0, []⟩, txt, f', false⟩, [])
  | [], i0, first, _, _ => ⟨first, by simp [feedH]⟩
  | c :: it, i0, first, hl, h => by
    have hc := (btw_iff _ _ _).1 (h c (List.mem_cons_self ..))
    rw [List.length_cons] at hl
    have e : oneH ⟨2, ⟨k, pv, [], i0, 0, []⟩, txt, first, false⟩ c = (⟨2, ⟨k, pv, [], i0 ++ [c], 0, []⟩, txt, false, false⟩, []) := by
      rw [one_head rfl (by omega)]
      unfold headH
      dsimp only
      rw [if_neg (by omega), if_neg (by omega), if_pos (by omega)]
      have : decide (1 < i0.length) = false := by simp; omega
      simp [this]
    obtain ⟨f', e'⟩ := head_inter k pv txt it (i0 ++ [c]) false (by rw [List.length_append, List.length_singleton]; omega) fun d hd => h d (List.mem_cons_of_mem _ hd)
    refine ⟨f', ?_⟩
    have := feed_one e e'
    simpa using this
/-- A body. -/
theorem head_body (k : Int) (pv : UInt8) (ps : List (List Int)) (it : List UInt8) (hv : privOk pv = true) (hl : it.length ≤ 2) (hi : ∀ c ∈ it, btw 32 47 c = true) :
    ∃ f', feedH ⟨2, ⟨k, 0, [], [], 0, []⟩, [], true, false⟩ (privL pv ++ parL ps ++ it) = (⟨2, ⟨k, pv, [], it, 0, []⟩, parL ps, f', false⟩, []) := by
  have h1 : ∃ f1, feedH ⟨2, ⟨k, 0, [], [], 0, []⟩, [], true, false⟩ (privL pv) = (⟨2, ⟨k, pv, [], [], 0, []⟩, [], f1, false⟩, []) := by
    unfold privL
    split
    · rename_i h0
      subst h0
      exact ⟨true, rfl⟩
    · rename_i h0
      have hb : btw 60 63 pv = true := by
        unfold privOk at hv
        rw [decide_eq_false h0, Bool.false_or] at hv
        exact hv
      have hc := (btw_iff _ _ _).1 hb
      refine ⟨false, ?_⟩
      have e : oneH ⟨2, ⟨k, 0, [], [], 0, []⟩, [], true, false⟩ pv = (⟨2, ⟨k, pv, [], [], 0, []⟩, [], false, false⟩, []) := by
        rw [one_head rfl (by omega)]
        unfold headH
        dsimp only
        rw [if_neg (by omega), if_neg (by omega), if_neg (by omega), if_neg (by omega), if_pos (by omega)]
        simp
      have := feed_one e (b := []) (r := _) (t := []) rfl
      simpa using this
  obtain ⟨f1, e1⟩ := h1
  have e2 := head_par k pv (parL ps) [] f1 (par_btw ps)
  obtain ⟨f', e3⟩ := head_inter k pv (parL ps) it [] (f1 && decide (parL ps = [])) (by simpa using hl) hi
  refine ⟨f', ?_⟩
  have := feed_then (feed_then e1 e2) e3
  simpa using this
/-- In data. -/
theorem data_all (k : Int) (pv : UInt8) (it : List UInt8) (f : UInt8) (txt : List UInt8) (first : Bool) : ∀ (d d0 : List UInt8), d0.length + d.length ≤ 4096 → (∀ c ∈ d, btw 32 126 c = true) →
    feedH ⟨3, ⟨k, pv, [], it, f, d0⟩, txt, first, false⟩ d = (⟨3, ⟨k, pv, [], it, f, d0 ++ d⟩, txt, first, false⟩, [])
  | [], d0, _, _ => by simp [feedH]
  | c :: d, d0, hl, h => by
    have hc := (btw_iff _ _ _).1 (h c (List.mem_cons_self ..))
    rw [List.length_cons] at hl
    have e : oneH ⟨3, ⟨k, pv, [], it, f, d0⟩, txt, first, false⟩ c = (⟨3, ⟨k, pv, [], it, f, d0 ++ [c]⟩, txt, first, false⟩, []) := by
      rw [one_data rfl (by omega)]
      unfold dataH
      dsimp only
      rw [if_neg (by omega), if_neg (by omega), if_neg (by simp; omega)]
    have := feed_one e (data_all k pv it f txt first d (d0 ++ [c]) (by rw [List.length_append, List.length_singleton]; omega) fun x hx => h x (List.mem_cons_of_mem _ hx))
    simpa using this
theorem data_bad (s : Sq) (txt : List UInt8) (first : Bool) : ∀ (d : List UInt8), (∀ c ∈ d, btw 32 126 c = true) → feedH ⟨3, s, txt, first, true⟩ d = (⟨3, s, txt, first, true⟩, [])
  | [], _ => rfl
  | c :: d, h => by
    have hc := (btw_iff _ _ _).1 (h c (List.mem_cons_self ..))
    have e : oneH ⟨3, s, txt, first, true⟩ c = (⟨3, s, txt, first, true⟩, []) := by
      rw [one_data rfl (by omega)]
      unfold dataH
      dsimp only
      rw [if_neg (by omega), if_neg (by omega), if_pos (.inl rfl)]
    exact feed_one e (data_bad s txt first d fun x hx => h x (List.mem_cons_of_mem _ hx))
/-- Too much of it. -/
theorem data_long (k : Int) (pv : UInt8) (it : List UInt8) (f : UInt8) (txt : List UInt8) (first : Bool) (d : List UInt8) (hl : 4096 < d.length) (h : ∀ c ∈ d, btw 32 126 c = true) :
    ∃ d', feedH ⟨3, ⟨k, pv, [], it, f, []⟩, txt, first, false⟩ d = (⟨3, ⟨k, pv, [], it, f, d'⟩, txt, first, true⟩, []) := by
  obtain ⟨c, m, hm⟩ : ∃ c m, d.drop 4096 = c :: m := by
    cases hd : d.drop 4096 with
    | nil => have := congrArg List.length hd; rw [List.length_drop] at this; simp at this; omega
    | cons c m => exact ⟨c, m, rfl⟩
  have ht : (d.take 4096).length = 4096 := by rw [List.length_take]; omega
  have hc := (btw_iff _ _ _).1 (h c (by rw [← List.take_append_drop 4096 d, hm]; simp))
  refine ⟨d.take 4096, ?_⟩
  have e1 := data_all k pv it f txt first (d.take 4096) [] (by rw [ht]; simp) (fun x hx => h x (List.mem_of_mem_take hx))
  have e2 : oneH ⟨3, ⟨k, pv, [], it, f, [] ++ d.take 4096⟩, txt, first, false⟩ c = (⟨3, ⟨k, pv, [], it, f, d.take 4096⟩, txt, first, true⟩, []) := by
    rw [one_data rfl (by omega), List.nil_append]
    unfold dataH
    dsimp only
    rw [if_neg (by omega), if_neg (by omega), if_pos (.inr (.inr (by rw [ht]; exact Nat.le_refl _)))]
  have e3 := data_bad ⟨k, pv, [], it, f, d.take 4096⟩ txt first m (fun x hx => h x (by rw [← List.take_append_drop 4096 d, hm]; simp [hx]))
  have := feed_then e1 (feed_one e2 e3)
  rw [← hm, List.take_append_drop] at this
  simpa using this
/-- The end of data. -/
theorem data_end (s : Sq) (txt : List UInt8) (first bad : Bool) : feedH ⟨3, s, txt, first, bad⟩ [27, 92] = (hp0, toldH ⟨5, s, txt, first, bad⟩) := by
  simp [feedH, oneH, hp0]
theorem told_yes {p : HP} {s : Sq} (hb : p.bad = false) (hs : { p.s with params := numsH p.text } = s) (h : mayS s = 0) : toldH p = [s] := by
  unfold toldH
  rw [hb, hs, if_neg (by decide), if_pos h]
theorem told_bad {p : HP} (hb : p.bad = true) : toldH p = [] := by
  unfold toldH
  rw [if_pos hb]
end Go.Proofs.YtdpdgdidfikphaaDoor
