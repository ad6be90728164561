/-
  Layer 13's mathematics: a key's event by progressive flags.
-/
import Derived.Test.YtdfojkbgdoiglaaDoorG12
import Derived.Test.YtdfojkbgdoiglaaDoorG13
namespace Go.Proofs.YtdfojkbgdoiglaaDoor
def flagK (f one : Int) : Bool := flg f / one % 2 == 1
def frmK (c : Int) : Int × Int :=
 if (lookE c).kind = 0 then (0, 0) else if c = 57366 then (13, 126) else if (lookE c).kind = 3 ∧ (lookE c).keys = false then (1, (lookE c).fin) else if (lookE c).kind = 4 ∧ (lookE c).keys = false then ((lookE c).num, 126) else (c, 117)
def keyedK (c : Int) : Bool := c == 9 || c == 13 || c == 127
def astextK (k : Ky) : Bool := if (lookE k.code).kind = 1 then decide (k.mods - k.mods / 64 * 64 ≤ 1) else keyedK k.code && (k.mods - k.mods / 64 * 64 == 0)
def sentK (f : Int) (k : Ky) : Bool :=
 if mayK k = false then false else if k.typ = 3 ∧ (flagK f 2 = false ∨ flagK f 8 = false ∧ ((lookE k.code).kind = 1 ∨ keyedK k.code = true)) then false else decide ((lookE k.code).kind ≠ 7) || flagK f 8
def altK (shift base code : Int) (s1 : Bool) : List Int :=
 (if shift ≠ 0 ∧ s1 = true then [shift] else []) ++ ((if (base ≠ 0 ∧ base ≠ code) ∧ ¬ (shift ≠ 0 ∧ s1 = true) then [-1] else []) ++ (if base ≠ 0 ∧ base ≠ code then [base] else []))
def firstK (f : Int) (k : Ky) : List Int := (frmK k.code).1 :: (if flagK f 4 = true ∧ (frmK k.code).2 = 117 then altK k.shift k.base k.code (hasN k.mods 1) else [])
def secondK (f : Int) (k : Ky) : List Int := if flagK f 2 = true ∧ k.typ ≠ 1 then [1 + k.mods, k.typ] else if k.mods ≠ 0 then [1 + k.mods] else [-1]
def toldK (f : Int) (k : Ky) : Prop := flagK f 16 = true ∧ k.typ ≠ 3 ∧ k.text.data.toList ≠ []
instance (f : Int) (k : Ky) : Decidable (toldK f k) := by unfold toldK; infer_instance
def ptsK (k : Ky) : List Int := (allL k.text.data.toList).getD []
def paramsK (f : Int) (k : Ky) : List (List Int) :=
 if toldK f k then [firstK f k, secondK f k, ptsK k] else if secondK f k ≠ [-1] then [firstK f k, secondK f k] else if firstK f k ≠ [1] then [firstK f k] else []
def sqK (f : Int) (k : Ky) : Sq := ⟨1, 0, paramsK f k, [], byt (frmK k.code).2, []⟩
def putK (f : Int) (k : Ky) : List UInt8 := if mayS (sqK f k) = 0 then putS (sqK f k) else []
def plainK (k : Ky) : List UInt8 := if keyedK k.code = true then [byt k.code] else if k.text.data.toList ≠ [] then k.text.data.toList else putL (shownK k)
def kitL (f : Int) (k : Ky) : List UInt8 := if sentK f k = false then [] else if flagK f 8 = false ∧ k.typ ≠ 3 ∧ astextK k = true then plainK k else putK f k
theorem code_rng {c : Int} (h : (lookE c).kind ≠ 0) : 0 ≤ c ∧ c ≤ 1114111 := by
 by_cases ho : c < 57344 ∨ 57455 ≤ c
 ·rw [look_out ho] at h
  simp only at h
  unfold restN at h
  split at h
  ·omega
  ·split at h
   ·omega
   ·split at h
    ·omega
    ·split at h
     ·exact absurd rfl h
     ·rename_i h4
      have h5 : isPtK c = true := by
       cases e : isPtK c with
       | true => rfl
       | false => exact absurd (.inl e) h4
      have := of_decide_eq_true h5
      omega
 ·omega
theorem frm_main : ∀ k : Fin 111, (lookE (57344 + (k.1 : Int))).kind ≠ 0 → (frmK (57344 + (k.1 : Int)) = (57344 + (k.1 : Int), 117)) ∨ ((frmK (57344 + (k.1 : Int))).2 ≠ 117 ∧ 1 ≤ (frmK (57344 + (k.1 : Int))).1 ∧ (frmK (57344 + (k.1 : Int))).1 ≤ 100 ∧ 65 ≤ (frmK (57344 + (k.1 : Int))).2 ∧ (frmK (57344 + (k.1 : Int))).2 ≤ 126) := by decide +kernel
theorem frm_cases {c : Int} (h : (lookE c).kind ≠ 0) : frmK c = (c, 117) ∨ ((57344 ≤ c ∧ c < 57455) ∧ (frmK c).2 ≠ 117 ∧ 1 ≤ (frmK c).1 ∧ (frmK c).1 ≤ 100 ∧ 65 ≤ (frmK c).2 ∧ (frmK c).2 ≤ 126) := by
 by_cases ho : c < 57344 ∨ 57455 ≤ c
 ·left
  have hl := look_out ho
  have hr := rest_rng c
  unfold frmK
  rw [if_neg h, if_neg (by omega)]
  rw [hl]
  rw [if_neg (fun e => by have := e.1; simp only at this; omega), if_neg (fun e => by have := e.1; simp only at this; omega)]
 ·obtain ⟨k, rfl⟩ : ∃ k : Fin 111, c = 57344 + k.1 := ⟨⟨(c - 57344).toNat, by omega⟩, by simp; omega⟩
  rcases frm_main k h with h1 | h1
  ·exact .inl h1
  ·exact .inr ⟨by omega, h1⟩
theorem frm_one : ∀ k j : Fin 111, (lookE (57344 + (k.1 : Int))).kind ≠ 0 → (lookE (57344 + (j.1 : Int))).kind ≠ 0 → frmK (57344 + (k.1 : Int)) = frmK (57344 + (j.1 : Int)) → k = j := by decide +kernel
theorem frm_inj {c d : Int} (hc : (lookE c).kind ≠ 0) (hd : (lookE d).kind ≠ 0) (h : frmK c = frmK d) : c = d := by
 rcases frm_cases hc with h1 | ⟨b1, h1⟩
 ·rcases frm_cases hd with h2 | ⟨b2, h2⟩
  ·rw [h1, h2] at h
   injection h
  ·rw [h1] at h
   rw [← h] at h2
   exact absurd rfl h2.1
 ·rcases frm_cases hd with h2 | ⟨b2, h2⟩
  ·rw [h2] at h
   rw [h] at h1
   exact absurd rfl h1.1
  ·obtain ⟨k, rfl⟩ : ∃ k : Fin 111, c = 57344 + k.1 := ⟨⟨(c - 57344).toNat, by omega⟩, by simp; omega⟩
   obtain ⟨j, rfl⟩ : ∃ k : Fin 111, d = 57344 + k.1 := ⟨⟨(d - 57344).toNat, by omega⟩, by simp; omega⟩
   rw [frm_one k j hc hd h]
theorem frm_u {c : Int} (h : (lookE c).kind ≠ 0) : (frmK c).2 = 117 ↔ (frmK c).1 = c := by
 rcases frm_cases h with h1 | ⟨b1, h1⟩
 ·rw [h1]
  exact ⟨fun _ => rfl, fun _ => rfl⟩
 ·exact ⟨fun e => absurd e h1.1, fun e => by omega⟩
theorem frm_rng {c : Int} (h : (lookE c).kind ≠ 0) : (0 ≤ (frmK c).1 ∧ (frmK c).1 ≤ 1114111) ∧ 65 ≤ (frmK c).2 ∧ (frmK c).2 ≤ 126 := by
 rcases frm_cases h with h1 | ⟨b1, h1⟩
 ·rw [h1]
  exact ⟨code_rng h, by show (65 : Int) ≤ 117; decide, by show (117 : Int) ≤ 126; decide⟩
 ·exact ⟨⟨by omega, by omega⟩, h1.2.2.2.1, h1.2.2.2.2⟩
def altsK (shift base code : Int) (s1 : Bool) : Int × Int := (if s1 = true then shift else 0, if base ≠ code then base else 0)
theorem alt_inj {s b s' b' c : Int} {t t' : Bool} (h0 : 0 ≤ s) (h1 : 0 ≤ b) (g0 : 0 ≤ s') (g1 : 0 ≤ b') : altK s b c t = altK s' b' c t' ↔ altsK s b c t = altsK s' b' c t' := by
 unfold altK altsK
 by_cases p : s = 0 <;> by_cases q : s' = 0 <;> by_cases x : b = 0 <;> by_cases y : b' = 0 <;> by_cases u : b = c <;> by_cases v : b' = c <;> cases t <;> cases t' <;> simp [*] <;> omega
theorem clean_pts {s : ByteArray} (h : cleanB s = true) : ∃ ks, allL s.data.toList = some ks ∧ ks.length ≤ 8 ∧ (∀ n ∈ ks, 0 ≤ n ∧ n ≤ 1114111) ∧ catL ks = s.data.toList := by
 unfold cleanB cleanL at h
 cases ho : allL s.data.toList with
 | none => rw [ho] at h; cases h
 | some ks =>
   rw [ho] at h
   have h2 : (decide (ks.length ≤ 8) && cleanP ks) = true := h
   simp only [Bool.and_eq_true, decide_eq_true_eq] at h2
   obtain ⟨g1, g2⟩ := text_all_n _ _ (Nat.le_refl _) ks ho
   refine ⟨ks, rfl, h2.1, fun n hn => ?_, g2⟩
   have := (isPt_iff n).1 (List.all_eq_true.1 g1 n hn)
   omega
theorem pts_is {k : Ky} {ks : List Int} (h : allL k.text.data.toList = some ks) : ptsK k = ks := by
 unfold ptsK
 rw [h]
 rfl
theorem alt_rng {s b c : Int} {t : Bool} (hs : 0 ≤ s ∧ s ≤ 1114111) (hb : 0 ≤ b ∧ b ≤ 1114111) : (altK s b c t).length ≤ 2 ∧ ∀ n ∈ altK s b c t, -1 ≤ n ∧ n ≤ 1114111 := by
 unfold altK
 by_cases p : s ≠ 0 ∧ t = true <;> by_cases q : b ≠ 0 ∧ b ≠ c <;> simp [p, q] <;> omega
theorem pt_rng {c : Int} (h : c = 0 ∨ textK c = true) : 0 ≤ c ∧ c ≤ 1114111 := by
 rcases h with h | h
 ·omega
 ·have := (isPt_iff c).1 (text_pt (eq_of_beq h))
  omega
theorem first_ok (f : Int) {k : Ky} (h : mayK k = true) : (firstK f k).length ≤ 8 ∧ ∀ n ∈ firstK f k, -1 ≤ n ∧ n ≤ 1114111 := by
 obtain ⟨⟨h1, _, _, _, _⟩, h2, h3, _⟩ := (may_parts k).1 h
 have hr := frm_rng h1
 obtain ⟨a1, a2⟩ := alt_rng (c := k.code) (t := hasN k.mods 1) (pt_rng h2) (pt_rng h3)
 unfold firstK
 split
 ·refine ⟨by simp; omega, fun n hn => ?_⟩
  rcases List.mem_cons.1 hn with rfl | hn
  ·omega
  ·exact a2 n hn
 ·exact ⟨by simp, fun n hn => by simp at hn; omega⟩
theorem second_ok (f : Int) {k : Ky} (h : mayK k = true) : (1 ≤ (secondK f k).length ∧ (secondK f k).length ≤ 8) ∧ ∀ n ∈ secondK f k, -1 ≤ n ∧ n ≤ 1114111 := by
 obtain ⟨⟨_, m0, m1, t1, t3⟩, _⟩ := (may_parts k).1 h
 unfold secondK
 split
 ·exact ⟨by simp, fun n hn => by simp at hn; omega⟩
 ·split
  ·exact ⟨by simp, fun n hn => by simp at hn; omega⟩
  ·exact ⟨by simp, fun n hn => by simp at hn; omega⟩
theorem par_ok {l : List (List Int)} (hl : l.length ≤ 16) (hn : l ≠ [[-1]]) (h : ∀ p ∈ l, 1 ≤ p.length ∧ p.length ≤ 8 ∧ ∀ n ∈ p, -1 ≤ n ∧ n ≤ 1114111) : parOk l = true := by
 unfold parOk
 simp only [Bool.and_eq_true, decide_eq_true_eq, List.all_eq_true]
 refine ⟨⟨hl, hn⟩, fun p hp => ?_⟩
 obtain ⟨a, b, c⟩ := h p hp
 exact ⟨⟨a, b⟩, c⟩
theorem may_kit (f : Int) {k : Ky} (h : mayK k = true) : mayS (sqK f k) = 0 := by
 obtain ⟨⟨h1, _, _, _, _⟩, _, _, hc⟩ := (may_parts k).1 h
 have hr := frm_rng h1
 obtain ⟨ks, k1, k2, k3, k4⟩ := clean_pts hc
 obtain ⟨a1, a2⟩ := first_ok f h
 obtain ⟨b1, b2⟩ := second_ok f h
 have a0 : 1 ≤ (firstK f k).length := by unfold firstK; simp
 have hp : parOk (paramsK f k) = true := by
  unfold paramsK
  split
  next ht =>
   have hp0 : 1 ≤ (ptsK k).length := by
    rw [pts_is k1]
    cases ks with
    | nil => exact absurd k4.symm ht.2.2
    | cons x l => simp
   refine par_ok (by simp) (by simp) fun p hp => ?_
   simp only [List.mem_cons, List.not_mem_nil, or_false] at hp
   rcases hp with rfl | rfl | rfl
   ·exact ⟨a0, a1, a2⟩
   ·exact ⟨b1.1, b1.2, b2⟩
   ·refine ⟨hp0, by rw [pts_is k1]; exact k2, fun n hn => ?_⟩
    rw [pts_is k1] at hn
    have := k3 n hn
    omega
  next =>
   split
   next =>
    refine par_ok (by simp) (by simp) fun p hp => ?_
    simp only [List.mem_cons, List.not_mem_nil, or_false] at hp
    rcases hp with rfl | rfl
    ·exact ⟨a0, a1, a2⟩
    ·exact ⟨b1.1, b1.2, b2⟩
   next =>
    split
    next =>
     refine par_ok (by simp) (fun e => ?_) fun p hp => ?_
     ·have e1 : firstK f k = [-1] := by simpa using e
      have e2 : (frmK k.code).1 = -1 := by
       unfold firstK at e1
       exact (List.cons.inj e1).1
      omega
     ·rw [List.mem_singleton.1 hp]
      exact ⟨a0, a1, a2⟩
    next => rfl
 have hb := byt_btw (f := (frmK k.code).2) (a := 64) (b := 126) (by omega) (by omega) (by decide)
 have ho : okS (sqK f k) = true := by
  unfold okS sqK
  simp [privOk, lastOk, bareOk, hp, hb]
 unfold mayS
 rw [if_neg (by simp [sqK]), if_pos ho]
theorem putK_is (f : Int) {k : Ky} (h : mayK k = true) : putK f k = putS (sqK f k) := if_pos (may_kit f h)
theorem kit_seq {f : Int} {k : Ky} (h : mayK k = true) (h2 : flagK f 2 = true) (h8 : flagK f 8 = true) : kitL f k = putS (sqK f k) := by
 have hs : sentK f k = true := by
  unfold sentK
  rw [if_neg (by rw [h]; decide), if_neg (by rw [h2, h8]; simp), h8]
  simp
 unfold kitL
 rw [if_neg (by rw [hs]; decide), if_neg (by rw [h8]; simp), putK_is f h]
theorem second_inj {f : Int} {k j : Ky} (hk : mayK k = true) (hj : mayK j = true) (h2 : flagK f 2 = true) : secondK f k = secondK f j ↔ k.mods = j.mods ∧ k.typ = j.typ := by
 obtain ⟨⟨_, m0, m1, t1, t3⟩, _⟩ := (may_parts k).1 hk
 obtain ⟨⟨_, n0, n1, u1, u3⟩, _⟩ := (may_parts j).1 hj
 unfold secondK
 rw [h2]
 by_cases a : k.typ = 1 <;> by_cases b : j.typ = 1 <;> by_cases c : k.mods = 0 <;> by_cases d : j.mods = 0 <;> simp [a, b, c, d] <;> omega
def alts13 (k : Ky) : Int × Int := if (frmK k.code).2 = 117 then altsK k.shift k.base k.code (hasN k.mods 1) else (0, 0)
theorem first_inj {f : Int} {k j : Ky} (hk : mayK k = true) (hj : mayK j = true) : (firstK f k = firstK f j ∧ (frmK k.code).2 = (frmK j.code).2) ↔ (k.code = j.code ∧ (flagK f 4 = true → alts13 k = alts13 j)) := by
 obtain ⟨⟨k1, _, _, _, _⟩, k2, k3, _⟩ := (may_parts k).1 hk
 obtain ⟨⟨j1, _, _, _, _⟩, j2, j3, _⟩ := (may_parts j).1 hj
 have hai : ∀ t t', altK k.shift k.base j.code t = altK j.shift j.base j.code t' ↔ altsK k.shift k.base j.code t = altsK j.shift j.base j.code t' := fun t t' => alt_inj (pt_rng k2).1 (pt_rng k3).1 (pt_rng j2).1 (pt_rng j3).1
 unfold firstK alts13
 constructor
 ·rintro ⟨h1, h2⟩
  obtain ⟨e1, e2⟩ := List.cons.inj h1
  have hc := frm_inj k1 j1 (Prod.ext e1 h2)
  refine ⟨hc, fun h4 => ?_⟩
  rw [hc] at e2 ⊢
  by_cases hu : (frmK j.code).2 = 117
  ·rw [if_pos ⟨h4, hu⟩, if_pos ⟨h4, hu⟩] at e2
   rw [if_pos hu, if_pos hu]
   exact (hai _ _).1 e2
  ·rw [if_neg hu, if_neg hu]
 ·rintro ⟨hc, h4⟩
  rw [hc] at h4 ⊢
  refine ⟨?_, rfl⟩
  congr 1
  by_cases h5 : flagK f 4 = true ∧ (frmK j.code).2 = 117
  ·rw [if_pos h5, if_pos h5]
   have := h4 h5.1
   rw [if_pos h5.2, if_pos h5.2] at this
   exact (hai _ _).2 this
  ·rw [if_neg h5, if_neg h5]
theorem par_inj {t u : Prop} [Decidable t] [Decidable u] {A B P A' B' P' : List Int} :
 (if t then [A, B, P] else if B ≠ [-1] then [A, B] else if A ≠ [1] then [A] else []) = (if u then [A', B', P'] else if B' ≠ [-1] then [A', B'] else if A' ≠ [1] then [A'] else []) ↔ (A = A' ∧ B = B') ∧ (t ↔ u) ∧ (t → P = P') := by
 by_cases ht : t
 ·by_cases hu : u
  ·rw [if_pos ht, if_pos hu]
   simp [ht, hu, and_assoc]
  ·rw [if_pos ht, if_neg hu]
   constructor
   ·intro e
    exfalso
    have := congrArg List.length e
    revert this
    repeat' split
    all_goals simp
   ·rintro ⟨_, h, _⟩
    exact absurd (h.1 ht) hu
 ·by_cases hu : u
  ·rw [if_neg ht, if_pos hu]
   constructor
   ·intro e
    exfalso
    have := congrArg List.length e
    revert this
    repeat' split
    all_goals simp
   ·rintro ⟨_, h, _⟩
    exact absurd (h.2 hu) ht
  ·rw [if_neg ht, if_neg hu]
   simp only [ht, hu, iff_self, false_imp_iff, and_true]
   by_cases b : B = [-1]
   ·by_cases b' : B' = [-1]
    ·subst b b'
     have n1 : ∀ x y : List (List Int), (if ([-1] : List Int) ≠ [-1] then x else y) = y := fun x y => if_neg (fun h => h rfl)
     rw [n1, n1]
     by_cases a : A = [1]
     ·by_cases a' : A' = [1]
      ·rw [a, a']
       simp
      ·rw [a, if_neg (fun h => h rfl), if_pos a']
       exact ⟨fun e => (by cases e), fun e => absurd e.1.symm a'⟩
     ·by_cases a' : A' = [1]
      ·rw [a', if_pos a, if_neg (fun h => h rfl)]
       exact ⟨fun e => (by cases e), fun e => absurd e.1 a⟩
      ·rw [if_pos a, if_pos a']
       simp
    ·subst b
     rw [if_neg (fun h => h rfl), if_pos b']
     constructor
     ·intro e
      exfalso
      have := congrArg List.length e
      revert this
      split
      all_goals simp
     ·rintro ⟨_, h⟩
      exact absurd h.symm b'
   ·by_cases b' : B' = [-1]
    ·subst b'
     rw [if_pos b, if_neg (fun h => h rfl)]
     constructor
     ·intro e
      exfalso
      have := congrArg List.length e
      revert this
      split
      all_goals simp
     ·rintro ⟨_, h⟩
      exact absurd h b
    ·rw [if_pos b, if_pos b']
     simp
theorem params_inj (f : Int) (k j : Ky) : paramsK f k = paramsK f j ↔ (firstK f k = firstK f j ∧ secondK f k = secondK f j) ∧ (toldK f k ↔ toldK f j) ∧ (toldK f k → ptsK k = ptsK j) := par_inj
theorem byt_inj {a b : Int} (ha : 0 ≤ a ∧ a < 256) (hb : 0 ≤ b ∧ b < 256) (h : byt a = byt b) : a = b := by
 have h1 := byt_nat a ha.1 ha.2
 have h2 := byt_nat b hb.1 hb.2
 rw [h] at h1
 omega
theorem kit_apart {f : Int} {k j : Ky} (hk : mayK k = true) (hj : mayK j = true) (h2 : flagK f 2 = true) (h8 : flagK f 8 = true) :
 kitL f k = kitL f j ↔ (k.code = j.code ∧ k.mods = j.mods ∧ k.typ = j.typ) ∧ (flagK f 4 = true → alts13 k = alts13 j) ∧ (flagK f 16 = true → k.typ ≠ 3 → k.text = j.text) := by
 rw [kit_seq hk h2 h8, kit_seq hj h2 h8]
 obtain ⟨⟨k1, _, _, _, _⟩, _, _, kc⟩ := (may_parts k).1 hk
 obtain ⟨⟨j1, _, _, _, _⟩, _, _, jc⟩ := (may_parts j).1 hj
 have rk := frm_rng k1
 have rj := frm_rng j1
 obtain ⟨ks, ka, _, _, kd⟩ := clean_pts kc
 obtain ⟨js, ja, _, _, jd⟩ := clean_pts jc
 have hfi := first_inj (f := f) hk hj
 have hse := second_inj (f := f) hk hj h2
 have htx : ∀ s t : ByteArray, s.data.toList = t.data.toList → s = t := fun s t h => by
  obtain ⟨s⟩ := s
  obtain ⟨t⟩ := t
  congr 1
  exact Array.toList_inj.1 h
 constructor
 ·intro e
  have es := putS_inj (may_kit f hk) (may_kit f hj) e
  have ep : paramsK f k = paramsK f j := congrArg Sq.params es
  have ef : byt (frmK k.code).2 = byt (frmK j.code).2 := congrArg Sq.final es
  obtain ⟨⟨p1, p2⟩, p3, p4⟩ := (params_inj f k j).1 ep
  obtain ⟨c1, c2⟩ := hfi.1 ⟨p1, byt_inj ⟨by omega, by omega⟩ ⟨by omega, by omega⟩ ef⟩
  obtain ⟨c3, c4⟩ := hse.1 p2
  refine ⟨⟨c1, c3, c4⟩, c2, fun h16 h3 => htx _ _ ?_⟩
  by_cases hn : k.text.data.toList = []
  ·rw [hn]
   by_cases hm : j.text.data.toList = []
   ·rw [hm]
   ·have : toldK f k := p3.2 ⟨h16, by rw [← c4]; exact h3, hm⟩
    exact absurd hn this.2.2
  ·have := p4 ⟨h16, h3, hn⟩
   rw [pts_is ka, pts_is ja] at this
   rw [← kd, ← jd, this]
 ·rintro ⟨⟨c1, c3, c4⟩, c2, c5⟩
  have hf := hfi.2 ⟨c1, c2⟩
  have hs := hse.2 ⟨c3, c4⟩
  have ht : toldK f k → k.text = j.text := fun t => c5 t.1 t.2.1
  have ht' : toldK f j → k.text = j.text := fun t => c5 t.1 (by rw [c4]; exact t.2.1)
  have ep : paramsK f k = paramsK f j := (params_inj f k j).2 ⟨⟨hf.1, hs⟩, ⟨fun t => ⟨t.1, by rw [← c4]; exact t.2.1, by rw [← ht t]; exact t.2.2⟩, fun t => ⟨t.1, by rw [c4]; exact t.2.1, by rw [ht' t]; exact t.2.2⟩⟩, fun t => by unfold ptsK; rw [ht t]⟩
  unfold sqK
  rw [ep, hf.2]
end Go.Proofs.YtdfojkbgdoiglaaDoor
