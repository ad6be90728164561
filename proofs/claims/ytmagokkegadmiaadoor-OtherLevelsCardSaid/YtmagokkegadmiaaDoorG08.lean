/-
  Layer 11's mathematics: a key's event in its old form. Layer 11's mathematics: old forms: what a functional key's, a text's, and a plain key's are. Layer 2: what takes and puts answer. (No function of any dump.) Words for what Put and Take tell, the document's and the program's.
-/
import Derived.Test.YtmagokkegadmiaaDoorG01
import Derived.Test.YtmagokkegadmiaaDoorG02
import Derived.Test.YtmagokkegadmiaaDoorG03
import Derived.Test.YtmagokkegadmiaaDoorG05
import Derived.Test.YtmagokkegadmiaaDoorG07
import Derived.BigQuiet
import Derived.Deep.QuietTactic
import Derived.Deep.Cut
namespace Go.Proofs.YtmagokkegadmiaaDoor

/-- A sequence of numbers, and its bytes (none, if it may not be). -/
def sqN (kind f : Int) (l : List Int) : Sq := ⟨kind, 0, l.map fun n => [n], [], byt f, []⟩
def seqB (kind f : Int) (l : List Int) : List UInt8 := if mayS (sqN kind f l) = 0 then putS (sqN kind f l) else []
def shownC (code shift : Int) (s1 : Bool) : Int := if s1 = false then code else if shift ≠ 0 then shift else if 97 ≤ code ∧ code ≤ 122 then code - 32 else code
theorem shownK_eq (k : Ky) : shownK k = shownC k.code k.shift (hasN k.mods 1) := rfl
def shownG (code shift : Int) (s1 c4 : Bool) (text : List UInt8) : List UInt8 :=
  if c4 = false ∧ text ≠ [] then text else if (c4 && (foldN (shownC code shift s1)).2) = true then [byt (foldN (shownC code shift s1)).1] else putL (shownC code shift s1)
def plainG (m : Mo) (code : Int) (s1 c4 : Bool) : List UInt8 :=
  if code = 9 then (if s1 = true then seqB 1 90 [] else [9]) else if code = 13 then (if m.line = true then [13, 10] else [13]) else if code = 27 then [27] else if (m.back != c4) = true then [8] else [127]
def aheadG (a2 : Bool) (l : List UInt8) : List UInt8 := if a2 = true then 27 :: l else l
def funcG (m : Mo) (e : En) (o : Int) : List UInt8 :=
  if e.kind = 4 then (if o = 0 then seqB 1 126 [e.num] else seqB 1 126 [e.num, 1 + o])
  else if 0 < o then seqB 1 e.fin [1, 1 + o] else if (m.cursor || decide (80 ≤ e.fin)) = true then seqB 2 e.fin [] else seqB 1 e.fin []
def legE (m : Mo) (e : En) (code shift o : Int) (s1 a2 c4 : Bool) (text : List UInt8) : List UInt8 :=
  if e.kind = 1 then aheadG a2 (shownG code shift s1 c4 text) else if e.kind = 2 then aheadG a2 (plainG m code s1 c4) else if e.kind = 3 ∨ e.kind = 4 then funcG m e o else []
def legG (m : Mo) (code shift o : Int) (s1 a2 c4 : Bool) (text : List UInt8) : List UInt8 :=
  if (lookE code).kind = 5 then
    (if m.keypad = true ∧ o = 0 then seqB 2 (lookE code).fin [] else legE m (lookE (lookE code).char) (lookE code).char 0 o s1 a2 c4 text)
  else legE m (lookE code) code shift o s1 a2 c4 text
def legL (m : Mo) (k : Ky) : List UInt8 := if mayK k = false ∨ k.typ = 3 then [] else legG m k.code k.shift (oldN k.mods) (hasN k.mods 1) (hasN k.mods 2) (hasN k.mods 4) k.text.data.toList
theorem leg_no {m : Mo} {k : Ky} (h : mayK k = false ∨ k.typ = 3) : legL m k = [] := if_pos h
theorem leg_yes {m : Mo} {k : Ky} (h : mayK k = true) (h3 : k.typ ≠ 3) : legL m k = legG m k.code k.shift (oldN k.mods) (hasN k.mods 1) (hasN k.mods 2) (hasN k.mods 4) k.text.data.toList :=
  if_neg (by rw [h]; simp [h3])

theorem has_at {n : Int} (h : 0 ≤ n) (b : Int) : hasN n b = (n / b % 2 == 1) := by unfold hasN; rw [Int.max_eq_left h]
theorem has_8 {n k : Int} (h : 0 ≤ n) (h2 : 0 ≤ k) : hasN (n % 8 + 8 * k) 1 = hasN n 1 ∧ hasN (n % 8 + 8 * k) 2 = hasN n 2 ∧ hasN (n % 8 + 8 * k) 4 = hasN n 4 ∧ oldN (n % 8 + 8 * k) = oldN n := by
  rw [has_at h, has_at h, has_at h, has_at (by omega), has_at (by omega), has_at (by omega), old_at h, old_at (by omega)]
  refine ⟨?_, ?_, ?_, by omega⟩
  · rw [show (n % 8 + 8 * k) / 1 % 2 = n / 1 % 2 by omega]
  · rw [show (n % 8 + 8 * k) / 2 % 2 = n / 2 % 2 by omega]
  · rw [show (n % 8 + 8 * k) / 4 % 2 = n / 4 % 2 by omega]
theorem may_typ {k : Ky} (h : mayK k = true) {t : Int} (h1 : 1 ≤ t) (h2 : t ≤ 3) : mayK { k with typ := t } = true := by
  obtain ⟨⟨a, b, c, _, _⟩, d⟩ := (may_parts k).1 h
  exact (may_parts _).2 ⟨⟨a, b, c, h1, h2⟩, d⟩
theorem may_mods {k : Ky} (h : mayK k = true) {n : Int} (h1 : 0 ≤ n) (h2 : n ≤ 255) : mayK { k with mods := n } = true := by
  obtain ⟨⟨a, _, _, b, c⟩, d⟩ := (may_parts k).1 h
  exact (may_parts _).2 ⟨⟨a, h1, h2, b, c⟩, d⟩
theorem may_base {k : Ky} (h : mayK k = true) : mayK { k with base := 0 } = true := by
  obtain ⟨a, b, c, d⟩ := (may_parts k).1 h
  exact (may_parts _).2 ⟨a, b, .inl rfl, d⟩
/-- A repeat is as a press. -/
theorem leg_repeat (m : Mo) {k : Ky} (h : mayK k = true) : legL m { k with typ := 2 } = legL m { k with typ := 1 } := by
  rw [leg_yes (may_typ h (t := 2) (by decide) (by decide)) (by simp), leg_yes (may_typ h (t := 1) (by decide) (by decide)) (by simp)]
/-- Other modifiers, and a base, change nothing. -/
theorem leg_other (m : Mo) {k : Ky} (h : mayK k = true) {j : Int} (h0 : 0 ≤ j) (h1 : j < 32) : legL m { k with typ := 2, mods := k.mods % 8 + 8 * j, base := 0 } = legL m { k with typ := 1 } := by
  obtain ⟨⟨_, a, b, _, _⟩, _⟩ := (may_parts k).1 h
  obtain ⟨e1, e2, e3, e4⟩ := has_8 a h0
  rw [leg_yes (may_base (may_mods (may_typ h (t := 2) (by decide) (by decide)) (n := k.mods % 8 + 8 * j) (by omega) (by omega))) (by simp), leg_yes (may_typ h (t := 1) (by decide) (by decide)) (by simp)]
  simp only [e1, e2, e3, e4]
end Go.Proofs.YtmagokkegadmiaaDoor
namespace Go.Proofs.YtmagokkegadmiaaDoor

theorem byt_btw {f : Int} {a b : Nat} (h0 : (a : Int) ≤ f) (h1 : f ≤ (b : Int)) (hb : b < 256) : btw a b (byt f) = true := by
  have h := byt_nat f (by omega) (by omega)
  rw [btw_iff]
  omega
theorem par_nums {l : List Int} (hl : l.length ≤ 16) (hn : ∀ n ∈ l, 0 ≤ n ∧ n ≤ 1114111) : parOk (l.map fun n => [n]) = true := by
  unfold parOk
  simp only [Bool.and_eq_true, decide_eq_true_eq, List.all_eq_true]
  refine ⟨⟨by rw [List.length_map]; exact hl, fun h => ?_⟩, fun p hp => ?_⟩
  · have : (-1 : Int) ∈ l := by
      match l, h with
      | [x], h =>
        simp at h
        simp [h]
    have := (hn _ this).1
    omega
  · obtain ⟨n, hn', rfl⟩ := List.mem_map.1 hp
    have := hn n hn'
    exact ⟨⟨by simp, by simp⟩, fun m hm => by rw [List.mem_singleton.1 hm]; exact ⟨by omega, by omega⟩⟩
/-- A CSI sequence of numbers may be. -/
theorem may_csi {f : Int} {l : List Int} (h0 : 64 ≤ f) (h1 : f ≤ 126) (hl : l.length ≤ 16) (hn : ∀ n ∈ l, 0 ≤ n ∧ n ≤ 1114111) : mayS (sqN 1 f l) = 0 := by
  have hp := par_nums hl hn
  have hb := byt_btw (f := f) (a := 64) (b := 126) h0 h1 (by decide)
  have ho : okS (sqN 1 f l) = true := by
    unfold okS sqN
    simp [privOk, lastOk, bareOk, hp, hb]
  unfold mayS
  rw [if_neg (by simp [sqN]), if_pos ho]
theorem may_ss3 {f : Int} (h0 : 64 ≤ f) (h1 : f ≤ 126) : mayS (sqN 2 f []) = 0 := by
  have hb := byt_btw (f := f) (a := 64) (b := 126) h0 h1 (by decide)
  have ho : okS (sqN 2 f []) = true := by
    unfold okS sqN
    simp [privOk, lastOk, bareOk, hb, parOk]
  unfold mayS
  rw [if_neg (by simp [sqN]), if_pos ho]
theorem seqB_is {k f : Int} {l : List Int} (h : mayS (sqN k f l) = 0) : seqB k f l = putS (sqN k f l) := if_pos h
theorem seqB_ne {k f : Int} {l : List Int} (h : mayS (sqN k f l) = 0) : seqB k f l ≠ [] := fun e => by
  have := putS_ne (s := sqN k f l)
  rw [← seqB_is h, e] at this
  simp at this
/-- What a functional key's entry has. -/
def FormE (e : En) : Prop := (e.kind = 4 → 1 ≤ e.num ∧ e.num ≤ 100) ∧ (e.kind = 3 → 65 ≤ e.fin ∧ e.fin ≤ 90) ∧ (e.kind = 5 → 65 ≤ e.fin ∧ e.fin ≤ 122)
instance (e : En) : Decidable (FormE e) := by unfold FormE; infer_instance
theorem form_fin : ∀ k : Fin 111, FormE (lookE (57344 + (k.1 : Int))) := by decide +kernel
theorem form_e (c : Int) : FormE (lookE c) := by
  by_cases h : c < 57344 ∨ 57455 ≤ c
  · rw [look_out h]
    have := rest_rng c
    unfold FormE
    simp only
    omega
  · obtain ⟨k, rfl⟩ : ∃ k : Fin 111, c = 57344 + k.1 := ⟨⟨(c - 57344).toNat, by omega⟩, by simp; omega⟩
    exact form_fin k
/-- A functional key's sequence. -/
def funcQ (m : Mo) (e : En) (o : Int) : Sq :=
  if e.kind = 4 then (if o = 0 then sqN 1 126 [e.num] else sqN 1 126 [e.num, 1 + o])
  else if 0 < o then sqN 1 e.fin [1, 1 + o] else if (m.cursor || decide (80 ≤ e.fin)) = true then sqN 2 e.fin [] else sqN 1 e.fin []
theorem func_put (m : Mo) {c o : Int} (hk : (lookE c).kind = 3 ∨ (lookE c).kind = 4) (h0 : 0 ≤ o) (h1 : o < 8) : mayS (funcQ m (lookE c) o) = 0 ∧ funcG m (lookE c) o = putS (funcQ m (lookE c) o) := by
  obtain ⟨f4, f3, _⟩ := form_e c
  unfold funcG funcQ
  by_cases h4 : (lookE c).kind = 4
  · have hb := f4 h4
    rw [if_pos h4, if_pos h4]
    by_cases ho : o = 0
    · have hm : mayS (sqN 1 126 [(lookE c).num]) = 0 := may_csi (by decide) (by decide) (by simp) (by simp; omega)
      rw [if_pos ho, if_pos ho]
      exact ⟨hm, seqB_is hm⟩
    · have hm : mayS (sqN 1 126 [(lookE c).num, 1 + o]) = 0 := may_csi (by decide) (by decide) (by simp) (by simp; omega)
      rw [if_neg ho, if_neg ho]
      exact ⟨hm, seqB_is hm⟩
  · have hb := f3 (by omega)
    rw [if_neg h4, if_neg h4]
    by_cases ho : 0 < o
    · have hm : mayS (sqN 1 (lookE c).fin [1, 1 + o]) = 0 := may_csi (by omega) (by omega) (by simp) (by simp; omega)
      rw [if_pos ho, if_pos ho]
      exact ⟨hm, seqB_is hm⟩
    · rw [if_neg ho, if_neg ho]
      by_cases hc : (m.cursor || decide (80 ≤ (lookE c).fin)) = true
      · have hm : mayS (sqN 2 (lookE c).fin []) = 0 := may_ss3 (by omega) (by omega)
        rw [if_pos hc, if_pos hc]
        exact ⟨hm, seqB_is hm⟩
      · have hm : mayS (sqN 1 (lookE c).fin []) = 0 := may_csi (by omega) (by omega) (by simp) (by simp)
        rw [if_neg hc, if_neg hc]
        exact ⟨hm, seqB_is hm⟩
/-- A bare press of a key. -/
theorem may_press {c n : Int} (hk : (lookE c).kind ≠ 0) (h0 : 0 ≤ n) (h1 : n ≤ 255) : mayK ⟨c, n, 1, 0, 0, ByteArray.empty⟩ = true :=
  (may_parts _).2 ⟨⟨hk, h0, h1, by simp, by simp⟩, .inl rfl, .inl rfl, clean_nil⟩
theorem leg_func (m : Mo) {c o : Int} (hk : (lookE c).kind = 3 ∨ (lookE c).kind = 4) (h0 : 0 ≤ o) (h1 : o < 8) : legL m ⟨c, o, 1, 0, 0, ByteArray.empty⟩ = putS (funcQ m (lookE c) o) := by
  rw [leg_yes (may_press (by omega) h0 (by omega)) (by simp)]
  simp only
  unfold legG
  rw [if_neg (by omega)]
  unfold legE
  rw [if_neg (by omega), if_neg (by omega), if_pos hk, old_at h0, show o % 8 = o by omega]
  exact (func_put m hk h0 h1).2
/-- A text's character is a code point. -/
theorem text_pt {c : Int} (h : (lookE c).kind = 1) : isPt c = true := by
  by_cases ho : c < 57344 ∨ 57455 ≤ c
  · rw [look_out ho] at h
    simp only at h
    unfold restN at h
    by_cases h1 : c = 9 ∨ c = 13 ∨ c = 27 ∨ c = 127
    · rw [if_pos h1] at h; cases h
    · rw [if_neg h1, if_neg (by omega), if_neg (by omega)] at h
      by_cases h2 : isPtK c = false ∨ c < 32 ∨ 127 ≤ c ∧ c ≤ 159 ∨ 57344 ≤ c ∧ c ≤ 63743
      · rw [if_pos h2] at h; cases h
      · have h3 : isPtK c = true := by
          cases e : isPtK c with
          | true => rfl
          | false => exact absurd (.inl e) h2
        have h4 := of_decide_eq_true h3
        exact (isPt_iff c).2 (by omega)
  · exfalso
    obtain ⟨k, rfl⟩ : ∃ k : Fin 111, c = 57344 + k.1 := ⟨⟨(c - 57344).toNat, by omega⟩, by simp; omega⟩
    have := code_all k
    omega
theorem shown_pt {code shift : Int} (h : (lookE code).kind = 1) (hs : shift = 0 ∨ textK shift = true) (s1 : Bool) : isPt (shownC code shift s1) = true := by
  unfold shownC
  split
  · exact text_pt h
  · split
    next h2 =>
      rcases hs with hs | hs
      · exact absurd hs h2
      · exact text_pt (eq_of_beq hs)
    next =>
      split
      next h3 => exact (isPt_iff _).2 (by omega)
      next => exact text_pt h
theorem put_ne {c : Int} (h : isPt c = true) : putL c ≠ [] := fun e => by
  have := putL_length h
  have := (cnt_bd c).1
  rw [e] at *
  simp at *
  omega
theorem shownG_ne {code shift : Int} (h : (lookE code).kind = 1) (hs : shift = 0 ∨ textK shift = true) (s1 c4 : Bool) (t : List UInt8) : shownG code shift s1 c4 t ≠ [] := by
  unfold shownG
  split
  next h1 => exact h1.2
  next =>
    split
    · simp
    · exact put_ne (shown_pt h hs s1)
theorem tab_may : mayS (sqN 1 90 []) = 0 := by decide +kernel
theorem plainG_ne (m : Mo) (code : Int) (s1 c4 : Bool) : plainG m code s1 c4 ≠ [] := by
  unfold plainG
  repeat' split
  all_goals first
    | exact seqB_ne tab_may
    | simp
/-- Without Alt, and with it. -/
theorem alt_bits {n : Int} (h0 : 0 ≤ n) (h1 : n ≤ 255) : (0 ≤ n - n / 2 % 2 * 2 ∧ n - n / 2 % 2 * 2 + 2 ≤ 255) ∧ (hasN (n - n / 2 % 2 * 2) 2 = false ∧ hasN (n - n / 2 % 2 * 2 + 2) 2 = true) ∧ hasN (n - n / 2 % 2 * 2 + 2) 1 = hasN (n - n / 2 % 2 * 2) 1 ∧ hasN (n - n / 2 % 2 * 2 + 2) 4 = hasN (n - n / 2 % 2 * 2) 4 := by
  obtain ⟨k, hk⟩ : ∃ k, n - n / 2 % 2 * 2 = k := ⟨_, rfl⟩
  have hb : 0 ≤ k ∧ k + 2 ≤ 255 ∧ k / 2 % 2 = 0 := by omega
  rw [hk, has_at (by omega), has_at (by omega), has_at (by omega), has_at (by omega), has_at (by omega), has_at (by omega)]
  refine ⟨by omega, ⟨?_, ?_⟩, ?_, ?_⟩
  · rw [show k / 2 % 2 = 0 by omega]; rfl
  · rw [show (k + 2) / 2 % 2 = 1 by omega]; rfl
  · rw [show (k + 2) / 1 % 2 = k / 1 % 2 by omega]
  · rw [show (k + 2) / 4 % 2 = k / 4 % 2 by omega]
theorem leg_alt (m : Mo) {k : Ky} (h : mayK k = true) (h3 : k.typ ≠ 3) (hk : (lookE k.code).kind = 1 ∨ (lookE k.code).kind = 2) :
    legL m { k with mods := k.mods - k.mods / 2 % 2 * 2 } ≠ [] ∧ legL m { k with mods := k.mods - k.mods / 2 % 2 * 2 + 2 } = 27 :: legL m { k with mods := k.mods - k.mods / 2 % 2 * 2 } := by
  obtain ⟨⟨_, a, b, _, _⟩, hs, _⟩ := (may_parts k).1 h
  obtain ⟨⟨e1, e2⟩, ⟨e3, e4⟩, e5, e6⟩ := alt_bits a b
  rw [leg_yes (may_mods h (n := k.mods - k.mods / 2 % 2 * 2) e1 (by omega)) h3, leg_yes (may_mods h (n := k.mods - k.mods / 2 % 2 * 2 + 2) (by omega) e2) h3]
  simp only [e3, e4, e5, e6]
  unfold legG
  rw [if_neg (by omega), if_neg (by omega)]
  unfold legE
  by_cases h1 : (lookE k.code).kind = 1
  · rw [if_pos h1, if_pos h1]
    unfold aheadG
    rw [if_neg (by decide), if_pos rfl]
    exact ⟨shownG_ne h1 hs _ _ _, rfl⟩
  · rw [if_neg h1, if_neg h1, if_pos (by omega), if_pos (by omega)]
    unfold aheadG
    rw [if_neg (by decide), if_pos rfl]
    exact ⟨plainG_ne _ _ _ _, rfl⟩
/-- A text, without modifiers but Shift, and Ctrl. -/
theorem text_bits (n : Int) : hasN (n % 2) 2 = false ∧ hasN (n % 2) 4 = false ∧ hasN (n % 2 + 4) 2 = false ∧ hasN (n % 2 + 4) 4 = true ∧ hasN (n % 2 + 4) 1 = hasN (n % 2) 1 := by
  rw [has_at (by omega), has_at (by omega), has_at (by omega), has_at (by omega), has_at (by omega), has_at (by omega)]
  refine ⟨?_, ?_, ?_, ?_, ?_⟩
  · rw [show n % 2 / 2 % 2 = 0 by omega]; rfl
  · rw [show n % 2 / 4 % 2 = 0 by omega]; rfl
  · rw [show (n % 2 + 4) / 2 % 2 = 0 by omega]; rfl
  · rw [show (n % 2 + 4) / 4 % 2 = 1 by omega]; rfl
  · rw [show (n % 2 + 4) / 1 % 2 = n % 2 / 1 % 2 by omega]
theorem leg_text (m : Mo) {k : Ky} (h : mayK k = true) (h3 : k.typ ≠ 3) (hk : (lookE k.code).kind = 1) (hc : hasN k.mods 2 = false) : legL m k = shownG k.code k.shift (hasN k.mods 1) (hasN k.mods 4) k.text.data.toList := by
  rw [leg_yes h h3]
  unfold legG
  rw [if_neg (by omega)]
  unfold legE
  rw [if_pos hk, hc]
  rfl
end Go.Proofs.YtmagokkegadmiaaDoor
namespace Go.Proofs.YtmagokkegadmiaaDoor
open Go.RowKit

/-- A byte that was reckoned. -/
theorem byt_val (k : Int) (h : 0 ≤ k) (h1 : k < 256) : [Value.int .u8 k] = bs [byt k] := by
  show _ = [Value.int .u8 ((byt k).toNat : Int)]
  rw [byt_nat k h h1]

/-- A slice of bytes handed back, of the call's own. -/
def Out (l : List UInt8) (w : World) (e : Ending) (w' : World) : Prop := ∃ A c, e = .returned (.slice A l.length c) ∧ Rd w' A (bs l) ∧ Below w.heap.size w w'
theorem out_own {base : Nat} {t : TypeId} {v : Value} {n : Nat} {l : List UInt8} {w w' : World} (ho : Own w' base t 1 v n (bs l)) (hb : Below w.heap.size w w') : Out l w (.returned v) w' := by
  obtain ⟨A, c, rfl, hr⟩ := ho.form
  have := ho.1
  rw [bs_length] at this
  exact ⟨A, c, by rw [show n = l.length by omega], hr, hb⟩

theorem out_lit (w : World) (t : TypeId) {l : List UInt8} {L : List Value} {n : Nat} (hE : bs l = L) (hL : l.length = n) : Out l w (.returned (.slice (some ⟨w.heap.size, 0, none⟩) n n)) (w.alloc (.cells L.toArray t)) := by
  subst hL hE
  exact ⟨_, _, rfl, Rd.block (heap_alloc_new w _) (by simp), (Below.refl _ _).alloc (Nat.le_refl _) _⟩

theorem bs1 (a : Int) (ha : 0 ≤ a) (ha' : a < 256) : bs [byt a] = [.int .u8 a] := (byt_val a ha ha').symm
theorem bs_cons (a : Int) (ha : 0 ≤ a) (ha' : a < 256) (l : List UInt8) : bs (byt a :: l) = .int .u8 a :: bs l := by
  show _ :: _ = _
  rw [show B8 (byt a) = .int .u8 a by unfold B8; rw [byt_nat a ha ha']]
  rfl

theorem rd_lit (w : World) (x : Value) (t : TypeId) : Rd (w.alloc (.cells #[x] t)) (some ⟨w.heap.size, 0, none⟩) [x] := Rd.block (heap_alloc_new w _) rfl
/-- What Take answers. -/
def Tk (l : List UInt8) : Ending := .returned (.tuple #[.int .i64 (takeL l).1, .int .i64 ((takeL l).2 : Nat)])
theorem tk_zero {l : List UInt8} (h : takeL l = (0, 0)) : Ending.returned (.tuple #[.int .i64 0, .int .i64 0]) = Tk l := by unfold Tk; rw [h]; rfl
theorem tk_is {l : List UInt8} {x : Int} {n : Nat} {m : Int} (h : takeL l = (x, n)) (hm : m = n) : Ending.returned (.tuple #[.int .i64 x, .int .i64 m]) = Tk l := by unfold Tk; rw [h, hm]

end Go.Proofs.YtmagokkegadmiaaDoor
namespace Go.Proofs.YtmagokkegadmiaaDoor
open Go.RowKit

/-- Put, whatever it tells. -/
def PutE (m : Int) (T : List UInt8) (w : World) (e : Ending) (w' : World) : Prop :=
  (∃ A c, e = .returned (.tuple #[.slice A T.length c, .int .i64 m]) ∧ T.length ≤ c ∧ Rd w' A (bs T)) ∧ Below w.heap.size w w'
def putE (s : Sq) : List UInt8 := if mayS s = 0 then putS s else []
theorem putE_0 {s : Sq} (h : mayS s = 0) : putE s = putS s := if_pos h
theorem putE_no {s : Sq} (h : mayS s ≠ 0) : putE s = [] := if_neg h
/-- A slice cut behind a place. -/
theorem cut_hi {P : Program} {T e : TypeId} (he : P.elem T = e) (hT : P.underlying T = some (.slice e)) (hs : ∀ w, (sizeOf e).run P w = .ok 1 w) (A : Option Addr) (n c hi : Nat) (hh : hi ≤ n) (hn : n ≤ c) :
    ∃ A', (∀ w : World, (Instr.slice T (.slice A n c) none (some (.int .i64 (hi : Int))) none).run P w = .ok (.slice A' hi c) w) ∧
      ∀ (w : World) (l : List UInt8), l.length = n → Rd w A (bs l) → Rd w A' (bs (l.take hi)) := by
  subst he
  refine ⟨if c = 0 then A else A.map (·.add (0 * 1)), fun w => ?_, fun w l hl hr => ?_⟩
  · rw [run_slice_h w T A n c hT .i64 (hi : Int) (by omega) (by omega), hs]
    simp [Result.andThen, sliced]
  · intro hp
    rw [bs_length, List.length_take] at hp
    obtain ⟨b, o, rfl, hb, hc⟩ := hr (by rw [bs_length]; omega)
    rw [if_neg (by omega)]
    refine ⟨b, o, ?_, hb, fun i u hu => ?_⟩
    · rw [Option.map_some, addr_add_at, Nat.zero_mul, Nat.add_zero]
    · apply hc
      have hi : i < hi := by
        have := (List.getElem?_eq_some_iff.1 hu).1
        rw [bs_length, List.length_take] at this
        omega
      simp only [bs, List.map_take, List.getElem?_take, if_pos hi] at hu
      exact hu

def seqC (s : Sq) (A : Option Addr) (c : Nat) : Array Value := #[.int .i64 s.kind, .int .u8 (s.priv.toNat : Int), .slice A s.params.length c, .string ⟨s.inter.toArray⟩, .int .u8 (s.final.toNat : Int), .string ⟨s.data.toArray⟩]
def zeroS : Value := .agg #[.int .i64 0, .int .u8 0, .slice none 0 0, .string ⟨#[]⟩, .int .u8 0, .string ⟨#[]⟩]
theorem rdp_drew {w : World} {A : Option Addr} {ps : List (List Int)} (h : RdP w A ps) : RdP w.drew A ps := h
end Go.Proofs.YtmagokkegadmiaaDoor
