/-
  Layer 11's mathematics: old forms: what a functional key's, a text's, and a plain key's are. Cut out of WpQ: what names no function of any dump. Layer 3, walked: the document's bare. Words for what Put and Take tell, the document's and the program's. Layer 2, walked: a code point's bytes, laid behind others. Layer 2, walked: Put, the program's and the document's. Layer 3, walked: the program's holds and ends.
-/
import Derived.Test.YtmagokkegadmiaaGreatDoorG02
import Derived.Test.YtmagokkegadmiaaGreatDoorG05
import Derived.Test.YtmagokkegadmiaaGreatDoorG07
import Derived.Test.YtmagokkegadmiaaGreatDoorG08
import Derived.Test.YtmagokkegadmiaaGreatDoorG09
import Derived.Test.YtmagokkegadmiaaGreatDoorG11
import Derived.Deep.Cut
import Derived.Deep.RegionLaw
import Derived.BigRegion
import Derived.Test.YtmagokkegadmiaaGreatDoorShelf
namespace Go.Proofs.YtmagokkegadmiaaGreatDoor

theorem byt_btw {f : Int} {a b : Nat} (h0 : (a : Int) ≤ f) (h1 : f ≤ (b : Int)) (hb : b < 256) : btw a b (byt f) = true := by
  have h := byt_nat f (by omega) (by omega)
  rw [btw_iff]
  omega
theorem par_nums {l : List Int} (hl : l.length ≤ 16) (hn : ∀ n ∈ l, 0 ≤ n ∧ n ≤ 1114111) : parOk (l.map fun n => [n]) = true := by
  unfold parOk
  simp only [Bool.and_eq_true, decide_eq_true_eq, List.all_eq_true]
  refine ⟨⟨by rw [List.length_map]; exact hl, fun h => ?_⟩, fun p hp => ?_⟩
  · have : (-1 : Int) ∈ l := by
      match l, h with
      | [x], h =>
        simp at h
        simp [h]
    have := (hn _ this).1
    omega
  · obtain ⟨n, hn', rfl⟩ := List.mem_map.1 hp
    have := hn n hn'
    exact ⟨⟨by simp, by simp⟩, fun m hm => by rw [List.mem_singleton.1 hm]; exact ⟨by omega, by omega⟩⟩
/-- A CSI sequence of numbers may be. -/
theorem may_csi {f : Int} {l : List Int} (h0 : 64 ≤ f) (h1 : f ≤ 126) (hl : l.length ≤ 16) (hn : ∀ n ∈ l, 0 ≤ n ∧ n ≤ 1114111) : mayS (sqN 1 f l) = 0 := by
  have hp := par_nums hl hn
  have hb := byt_btw (f := f) (a := 64) (b := 126) h0 h1 (by decide)
  have ho : okS (sqN 1 f l) = true := by
    unfold okS sqN
    simp [privOk, lastOk, bareOk, hp, hb]
  unfold mayS
  rw [if_neg (by simp [sqN]), if_pos ho]
theorem may_ss3 {f : Int} (h0 : 64 ≤ f) (h1 : f ≤ 126) : mayS (sqN 2 f []) = 0 := by
  have hb := byt_btw (f := f) (a := 64) (b := 126) h0 h1 (by decide)
  have ho : okS (sqN 2 f []) = true := by
    unfold okS sqN
    simp [privOk, lastOk, bareOk, hb, parOk]
  unfold mayS
  rw [if_neg (by simp [sqN]), if_pos ho]
theorem seqB_is {k f : Int} {l : List Int} (h : mayS (sqN k f l) = 0) : seqB k f l = putS (sqN k f l) := if_pos h
theorem seqB_ne {k f : Int} {l : List Int} (h : mayS (sqN k f l) = 0) : seqB k f l ≠ [] := fun e => by
  have := putS_ne (s := sqN k f l)
  rw [← seqB_is h, e] at this
  simp at this
/-- What a functional key's entry has. -/
def FormE (e : En) : Prop := (e.kind = 4 → 1 ≤ e.num ∧ e.num ≤ 100) ∧ (e.kind = 3 → 65 ≤ e.fin ∧ e.fin ≤ 90) ∧ (e.kind = 5 → 65 ≤ e.fin ∧ e.fin ≤ 122)
instance (e : En) : Decidable (FormE e) := by unfold FormE; infer_instance
theorem form_fin : ∀ k : Fin 111, FormE (lookE (57344 + (k.1 : Int))) := by decide +kernel
theorem form_e (c : Int) : FormE (lookE c) := by
  by_cases h : c < 57344 ∨ 57455 ≤ c
  · rw [look_out h]
    have := rest_rng c
    unfold FormE
    simp only
    omega
  · obtain ⟨k, rfl⟩ : ∃ k : Fin 111, c = 57344 + k.1 := ⟨⟨(c - 57344).toNat, by omega⟩, by simp; omega⟩
    exact form_fin k
/-- A functional key's sequence. -/
def funcQ (m : Mo) (e : En) (o : Int) : Sq :=
  if e.kind = 4 then (if o = 0 then sqN 1 126 [e.num] else sqN 1 126 [e.num, 1 + o])
  else if 0 < o then sqN 1 e.fin [1, 1 + o] else if (m.cursor || decide (80 ≤ e.fin)) = true then sqN 2 e.fin [] else sqN 1 e.fin []
theorem func_put (m : Mo) {c o : Int} (hk : (lookE c).kind = 3 ∨ (lookE c).kind = 4) (h0 : 0 ≤ o) (h1 : o < 8) : mayS (funcQ m (lookE c) o) = 0 ∧ funcG m (lookE c) o = putS (funcQ m (lookE c) o) := by
  obtain ⟨f4, f3, _⟩ := form_e c
  unfold funcG funcQ
  by_cases h4 : (lookE c).kind = 4
  · have hb := f4 h4
    rw [if_pos h4, if_pos h4]
    by_cases ho : o = 0
    · have hm : mayS (sqN 1 126 [(lookE c).num]) = 0 := may_csi (by decide) (by decide) (by simp) (by simp; omega)
      rw [if_pos ho, if_pos ho]
      exact ⟨hm, seqB_is hm⟩
    · have hm : mayS (sqN 1 126 [(lookE c).num, 1 + o]) = 0 := may_csi (by decide) (by decide) (by simp) (by simp; omega)
      rw [if_neg ho, if_neg ho]
      exact ⟨hm, seqB_is hm⟩
  · have hb := f3 (by omega)
    rw [if_neg h4, if_neg h4]
    by_cases ho : 0 < o
    · have hm : mayS (sqN 1 (lookE c).fin [1, 1 + o]) = 0 := may_csi (by omega) (by omega) (by simp) (by simp; omega)
      rw [if_pos ho, if_pos ho]
      exact ⟨hm, seqB_is hm⟩
    · rw [if_neg ho, if_neg ho]
      by_cases hc : (m.cursor || decide (80 ≤ (lookE c).fin)) = true
      · have hm : mayS (sqN 2 (lookE c).fin []) = 0 := may_ss3 (by omega) (by omega)
        rw [if_pos hc, if_pos hc]
        exact ⟨hm, seqB_is hm⟩
      · have hm : mayS (sqN 1 (lookE c).fin []) = 0 := may_csi (by omega) (by omega) (by simp) (by simp)
        rw [if_neg hc, if_neg hc]
        exact ⟨hm, seqB_is hm⟩
/-- A bare press of a key. -/
theorem may_press {c n : Int} (hk : (lookE c).kind ≠ 0) (h0 : 0 ≤ n) (h1 : n ≤ 255) : mayK ⟨c, n, 1, 0, 0, ByteArray.empty⟩ = true :=
  (may_parts _).2 ⟨⟨hk, h0, h1, by simp, by simp⟩, .inl rfl, .inl rfl, clean_nil⟩
theorem leg_func (m : Mo) {c o : Int} (hk : (lookE c).kind = 3 ∨ (lookE c).kind = 4) (h0 : 0 ≤ o) (h1 : o < 8) : legL m ⟨c, o, 1, 0, 0, ByteArray.empty⟩ = putS (funcQ m (lookE c) o) := by
  rw [leg_yes (may_press (by omega) h0 (by omega)) (by simp)]
  simp only
  unfold legG
  rw [if_neg (by omega)]
  unfold legE
  rw [if_neg (by omega), if_neg (by omega), if_pos hk, old_at h0, show o % 8 = o by omega]
  exact (func_put m hk h0 h1).2
/-- A text's character is a code point. -/
theorem text_pt {c : Int} (h : (lookE c).kind = 1) : isPt c = true := by
  by_cases ho : c < 57344 ∨ 57455 ≤ c
  · rw [look_out ho] at h
    simp only at h
    unfold restN at h
    by_cases h1 : c = 9 ∨ c = 13 ∨ c = 27 ∨ c = 127
    · rw [if_pos h1] at h; cases h
    · rw [if_neg h1, if_neg (by omega), if_neg (by omega)] at h
      by_cases h2 : isPtK c = false ∨ c < 32 ∨ 127 ≤ c ∧ c ≤ 159 ∨ 57344 ≤ c ∧ c ≤ 63743
      · rw [if_pos h2] at h; cases h
      · have h3 : isPtK c = true := by
          cases e : isPtK c with
          | true => rfl
          | false => exact absurd (.inl e) h2
        have h4 := of_decide_eq_true h3
        exact (isPt_iff c).2 (by omega)
  · exfalso
    obtain ⟨k, rfl⟩ : ∃ k : Fin 111, c = 57344 + k.1 := ⟨⟨(c - 57344).toNat, by omega⟩, by simp; omega⟩
    have := code_all k
    omega
theorem shown_pt {code shift : Int} (h : (lookE code).kind = 1) (hs : shift = 0 ∨ textK shift = true) (s1 : Bool) : isPt (shownC code shift s1) = true := by
  unfold shownC
  split
  · exact text_pt h
  · split
    next h2 =>
      rcases hs with hs | hs
      · exact absurd hs h2
      · exact text_pt (eq_of_beq hs)
    next =>
      split
      next h3 => exact (isPt_iff _).2 (by omega)
      next => exact text_pt h
theorem put_ne {c : Int} (h : isPt c = true) : putL c ≠ [] := fun e => by
  have := putL_length h
  have := (cnt_bd c).1
  rw [e] at *
  simp at *
  omega
theorem shownG_ne {code shift : Int} (h : (lookE code).kind = 1) (hs : shift = 0 ∨ textK shift = true) (s1 c4 : Bool) (t : List UInt8) : shownG code shift s1 c4 t ≠ [] := by
  unfold shownG
  split
  next h1 => exact h1.2
  next =>
    split
    · simp
    · exact put_ne (shown_pt h hs s1)
theorem tab_may : mayS (sqN 1 90 []) = 0 := by decide +kernel
theorem plainG_ne (m : Mo) (code : Int) (s1 c4 : Bool) : plainG m code s1 c4 ≠ [] := by
  unfold plainG
  repeat' split
  all_goals first
    | exact seqB_ne tab_may
    | simp
/-- Without Alt, and with it. -/
theorem alt_bits {n : Int} (h0 : 0 ≤ n) (h1 : n ≤ 255) : (0 ≤ n - n / 2 % 2 * 2 ∧ n - n / 2 % 2 * 2 + 2 ≤ 255) ∧ (hasN (n - n / 2 % 2 * 2) 2 = false ∧ hasN (n - n / 2 % 2 * 2 + 2) 2 = true) ∧ hasN (n - n / 2 % 2 * 2 + 2) 1 = hasN (n - n / 2 % 2 * 2) 1 ∧ hasN (n - n / 2 % 2 * 2 + 2) 4 = hasN (n - n / 2 % 2 * 2) 4 := by
  obtain ⟨k, hk⟩ : ∃ k, n - n / 2 % 2 * 2 = k := ⟨_, rfl⟩
  have hb : 0 ≤ k ∧ k + 2 ≤ 255 ∧ k / 2 % 2 = 0 := by omega
  rw [hk, has_at (by omega), has_at (by omega), has_at (by omega), has_at (by omega), has_at (by omega), has_at (by omega)]
  refine ⟨by omega, ⟨?_, ?_⟩, ?_, ?_⟩
  · rw [show k / 2 % 2 = 0 by omega]; rfl
  · rw [show (k + 2) / 2 % 2 = 1 by omega]; rfl
  · rw [show (k + 2) / 1 % 2 = k / 1 % 2 by omega]
  · rw [show (k + 2) / 4 % 2 = k / 4 % 2 by omega]
theorem leg_alt (m : Mo) {k : Ky} (h : mayK k = true) (h3 : k.typ ≠ 3) (hk : (lookE k.code).kind = 1 ∨ (lookE k.code).kind = 2) :
    legL m { k with mods := k.mods - k.mods / 2 % 2 * 2 } ≠ [] ∧ legL m { k with mods := k.mods - k.mods / 2 % 2 * 2 + 2 } = 27 :: legL m { k with mods := k.mods - k.mods / 2 % 2 * 2 } := by
  obtain ⟨⟨_, a, b, _, _⟩, hs, _⟩ := (may_parts k).1 h
  obtain ⟨⟨e1, e2⟩, ⟨e3, e4⟩, e5, e6⟩ := alt_bits a b
  rw [leg_yes (may_mods h (n := k.mods - k.mods / 2 % 2 * 2) e1 (by omega)) h3, leg_yes (may_mods h (n := k.mods - k.mods / 2 % 2 * 2 + 2) (by omega) e2) h3]
  simp only [e3, e4, e5, e6]
  unfold legG
  rw [if_neg (by omega), if_neg (by omega)]
  unfold legE
  by_cases h1 : (lookE k.code).kind = 1
  · rw [if_pos h1, if_pos h1]
    unfold aheadG
    rw [if_neg (by decide), if_pos rfl]
    exact ⟨shownG_ne h1 hs _ _ _, rfl⟩
  · rw [if_neg h1, if_neg h1, if_pos (by omega), if_pos (by omega)]
    unfold aheadG
    rw [if_neg (by decide), if_pos rfl]
    exact ⟨plainG_ne _ _ _ _, rfl⟩
/-- A text, without modifiers but Shift, and Ctrl. -/
theorem text_bits (n : Int) : hasN (n % 2) 2 = false ∧ hasN (n % 2) 4 = false ∧ hasN (n % 2 + 4) 2 = false ∧ hasN (n % 2 + 4) 4 = true ∧ hasN (n % 2 + 4) 1 = hasN (n % 2) 1 := by
  rw [has_at (by omega), has_at (by omega), has_at (by omega), has_at (by omega), has_at (by omega), has_at (by omega)]
  refine ⟨?_, ?_, ?_, ?_, ?_⟩
  · rw [show n % 2 / 2 % 2 = 0 by omega]; rfl
  · rw [show n % 2 / 4 % 2 = 0 by omega]; rfl
  · rw [show (n % 2 + 4) / 2 % 2 = 0 by omega]; rfl
  · rw [show (n % 2 + 4) / 4 % 2 = 1 by omega]; rfl
  · rw [show (n % 2 + 4) / 1 % 2 = n % 2 / 1 % 2 by omega]
theorem leg_text (m : Mo) {k : Ky} (h : mayK k = true) (h3 : k.typ ≠ 3) (hk : (lookE k.code).kind = 1) (hc : hasN k.mods 2 = false) : legL m k = shownG k.code k.shift (hasN k.mods 1) (hasN k.mods 4) k.text.data.toList := by
  rw [leg_yes h h3]
  unfold legG
  rw [if_neg (by omega)]
  unfold legE
  rw [if_pos hk, hc]
  rfl
end Go.Proofs.YtmagokkegadmiaaGreatDoor
namespace Go.Proofs.YtmagokkegadmiaaGreatDoor
open Go.RowKit

theorem may_small {s : Sq} (h : mayS s = 0) : s.priv.toNat < 128 ∧ s.final.toNat < 128 ∧ (putS s).length ≤ 20000 ∧ (s.kind = 1 ∨ s.kind = 2 ∨ s.kind = 3 ∨ s.kind = 4 ∨ s.kind = 5) := by
  obtain ⟨hdl, hv, hp, hil, hi, hd, hl, hb⟩ := ok_parts h
  have hk : s.kind = 1 ∨ s.kind = 2 ∨ s.kind = 3 ∨ s.kind = 4 ∨ s.kind = 5 := by
    unfold lastOk at hl
    split at hl
    · omega
    · split at hl
      · omega
      · simp only [Bool.and_eq_true, decide_eq_true_eq] at hl; omega
  refine ⟨?_, ?_, ?_, hk⟩
  · simp only [privOk, Bool.or_eq_true, decide_eq_true_eq] at hv
    rcases hv with hv | hv
    · rw [hv]; decide
    · have := (btw_iff _ _ _).1 hv; omega
  · unfold lastOk at hl
    split at hl
    · have := (btw_iff _ _ _).1 hl; omega
    · split at hl
      · simp only [Bool.and_eq_true] at hl
        have := (btw_iff _ _ _).1 hl.1; omega
      · simp only [Bool.and_eq_true, decide_eq_true_eq] at hl
        rw [hl.2]; decide
  · have h3 := body_len hp hil
    unfold putS
    (repeat' split) <;> simp <;> omega
end Go.Proofs.YtmagokkegadmiaaGreatDoor
namespace Go.Proofs.YtmagokkegadmiaaGreatDoor
open Go.RowKit

set_option maxRecDepth 100000 in
set_option maxHeartbeats 4000000 in
theorem bare_any (s : Sq) (A : Option Addr) (c : Nat) (q : Bool) (w : World) (hq : bareOk s = q) :
    Calls Tryz.prog 77 #[sqV s A c] w fun e w' => e = .returned (.bool q) ∧ Below w.heap.size w w' := by
  obtain ⟨k, pv, ps, it, f, d⟩ := s
  unfold sqV
  dsimp only
  have key : (k = 2 ∨ k = 4 ∨ k = 5) ∧ pv ≠ 0 ∧ q = false ∨ (k = 2 ∨ k = 4 ∨ k = 5) ∧ pv = 0 ∧ ps ≠ [] ∧ q = false ∨ (k = 2 ∨ k = 4) ∧ pv = 0 ∧ ps = [] ∧ it ≠ [] ∧ q = false ∨
      (k = 2 ∧ pv = 0 ∧ ps = [] ∧ it = [] ∨ k = 5 ∧ pv = 0 ∧ ps = []) ∧ q = decide (d = []) ∨ k = 4 ∧ pv = 0 ∧ ps = [] ∧ it = [] ∧ q = true ∨ k = 3 ∧ q = true ∨ (k ≠ 2 ∧ k ≠ 3 ∧ k ≠ 4 ∧ k ≠ 5) ∧ q = decide (d = []) := by
    subst hq
    unfold bareOk
    dsimp only
    by_cases k2 : k = 2
    · subst k2
      by_cases h1 : pv = 0 <;> by_cases h2 : ps = [] <;> by_cases h3 : it = [] <;> simp [h1, h2, h3]
    · by_cases k4 : k = 4
      · subst k4
        by_cases h1 : pv = 0 <;> by_cases h2 : ps = [] <;> by_cases h3 : it = [] <;> simp [h1, h2, h3]
      · by_cases k5 : k = 5
        · subst k5
          by_cases h1 : pv = 0 <;> by_cases h2 : ps = [] <;> simp [h1, h2]
        · by_cases k3 : k = 3
          · subst k3; simp
          · simp [k2, k3, k4, k5]
  clear hq
  rcases key with ⟨hk, hp, rfl⟩ | ⟨hk, rfl, hp, rfl⟩ | ⟨hk, rfl, rfl, hi, rfl⟩ | ⟨⟨rfl, rfl, rfl, rfl⟩ | ⟨rfl, rfl, rfl⟩, hq⟩ | ⟨rfl, rfl, rfl, rfl, rfl⟩ | ⟨rfl, rfl⟩ | ⟨⟨k2, k3, k4, k5⟩, hq⟩
  · have hn : pv.toNat ≠ 0 := fun e => hp (UInt8.toNat_inj.1 e)
    have t1 : ((pv.toNat : Int) == 0) = false := beq_false_of_ne (by omega)
    have t2 : ((pv.toNat : Int) != 0) = true := by simp [bne, t1]
    clear hp
    rcases hk with rfl | rfl | rfl
    all_goals
      go_enter Tryz.func77, Tryz.ntmps77
      go_wp2
      go_ret
      exact ⟨rfl, (Below.refl _ _).alloc (Nat.le_refl _) _⟩
  · have hn : 0 < ps.length := List.length_pos_iff.2 hp
    have hn2 : (0 : Int) < (ps.length : Int) := by omega
    clear hp
    rcases hk with rfl | rfl | rfl
    all_goals
      go_enter Tryz.func77, Tryz.ntmps77
      go_wp2
      go_ret
      exact ⟨rfl, (Below.refl _ _).alloc (Nat.le_refl _) _⟩
  · cases it with
    | nil => exact absurd rfl hi
    | cons x it =>
      clear hi
      rcases hk with rfl | rfl
      all_goals
        go_enter Tryz.func77, Tryz.ntmps77
        go_wp2
        go_ret
        exact ⟨rfl, (Below.refl _ _).alloc (Nat.le_refl _) _⟩
  · cases d with
    | nil =>
      obtain rfl : true = q := hq.symm
      clear hq
      go_enter Tryz.func77, Tryz.ntmps77
      go_wp2
      go_ret
      exact ⟨rfl, (Below.refl _ _).alloc (Nat.le_refl _) _⟩
    | cons x d =>
      obtain rfl : false = q := hq.symm
      clear hq
      go_enter Tryz.func77, Tryz.ntmps77
      go_wp2
      go_ret
      exact ⟨rfl, (Below.refl _ _).alloc (Nat.le_refl _) _⟩
  · cases d with
    | nil =>
      obtain rfl : true = q := hq.symm
      clear hq
      go_enter Tryz.func77, Tryz.ntmps77
      go_wp2
      go_ret
      exact ⟨rfl, (Below.refl _ _).alloc (Nat.le_refl _) _⟩
    | cons x d =>
      obtain rfl : false = q := hq.symm
      clear hq
      go_enter Tryz.func77, Tryz.ntmps77
      go_wp2
      go_ret
      exact ⟨rfl, (Below.refl _ _).alloc (Nat.le_refl _) _⟩
  · cases d
    all_goals
      go_enter Tryz.func77, Tryz.ntmps77
      go_wp2
      go_ret
      exact ⟨rfl, (Below.refl _ _).alloc (Nat.le_refl _) _⟩
  · cases d
    all_goals
      go_enter Tryz.func77, Tryz.ntmps77
      go_wp2
      go_ret
      exact ⟨rfl, (Below.refl _ _).alloc (Nat.le_refl _) _⟩
  · have t2 : (k == 2) = false := beq_false_of_ne k2
    have t3 : (k == 3) = false := beq_false_of_ne k3
    have t4 : (k == 4) = false := beq_false_of_ne k4
    have t5 : (k == 5) = false := beq_false_of_ne k5
    clear k2 k3 k4 k5
    cases d with
    | nil =>
      obtain rfl : true = q := hq.symm
      clear hq
      go_enter Tryz.func77, Tryz.ntmps77
      go_wp2
      go_ret
      exact ⟨rfl, (Below.refl _ _).alloc (Nat.le_refl _) _⟩
    | cons x d =>
      obtain rfl : false = q := hq.symm
      clear hq
      go_enter Tryz.func77, Tryz.ntmps77
      go_wp2
      go_ret
      exact ⟨rfl, (Below.refl _ _).alloc (Nat.le_refl _) _⟩
end Go.Proofs.YtmagokkegadmiaaGreatDoor
namespace Go.Proofs.YtmagokkegadmiaaGreatDoor
open Go.RowKit

/-- Put, whatever it tells. -/
def PutE (m : Int) (T : List UInt8) (w : World) (e : Ending) (w' : World) : Prop :=
  (∃ A c, e = .returned (.tuple #[.slice A T.length c, .int .i64 m]) ∧ T.length ≤ c ∧ Rd w' A (bs T)) ∧ Below w.heap.size w w'
def putE (s : Sq) : List UInt8 := if mayS s = 0 then putS s else []
theorem putE_0 {s : Sq} (h : mayS s = 0) : putE s = putS s := if_pos h
theorem putE_no {s : Sq} (h : mayS s ≠ 0) : putE s = [] := if_neg h
/-- A slice cut behind a place. -/
theorem cut_hi {P : Program} {T e : TypeId} (he : P.elem T = e) (hT : P.underlying T = some (.slice e)) (hs : ∀ w, (sizeOf e).run P w = .ok 1 w) (A : Option Addr) (n c hi : Nat) (hh : hi ≤ n) (hn : n ≤ c) :
    ∃ A', (∀ w : World, (Instr.slice T (.slice A n c) none (some (.int .i64 (hi : Int))) none).run P w = .ok (.slice A' hi c) w) ∧
      ∀ (w : World) (l : List UInt8), l.length = n → Rd w A (bs l) → Rd w A' (bs (l.take hi)) := by
  subst he
  refine ⟨if c = 0 then A else A.map (·.add (0 * 1)), fun w => ?_, fun w l hl hr => ?_⟩
  · rw [run_slice_h w T A n c hT .i64 (hi : Int) (by omega) (by omega), hs]
    simp [Result.andThen, sliced]
  · intro hp
    rw [bs_length, List.length_take] at hp
    obtain ⟨b, o, rfl, hb, hc⟩ := hr (by rw [bs_length]; omega)
    rw [if_neg (by omega)]
    refine ⟨b, o, ?_, hb, fun i u hu => ?_⟩
    · rw [Option.map_some, addr_add_at, Nat.zero_mul, Nat.add_zero]
    · apply hc
      have hi : i < hi := by
        have := (List.getElem?_eq_some_iff.1 hu).1
        rw [bs_length, List.length_take] at this
        omega
      simp only [bs, List.map_take, List.getElem?_take, if_pos hi] at hu
      exact hu

def seqC (s : Sq) (A : Option Addr) (c : Nat) : Array Value := #[.int .i64 s.kind, .int .u8 (s.priv.toNat : Int), .slice A s.params.length c, .string ⟨s.inter.toArray⟩, .int .u8 (s.final.toNat : Int), .string ⟨s.data.toArray⟩]
def zeroS : Value := .agg #[.int .i64 0, .int .u8 0, .slice none 0 0, .string ⟨#[]⟩, .int .u8 0, .string ⟨#[]⟩]
theorem rdp_drew {w : World} {A : Option Addr} {ps : List (List Int)} (h : RdP w A ps) : RdP w.drew A ps := h
end Go.Proofs.YtmagokkegadmiaaGreatDoor
namespace Go.Proofs.YtmagokkegadmiaaGreatDoor
open Go.RowKit

theorem Tryz.u8info : (Tryz.prog.info? 5).map (fun i => (i.zero, i.size, i.bytes)) = some (some (.int .u8 0), 1, 1) := by kernel_rfl

/-- 64, so many times by itself. -/
def wei : Nat → Int
  | 0 => 1
  | k + 1 => wei k * 64
theorem wei_pos (k : Nat) : 1 ≤ wei k := by
  induction k with
  | zero => exact Int.le_refl _
  | succ k ih => unfold wei; omega
theorem wei_le {k : Nat} (h : k ≤ 3) : wei k ≤ 262144 := by
  obtain rfl | rfl | rfl | rfl : k = 0 ∨ k = 1 ∨ k = 2 ∨ k = 3 := by omega
  all_goals simp [wei]
/-- The bytes behind the first one, k of them. -/
def tailL (r : Int) : Nat → List UInt8
  | 0 => []
  | k + 1 => byt (128 + r / wei k % 64) :: tailL r k
theorem tailL_length (r : Int) (k : Nat) : (tailL r k).length = k := by
  induction k with
  | zero => rfl
  | succ k ih => simp [tailL, ih]
/-- A code point's size and bytes, by how many follow. -/
theorem put_split {r : Int} (h : isPt r = true) : ∃ (j : Nat) (least lead : Int), j ≤ 3 ∧ cnt r = j + 1 ∧ szA (ixP r 4) = #[.int .i64 ((j : Int) + 1), .int .i64 least, .int .i64 lead] ∧ 0 ≤ lead ∧ 0 ≤ lead + r / wei j ∧ lead + r / wei j ≤ 255 ∧ 0 ≤ r / wei j ∧ r / wei j ≤ 255 ∧ lead ≤ 240 ∧
    putL r = byt (lead + r / wei j) :: tailL r j := by
  obtain ⟨h0, h1, _⟩ := (isPt_iff r).1 h
  have w0 : wei 0 = 1 := rfl
  have w1 : wei 1 = 64 := rfl
  have w2 : wei 2 = 4096 := rfl
  have w3 : wei 3 = 262144 := rfl
  by_cases a1 : r < 128
  · refine ⟨0, 0, 0, by omega, by simp [cnt, a1], ?_, by omega, ?_, ?_, ?_, ?_, by omega, ?_⟩
    · rw [show ixP r 4 = 0 by unfold ixP; (repeat' split) <;> omega]; rfl
    · rw [w0]; omega
    · rw [w0]; omega
    · rw [w0]; omega
    · rw [w0]; omega
    · rw [putL_1 h a1, w0, Int.ediv_one, Int.zero_add]; rfl
  · by_cases a2 : r < 2048
    · refine ⟨1, 128, 192, by omega, by simp [cnt, a1, a2], ?_, by omega, ?_, ?_, ?_, ?_, by omega, ?_⟩
      · rw [show ixP r 4 = 1 by unfold ixP; (repeat' split) <;> omega]; rfl
      · rw [w1]; omega
      · rw [w1]; omega
      · rw [w1]; omega
      · rw [w1]; omega
      · rw [putL_2 h (by omega) a2, w1]; simp only [tailL, w0, Int.ediv_one]
    · by_cases a3 : r < 65536
      · refine ⟨2, 2048, 224, by omega, by simp [cnt, a1, a2, a3], ?_, by omega, ?_, ?_, ?_, ?_, by omega, ?_⟩
        · rw [show ixP r 4 = 2 by unfold ixP; (repeat' split) <;> omega]; rfl
        · rw [w2]; omega
        · rw [w2]; omega
        · rw [w2]; omega
        · rw [w2]; omega
        · rw [putL_3 h (by omega) a3, w2]; simp only [tailL, w0, w1, Int.ediv_one]
      · refine ⟨3, 65536, 240, by omega, by simp [cnt, a1, a2, a3], ?_, by omega, ?_, ?_, ?_, ?_, by omega, ?_⟩
        · rw [show ixP r 4 = 3 by unfold ixP; (repeat' split) <;> omega]; rfl
        · rw [w3]; omega
        · rw [w3]; omega
        · rw [w3]; omega
        · rw [w3]; omega
        · rw [putL_4 h (by omega), w3]; simp only [tailL, w0, w1, w2, Int.ediv_one]

theorem tail_step (ys : List Value) (r Y : Int) (j : Nat) (h : Y = wei j) : ys ++ bs [byt (128 + r / Y % 64)] ++ bs (tailL r j) = ys ++ bs (tailL r (j + 1)) := by
  subst h
  rw [List.append_assoc]
  rfl

set_option maxRecDepth 100000 in
set_option maxHeartbeats 4000000 in
theorem put_any (r : Int) (h : isPt r = true) (base : Nat) (v : Value) (n : Nat) (xs : List Value) (w : World) (hs : Siz w) (hown : Own w base 5 1 v n xs) (hbase : base ≤ w.heap.size) (hn : n ≤ 4294967296) :
    Calls Tryz.prog 87 #[v, .int .i64 r] w fun e w' => ∃ v', e = .returned v' ∧ Own w' base 5 1 v' (n + cnt r) (xs ++ bs (putL r)) ∧ Below base w w' := by
  obtain ⟨i0, hi, hz0, hz1, hz2⟩ := info_parts Tryz.u8info
  obtain ⟨j, least, lead, hj, hc, hz, l0, l1, l2, l3, l4, l5, hp⟩ := put_split h
  obtain ⟨h0, h1, _⟩ := (isPt_iff r).1 h
  have HF := byt_val (lead + r / wei j) l1 (by omega)
  obtain ⟨f, hf⟩ : ∃ f, byt (lead + r / wei j) = f := ⟨_, rfl⟩
  rw [hf] at hp HF
  rw [hc, hp]
  have HG := Lib.hid HF
  clear hf hp hc HF
  go_enter Tryz.func87, Tryz.ntmps87
  go_wp2_with fail
  refine (sizeOf_any r _ hs).mono ?_
  rw [hz]
  rintro e w1 ⟨rfl, hb1⟩
  go_wp2_with fail
  have hown1 : Own w1 base 5 1 v n xs := hown.behind hb1
  have hB1 : Below base w w1 := hb1.mono hbase
  have hs1 := hb1.size
  have p1 := Blk.new w1 132 #[.int .i64 ((j : Int) + 1), .int .i64 least, .int .i64 lead]
  have g2 := p1.cell 2
  clear hb1 hz
  go_loop [6, 12] (fun a i => ∃ k : Nat, k ≤ j ∧ a = .int .i64 (wei k) ∧ i = .int .i64 k) (fun _ i => j - (intOf i).toNat)
  case atStart => exact ⟨0, Nat.zero_le _, rfl, rfl⟩
  case round =>
    obtain ⟨k, hk, rfl, rfl⟩ := hrel
    by_cases hlt : k < j
    · have b1 := wei_pos k
      have b2 := wei_le (k := k) (by omega)
      have e1 : wei (k + 1) = wei k * 64 := rfl
      have E1 := Lib.hid e1
      clear e1
      go_wp2
      go_round
      case rel => exact ⟨k + 1, by omega, by rw [E1.out], by go_num⟩
      case measure => simp [intOf]; omega
    · obtain rfl : k = j := by omega
      have b1 := wei_pos k
      have b2 := wei_le (k := k) (by omega)
      have e1 : r.tdiv (wei k) = r / wei k := Int.tdiv_eq_ediv_of_nonneg h0
      have e2 : IntKind.i64.wrap (r / wei k) = r / wei k := IntWalk.i64_in _ (by omega)
      have e3 : IntKind.i64.wrap (lead + r / wei k) = lead + r / wei k := IntWalk.i64_in _ (by omega)
      have e4 : IntKind.u8.wrap (lead + r / wei k) = lead + r / wei k := by rw [IntKind.wrap_u8]; omega
      have hB2 : Below base w (w1.alloc (.cells #[.int .i64 ((k : Int) + 1), .int .i64 least, .int .i64 lead] 132)) := hB1.alloc (Nat.le_trans hbase hs1) _
      have hownA : ∀ o, Own ((w1.alloc (.cells #[.int .i64 ((k : Int) + 1), .int .i64 least, .int .i64 lead] 132)).alloc o).drew base 5 1 v n xs := fun o => ((hown1.alloc _).alloc o).drew
      have hBA : ∀ o, Below base w ((w1.alloc (.cells #[.int .i64 ((k : Int) + 1), .int .i64 least, .int .i64 lead] 132)).alloc o).drew := fun o => (hB2.alloc (Nat.le_trans hbase hB2.size) o).drew
      have hrA : ∀ x, Rd ((w1.alloc (.cells #[.int .i64 ((k : Int) + 1), .int .i64 least, .int .i64 lead] 132)).alloc (.cells #[x] 5)).drew (some ⟨w1.heap.size + 1, 0, none⟩) [x] := fun x => by
        have := rd_lit (w1.alloc (.cells #[.int .i64 ((k : Int) + 1), .int .i64 least, .int .i64 lead] 132)) x 5
        rw [World.size_alloc] at this
        exact this
      have hw0 : ¬ wei k = 0 := by omega
      have h63 : n + 1 ≤ maxLen := by simp only [maxLen]; omega
      have hlim : (n + 1) * 1 ≤ 140737488355328 := by omega
      have one1 : ∀ x : Int, ∀ u ∈ [Value.int .u8 x], u.oneCell' = true := fun x => ints_one [x]
      go_wp2
      go_region_law (refine step_app _ rfl (.tmp 17) (.tmp 25) 27 rfl base 5 i0 _ 1 1 Tryz.underlying27 hi hz0 hz1 hz2 rfl Nat.one_pos v n xs (by simp [Act.eval]) (hownA _) (some ⟨w1.heap.size + 1, 0, none⟩) 1 1 _ (by simp [Act.eval]) rfl (hrA _) (one1 _) h63 hlim (Nat.le_trans hbase (hBA _).size) ?_; intro v' w' hown' hg')
      all_goals
        have hB3 : Below base w w' := (hBA _).grown hg' (Nat.le_trans hbase (hBA _).size) (fun g hg => (hown1.lt g hg).1)
        rw [HG.out] at hown'
        clear hg' hBA hownA hrA hB2 one1 h63 hlim e1 e2 e3 e4 hw0 p1 g2 hown1 hB1 hs1
        clear l1 l2 l3 l4 HG
        go_wp2
        simp only [Act.put, List.getElem_toArray, List.getElem_cons_succ, List.getElem_cons_zero, List.setIfInBounds_toArray, List.set_cons_zero]
        go_loopw [0, 6] (fun a wt wr => ∃ (j m : Nat) (ys : List Value), j ≤ k ∧ wt = .int .i64 (wei j) ∧ Own wr base 5 1 a m ys ∧ m + j = n + (k + 1) ∧ ys ++ bs (tailL r j) = xs ++ bs (f :: tailL r k) ∧ Below base w wr) (fun _ wt _ => (intOf wt).toNat)
        case atStart => exact ⟨k, n + 1, _, Nat.le_refl _, rfl, hown', by omega, by simp [bs], hB3⟩
        case round =>
          clear hown' hB3
          obtain ⟨j, m, ys, hjk, rfl, hown, hm, hy, hbw⟩ := hrel
          have HY := Lib.hid hy
          have HM := Lib.hid hm
          have hml : m ≤ 4294967300 := by omega
          clear hy hm
          cases j with
          | zero =>
            have e0 : wei 0 = 1 := rfl
            go_wp2
            go_ret
            refine ⟨_, rfl, ?_, hbw⟩
            have h1 := HY.out
            simp only [tailL, bs, List.map_nil, List.append_nil] at h1
            rw [show n + (k + 1) = m from HM.out.symm]
            simp only [bs] at *
            rw [← h1]; exact hown
          | succ j =>
            have b1 := wei_pos j
            have b2 := wei_le (k := j) (by omega)
            obtain ⟨X, hX⟩ : ∃ X, wei (j + 1) = X := ⟨_, rfl⟩
            have hX2 : X = wei j * 64 := hX.symm
            have hXd := Lib.hid (show X / 64 = wei j by omega)
            have x1 : 64 ≤ X := by omega
            have x2 : X ≤ 16777216 := by omega
            have x3 : ¬ X / 64 = 0 := by omega
            have x4 : 1 ≤ X / 64 := by omega
            have x5 : 0 ≤ r / (X / 64) := Int.ediv_nonneg h0 (by omega)
            have x6 : r / (X / 64) ≤ 1114111 := Int.le_trans (Int.ediv_le_self _ h0) h1
            have x7 : 0 ≤ r / (X / 64) % 64 := by omega
            have x8 : r / (X / 64) % 64 < 64 := by omega
            have hXX := Lib.hid hX
            have hbv := Lib.hid (byt_val (128 + r / (X / 64) % 64) (by omega) (by omega))
            rw [hX]
            clear hX hX2 b1 b2
            have h63 : m + 1 ≤ maxLen := by simp only [maxLen]; omega
            have hlim : (m + 1) * 1 ≤ 140737488355328 := by omega
            have one1 : ∀ x : Int, ∀ u ∈ [Value.int .u8 x], u.oneCell' = true := fun x => ints_one [x]
            have hbs := Nat.le_trans hbase hbw.size
            go_wp2_with (at_builtin; refine list_app _ rfl (.tmp 31) (.tmp 38) 27 rfl base 5 i0 _ 1 1 Tryz.underlying27 hi hz0 hz1 hz2 rfl Nat.one_pos _ _ _ rfl (hown.alloc _) (some ⟨wr.heap.size, 0, none⟩) 1 1 _ rfl rfl (rd_lit wr _ _) (one1 _) h63 hlim (by simp; omega) ?_; intro v4 w4 hown4 hg4)
            have hb4 : Below base w w4 := (hbw.alloc hbs _).grown hg4 (by simp; omega) (fun g hg => (hown.lt g hg).1)
            rw [hbv.out] at hown4
            clear hg4
            go_wp2
            go_roundw
            case rel =>
              refine ⟨j, m + 1, _, by omega, by rw [hXd.out], hown4, by have := HM.out; omega, ?_, hb4⟩
              rw [← HY.out]
              exact tail_step _ _ _ _ hXd.out
            case measure => simp [intOf]; omega
end Go.Proofs.YtmagokkegadmiaaGreatDoor
namespace Go.Proofs.YtmagokkegadmiaaGreatDoor
open Go.RowKit

set_option maxHeartbeats 1000000 in
theorem Put_any (r : Int) (w : World) (hs : Siz w) : Calls Tryz.prog 60 #[.int .i64 r] w (Out (putL r) w) := by
  cases h : isPt r with
  | false =>
    rw [putL_no h]
    go_enter Tryz.func60, Tryz.ntmps60
    go_wp2_with fail
    refine (isPt_any r _).mono ?_
    rintro e w1 ⟨rfl, rfl⟩
    go_wp2_with fail
    go_ret
    exact ⟨none, 0, rfl, Rd.nil _ _, Below.refl _ _⟩
  | true =>
    have H := Lib.hid h
    go_enter Tryz.func60, Tryz.ntmps60
    go_wp2_with fail
    refine (isPt_any r _).mono ?_
    rintro e w1 ⟨rfl, rfl⟩
    go_wp2_with fail
    refine (put_any r H.out w.heap.size (.slice none 0 0) 0 [] w hs (Own.nil_ _ _ _ _) (Nat.le_refl _) (by omega)).mono ?_
    rintro e w2 ⟨v, rfl, ho, hb⟩
    go_wp2_with fail
    go_ret
    exact out_own ho hb

end Go.Proofs.YtmagokkegadmiaaGreatDoor
namespace Go.Proofs.YtmagokkegadmiaaGreatDoor
open Go.RowKit

theorem fm1 : fmV (formF 1) = .agg #[.string ⟨#[91]⟩, .bool true, .bool true, .int .u8 64, .string ⟨#[]⟩] := rfl
theorem fm2 : fmV (formF 2) = .agg #[.string ⟨#[79]⟩, .bool false, .bool false, .int .u8 64, .string ⟨#[]⟩] := rfl
theorem fm3 : fmV (formF 3) = .agg #[.string ⟨#[80]⟩, .bool true, .bool true, .int .u8 64, .string ⟨#[27, 92]⟩] := rfl
theorem fm4 : fmV (formF 4) = .agg #[.string ⟨#[93]⟩, .bool false, .bool false, .int .u8 0, .string ⟨#[27, 92]⟩] := rfl
theorem fm5 : fmV (formF 5) = .agg #[.string ⟨#[]⟩, .bool false, .bool true, .int .u8 48, .string ⟨#[]⟩] := rfl

theorem priv_ne {c : UInt8} (h : c ≠ 0) : ((c.toNat : Int) == 0) = false := beq_false_of_ne (fun e => h (UInt8.toNat_inj.1 (by show c.toNat = 0; omega)))

set_option maxRecDepth 100000 in
set_option maxHeartbeats 4000000 in
theorem holds_any (s : Sq) (A : Option Addr) (c : Nat) (q : Bool) (w : World) (hk : s.kind = 1 ∨ s.kind = 2 ∨ s.kind = 3 ∨ s.kind = 4 ∨ s.kind = 5) (hq : bareOk s = q) :
    Calls Tryz.prog 67 #[fmV (formF s.kind), sqV s A c] w fun e w' => e = .returned (.bool q) ∧ Below w.heap.size w w' := by
  obtain ⟨k, pv, ps, it, f, d⟩ := s
  have hB : ∀ (x y : Obj), Below w.heap.size w ((w.alloc x).alloc y) := fun x y => ((Below.refl _ w).alloc (Nat.le_refl _) _).alloc (by simp) _
  dsimp only at hk ⊢
  unfold sqV
  dsimp only
  rcases hk with rfl | rfl | rfl | rfl | rfl
  · rw [fm1]
    cases d with
    | nil =>
      obtain rfl : true = q := by rw [← hq]; simp [bareOk]
      clear hq
      go_enter Tryz.func67, Tryz.ntmps67
      go_wp2
      go_ret
      exact ⟨rfl, hB _ _⟩
    | cons x d =>
      obtain rfl : false = q := by rw [← hq]; simp [bareOk]
      clear hq
      go_enter Tryz.func67, Tryz.ntmps67
      go_wp2
      go_ret
      exact ⟨rfl, hB _ _⟩
  · rw [fm2]
    by_cases h1 : pv = 0
    · subst h1
      cases ps with
      | nil =>
        cases it with
        | nil =>
          cases d with
          | nil =>
            obtain rfl : true = q := by rw [← hq]; simp [bareOk]
            clear hq
            go_enter Tryz.func67, Tryz.ntmps67
            go_wp2
            go_ret
            exact ⟨rfl, hB _ _⟩
          | cons x d =>
            obtain rfl : false = q := by rw [← hq]; simp [bareOk]
            clear hq
            go_enter Tryz.func67, Tryz.ntmps67
            go_wp2
            go_ret
            exact ⟨rfl, hB _ _⟩
        | cons x it =>
          obtain rfl : false = q := by rw [← hq]; simp [bareOk]
          clear hq
          go_enter Tryz.func67, Tryz.ntmps67
          go_wp2
          go_ret
          exact ⟨rfl, hB _ _⟩
      | cons x ps =>
        obtain rfl : false = q := by rw [← hq]; simp [bareOk]
        clear hq
        obtain ⟨n, hn⟩ : ∃ n, (x :: ps).length = n := ⟨_, rfl⟩
        have hn2 : 0 < n := by rw [← hn]; simp
        have t1 : ((n : Int) == 0) = false := beq_false_of_ne (by omega)
        rw [hn]
        clear hn
        go_enter Tryz.func67, Tryz.ntmps67
        go_wp2
        go_ret
        exact ⟨rfl, hB _ _⟩
    · obtain rfl : false = q := by rw [← hq]; simp [bareOk, h1]
      have t1 := priv_ne h1
      clear hq h1
      go_enter Tryz.func67, Tryz.ntmps67
      go_wp2
      go_ret
      exact ⟨rfl, hB _ _⟩
  · rw [fm3]
    obtain rfl : true = q := by rw [← hq]; simp [bareOk]
    clear hq
    go_enter Tryz.func67, Tryz.ntmps67
    go_wp2
    go_ret
    exact ⟨rfl, hB _ _⟩
  · rw [fm4]
    by_cases h1 : pv = 0
    · subst h1
      cases ps with
      | nil =>
        cases it with
        | nil =>
          obtain rfl : true = q := by rw [← hq]; simp [bareOk]
          clear hq
          go_enter Tryz.func67, Tryz.ntmps67
          go_wp2
          go_ret
          exact ⟨rfl, hB _ _⟩
        | cons x it =>
          obtain rfl : false = q := by rw [← hq]; simp [bareOk]
          clear hq
          go_enter Tryz.func67, Tryz.ntmps67
          go_wp2
          go_ret
          exact ⟨rfl, hB _ _⟩
      | cons x ps =>
        obtain rfl : false = q := by rw [← hq]; simp [bareOk]
        clear hq
        obtain ⟨n, hn⟩ : ∃ n, (x :: ps).length = n := ⟨_, rfl⟩
        have hn2 : 0 < n := by rw [← hn]; simp
        have t1 : ((n : Int) == 0) = false := beq_false_of_ne (by omega)
        rw [hn]
        clear hn
        go_enter Tryz.func67, Tryz.ntmps67
        go_wp2
        go_ret
        exact ⟨rfl, hB _ _⟩
    · obtain rfl : false = q := by rw [← hq]; simp [bareOk, h1]
      have t1 := priv_ne h1
      clear hq h1
      go_enter Tryz.func67, Tryz.ntmps67
      go_wp2
      go_ret
      exact ⟨rfl, hB _ _⟩
  · rw [fm5]
    by_cases h1 : pv = 0
    · subst h1
      cases ps with
      | nil =>
        cases d with
        | nil =>
          obtain rfl : true = q := by rw [← hq]; simp [bareOk]
          clear hq
          go_enter Tryz.func67, Tryz.ntmps67
          go_wp2
          go_ret
          exact ⟨rfl, hB _ _⟩
        | cons x d =>
          obtain rfl : false = q := by rw [← hq]; simp [bareOk]
          clear hq
          go_enter Tryz.func67, Tryz.ntmps67
          go_wp2
          go_ret
          exact ⟨rfl, hB _ _⟩
      | cons x ps =>
        obtain rfl : false = q := by rw [← hq]; simp [bareOk]
        clear hq
        obtain ⟨n, hn⟩ : ∃ n, (x :: ps).length = n := ⟨_, rfl⟩
        have hn2 : 0 < n := by rw [← hn]; simp
        have t1 : ((n : Int) == 0) = false := beq_false_of_ne (by omega)
        rw [hn]
        clear hn
        go_enter Tryz.func67, Tryz.ntmps67
        go_wp2
        go_ret
        exact ⟨rfl, hB _ _⟩
    · obtain rfl : false = q := by rw [← hq]; simp [bareOk, h1]
      have t1 := priv_ne h1
      clear hq h1
      go_enter Tryz.func67, Tryz.ntmps67
      go_wp2
      go_ret
      exact ⟨rfl, hB _ _⟩

theorem idx_mem (l : List UInt8) (c : UInt8) : (0 ≤ Lib.indexByte l c) ↔ c ∈ l := by
  induction l with
  | nil => simp [Lib.indexByte]
  | cons b l ih =>
    have := Lib.indexByte_ge l c
    unfold Lib.indexByte
    by_cases h : b = c
    · subst h; simp
    · have h2 : ¬ c = b := fun e => h e.symm
      rw [if_neg (by simpa using h)]
      simp only [List.mem_cons, h2, false_or, ← ih]
      by_cases h3 : Lib.indexByte l c = -1
      · rw [if_pos (by simpa using h3)]; omega
      · rw [if_neg (by simpa using h3)]; omega
theorem idx_in (c : UInt8) : (0 ≤ Lib.indexByte [79, 80, 88, 91, 93, 92, 94, 95] c) ↔ ([79, 80, 88, 91, 93, 92, 94, 95] : List UInt8).contains c = true := by
  rw [idx_mem, List.contains_iff_mem]
set_option maxRecDepth 100000 in
set_option maxHeartbeats 4000000 in
theorem ends_any (s : Sq) (A : Option Addr) (c : Nat) (q : Bool) (w : World) (hk : s.kind = 1 ∨ s.kind = 2 ∨ s.kind = 3 ∨ s.kind = 4 ∨ s.kind = 5) (hq : lastOk s = q) :
    Calls Tryz.prog 68 #[fmV (formF s.kind), sqV s A c] w fun e w' => e = .returned (.bool q) ∧ Below w.heap.size w w' := by
  have hB : ∀ (x y : Obj), Below w.heap.size w ((w.alloc x).alloc y) := fun x y => ((Below.refl _ w).alloc (Nat.le_refl _) _).alloc (by simp) _
  obtain ⟨q1, q5, q4, q0⟩ := last_q hq
  obtain ⟨k, pv, ps, it, f, d⟩ := s
  dsimp only at hk q1 q5 q4 ⊢
  have hf := f.toNat_lt
  unfold sqV
  dsimp only
  have key : (k = 1 ∨ k = 2 ∨ k = 3) ∨ k = 4 ∨ k = 5 := by omega
  clear hk q0
  rcases key with h | rfl | rfl
  · have E := Lib.hid (q1 h)
    clear q1 q5 q4 hq
    obtain ⟨n, hn⟩ : ∃ n, f.toNat = n := ⟨_, rfl⟩
    rw [hn] at E hf ⊢
    clear hn
    rcases h with rfl | rfl | rfl
    · rw [fm1]
      go_enter Tryz.func68, Tryz.ntmps68
      go_wp2
      all_goals
        go_ret
        refine ⟨ret_b ?_, hB _ _⟩
        rw [E.out, Bool.eq_iff_iff]
        simp
        omega
    · rw [fm2]
      go_enter Tryz.func68, Tryz.ntmps68
      go_wp2
      all_goals
        go_ret
        refine ⟨ret_b ?_, hB _ _⟩
        rw [E.out, Bool.eq_iff_iff]
        simp
        omega
    · rw [fm3]
      go_enter Tryz.func68, Tryz.ntmps68
      go_wp2
      all_goals
        go_ret
        refine ⟨ret_b ?_, hB _ _⟩
        rw [E.out, Bool.eq_iff_iff]
        simp
        omega
  · have E := Lib.hid (q4 rfl)
    clear q1 q5 q4 hq
    obtain ⟨n, hn⟩ : ∃ n, f.toNat = n := ⟨_, rfl⟩
    rw [hn] at E hf ⊢
    clear hn
    rw [fm4]
    go_enter Tryz.func68, Tryz.ntmps68
    go_wp2
    all_goals
      go_ret
      refine ⟨ret_b ?_, hB _ _⟩
      rw [E.out, Bool.eq_iff_iff]
      simp
  · obtain ⟨e1, e2⟩ := q5 rfl
    clear q1 q5 q4
    rw [fm5]
    cases it with
    | cons x it =>
      have E := Lib.hid (show q = (decide (48 ≤ f.toNat) && decide (f.toNat ≤ 126)) by
        by_cases h1 : 48 ≤ f.toNat
        · by_cases h2 : f.toNat ≤ 126
          · rw [(e2 h1 h2).1 (by simp)]; simp [h1, h2]
          · rw [e1 (by omega)]; simp [h2]
        · rw [e1 (by omega)]; simp [h1])
      clear e1 e2 hq
      obtain ⟨n, hn⟩ : ∃ n, f.toNat = n := ⟨_, rfl⟩
      rw [hn] at E hf ⊢
      clear hn
      go_enter Tryz.func68, Tryz.ntmps68
      go_wp2
      all_goals
        go_ret
        refine ⟨ret_b ?_, hB _ _⟩
        rw [E.out, Bool.eq_iff_iff]
        simp
        omega
    | nil =>
      clear e1 e2
      obtain ⟨x, hx⟩ : ∃ x, Lib.indexByte [79, 80, 88, 91, 93, 92, 94, 95] f = x := ⟨_, rfl⟩
      have hi := idx_in f
      rw [hx] at hi
      have HX := Lib.hid (show Lib.indexByte (⟨#[79, 80, 88, 91, 93, 92, 94, 95]⟩ : ByteArray).data.toList ((f.toNat : Int)).toNat.toUInt8 = x by rw [← hx]; congr 1; rw [Int.toNat_natCast]; simp)
      clear hx
      have HF := Lib.hid (show lastOk ⟨5, pv, ps, [], f, d⟩ = (btw 48 126 f && !([79, 80, 88, 91, 93, 92, 94, 95] : List UInt8).contains f) by simp [lastOk])
      by_cases h0 : 0 ≤ x
      · have E := Lib.hid (show q = false by rw [← hq, HF.out, hi.1 h0]; simp)
        clear hq hi HF
        go_enter Tryz.func68, Tryz.ntmps68
        go_wp2_with fail
        refine (Tryz.strings_IndexByte _ _ _).mono ?_
        rw [HX.out]
        rintro e w1 ⟨rfl, rfl⟩
        go_wp2_with fail
        go_ret
        exact ⟨ret_b E.out.symm, hB _ _⟩
      · have hc : ([79, 80, 88, 91, 93, 92, 94, 95] : List UInt8).contains f = false := by
          cases hh : ([79, 80, 88, 91, 93, 92, 94, 95] : List UInt8).contains f with
          | false => rfl
          | true => exact absurd (hi.2 hh) h0
        have E := Lib.hid (show q = (decide (48 ≤ f.toNat) && decide (f.toNat ≤ 126)) by rw [← hq, HF.out, hc]; simp [btw])
        clear hq hi HF hc
        obtain ⟨n, hn⟩ : ∃ n, f.toNat = n := ⟨_, rfl⟩
        rw [hn] at E hf HX ⊢
        clear hn
        go_enter Tryz.func68, Tryz.ntmps68
        go_wp2_with fail
        refine (Tryz.strings_IndexByte _ _ _).mono ?_
        rw [HX.out]
        rintro e w1 ⟨rfl, rfl⟩
        go_wp2_with fail
        all_goals
          go_ret
          refine ⟨ret_b ?_, hB _ _⟩
          rw [E.out, Bool.eq_iff_iff]
          simp
          omega
end Go.Proofs.YtmagokkegadmiaaGreatDoor
