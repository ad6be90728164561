/-
  Layer 11's mathematics: old forms: what a functional key's, a text's, and a plain key's are. Layer 3, walked: the program's isNone and paramsMay.
-/
import Derived.Test.YtbjmfhcgkpjcfaaDoorG07
import Derived.Test.YtbjmfhcgkpjcfaaDoorG08
import Derived.Test.YtbjmfhcgkpjcfaaDoorShelf
namespace Go.Proofs.YtbjmfhcgkpjcfaaDoor

theorem byt_btw {f : Int} {a b : Nat} (h0 : (a : Int) ≤ f) (h1 : f ≤ (b : Int)) (hb : b < 256) : btw a b (byt f) = true := by
  have h := byt_nat f (by omega) (by omega)
  rw [btw_iff]
  omega
theorem par_nums {l : List Int} (hl : l.length ≤ 16) (hn : ∀ n ∈ l, 0 ≤ n ∧ n ≤ 1114111) : parOk (l.map fun n => [n]) = true := by
  unfold parOk
  simp only [Bool.and_eq_true, decide_eq_true_eq, List.all_eq_true]
  refine ⟨⟨by rw [List.length_map]; exact hl, fun h => ?_⟩, fun p hp => ?_⟩
  · have : (-1 : Int) ∈ l := by
      match l, h with
      | [x], h =>
        simp at h
        simp [h]
    have := (hn _ this).1
    omega
  · obtain ⟨n, hn', rfl⟩ := List.mem_map.1 hp
    have := hn n hn'
    exact ⟨⟨by simp, by simp⟩, fun m hm => by rw [List.mem_singleton.1 hm]; exact ⟨by omega, by omega⟩⟩
/-- A CSI sequence of numbers may be. -/
theorem may_csi {f : Int} {l : List Int} (h0 : 64 ≤ f) (h1 : f ≤ 126) (hl : l.length ≤ 16) (hn : ∀ n ∈ l, 0 ≤ n ∧ n ≤ 1114111) : mayS (sqN 1 f l) = 0 := by
  have hp := par_nums hl hn
  have hb := byt_btw (f := f) (a := 64) (b := 126) h0 h1 (by decide)
  have ho : okS (sqN 1 f l) = true := by
    unfold okS sqN
    simp [privOk, lastOk, bareOk, hp, hb]
  unfold mayS
  rw [if_neg (by simp [sqN]), if_pos ho]
theorem may_ss3 {f : Int} (h0 : 64 ≤ f) (h1 : f ≤ 126) : mayS (sqN 2 f []) = 0 := by
  have hb := byt_btw (f := f) (a := 64) (b := 126) h0 h1 (by decide)
  have ho : okS (sqN 2 f []) = true := by
    unfold okS sqN
    simp [privOk, lastOk, bareOk, hb, parOk]
  unfold mayS
  rw [if_neg (by simp [sqN]), if_pos ho]
theorem seqB_is {k f : Int} {l : List Int} (h : mayS (sqN k f l) = 0) : seqB k f l = putS (sqN k f l) := if_pos h
theorem seqB_ne {k f : Int} {l : List Int} (h : mayS (sqN k f l) = 0) : seqB k f l ≠ [] := fun e => by
  have := putS_ne (s := sqN k f l)
  rw [← seqB_is h, e] at this
  simp at this
/-- What a functional key's entry has. -/
def FormE (e : En) : Prop := (e.kind = 4 → 1 ≤ e.num ∧ e.num ≤ 100) ∧ (e.kind = 3 → 65 ≤ e.fin ∧ e.fin ≤ 90) ∧ (e.kind = 5 → 65 ≤ e.fin ∧ e.fin ≤ 122)
instance (e : En) : Decidable (FormE e) := by unfold FormE; infer_instance
theorem form_fin : ∀ k : Fin 111, FormE (lookE (57344 + (k.1 : Int))) := by decide +kernel
theorem form_e (c : Int) : FormE (lookE c) := by
  by_cases h : c < 57344 ∨ 57455 ≤ c
  · rw [look_out h]
    have := rest_rng c
    unfold FormE
    simp only
    omega
  · obtain ⟨k, rfl⟩ : ∃ k : Fin 111, c = 57344 + k.1 := ⟨⟨(c - 57344).toNat, by omega⟩, by simp; omega⟩
    exact form_fin k
/-- A functional key's sequence. -/
def funcQ (m : Mo) (e : En) (o : Int) : Sq :=
  if e.kind = 4 then (if o = 0 then sqN 1 126 [e.num] else sqN 1 126 [e.num, 1 + o])
  else if 0 < o then sqN 1 e.fin [1, 1 + o] else if (m.cursor || decide (80 ≤ e.fin)) = true then sqN 2 e.fin [] else sqN 1 e.fin []
theorem func_put (m : Mo) {c o : Int} (hk : (lookE c).kind = 3 ∨ (lookE c).kind = 4) (h0 : 0 ≤ o) (h1 : o < 8) : mayS (funcQ m (lookE c) o) = 0 ∧ funcG m (lookE c) o = putS (funcQ m (lookE c) o) := by
  obtain ⟨f4, f3, _⟩ := form_e c
  unfold funcG funcQ
  by_cases h4 : (lookE c).kind = 4
  · have hb := f4 h4
    rw [if_pos h4, if_pos h4]
    by_cases ho : o = 0
    · have hm : mayS (sqN 1 126 [(lookE c).num]) = 0 := may_csi (by decide) (by decide) (by simp) (by simp; omega)
      rw [if_pos ho, if_pos ho]
      exact ⟨hm, seqB_is hm⟩
    · have hm : mayS (sqN 1 126 [(lookE c).num, 1 + o]) = 0 := may_csi (by decide) (by decide) (by simp) (by simp; omega)
      rw [if_neg ho, if_neg ho]
      exact ⟨hm, seqB_is hm⟩
  · have hb := f3 (by omega)
    rw [if_neg h4, if_neg h4]
    by_cases ho : 0 < o
    · have hm : mayS (sqN 1 (lookE c).fin [1, 1 + o]) = 0 := may_csi (by omega) (by omega) (by simp) (by simp; omega)
      rw [if_pos ho, if_pos ho]
      exact ⟨hm, seqB_is hm⟩
    · rw [if_neg ho, if_neg ho]
      by_cases hc : (m.cursor || decide (80 ≤ (lookE c).fin)) = true
      · have hm : mayS (sqN 2 (lookE c).fin []) = 0 := may_ss3 (by omega) (by omega)
        rw [if_pos hc, if_pos hc]
        exact ⟨hm, seqB_is hm⟩
      · have hm : mayS (sqN 1 (lookE c).fin []) = 0 := may_csi (by omega) (by omega) (by simp) (by simp)
        rw [if_neg hc, if_neg hc]
        exact ⟨hm, seqB_is hm⟩
/-- A bare press of a key. -/
theorem may_press {c n : Int} (hk : (lookE c).kind ≠ 0) (h0 : 0 ≤ n) (h1 : n ≤ 255) : mayK ⟨c, n, 1, 0, 0, ByteArray.empty⟩ = true :=
  (may_parts _).2 ⟨⟨hk, h0, h1, by simp, by simp⟩, .inl rfl, .inl rfl, clean_nil⟩
theorem leg_func (m : Mo) {c o : Int} (hk : (lookE c).kind = 3 ∨ (lookE c).kind = 4) (h0 : 0 ≤ o) (h1 : o < 8) : legL m ⟨c, o, 1, 0, 0, ByteArray.empty⟩ = putS (funcQ m (lookE c) o) := by
  rw [leg_yes (may_press (by omega) h0 (by omega)) (by simp)]
  simp only
  unfold legG
  rw [if_neg (by omega)]
  unfold legE
  rw [if_neg (by omega), if_neg (by omega), if_pos hk, old_at h0, show o % 8 = o by omega]
  exact (func_put m hk h0 h1).2
/-- A text's character is a code point. -/
theorem text_pt {c : Int} (h : (lookE c).kind = 1) : isPt c = true := by
  by_cases ho : c < 57344 ∨ 57455 ≤ c
  · rw [look_out ho] at h
    simp only at h
    unfold restN at h
    by_cases h1 : c = 9 ∨ c = 13 ∨ c = 27 ∨ c = 127
    · rw [if_pos h1] at h; cases h
    · rw [if_neg h1, if_neg (by omega), if_neg (by omega)] at h
      by_cases h2 : isPtK c = false ∨ c < 32 ∨ 127 ≤ c ∧ c ≤ 159 ∨ 57344 ≤ c ∧ c ≤ 63743
      · rw [if_pos h2] at h; cases h
      · have h3 : isPtK c = true := by
          cases e : isPtK c with
          | true => rfl
          | false => exact absurd (.inl e) h2
        have h4 := of_decide_eq_true h3
        exact (isPt_iff c).2 (by omega)
  · exfalso
    obtain ⟨k, rfl⟩ : ∃ k : Fin 111, c = 57344 + k.1 := ⟨⟨(c - 57344).toNat, by omega⟩, by simp; omega⟩
    have := code_all k
    omega
theorem shown_pt {code shift : Int} (h : (lookE code).kind = 1) (hs : shift = 0 ∨ textK shift = true) (s1 : Bool) : isPt (shownC code shift s1) = true := by
  unfold shownC
  split
  · exact text_pt h
  · split
    next h2 =>
      rcases hs with hs | hs
      · exact absurd hs h2
      · exact text_pt (eq_of_beq hs)
    next =>
      split
      next h3 => exact (isPt_iff _).2 (by omega)
      next => exact text_pt h
theorem put_ne {c : Int} (h : isPt c = true) : putL c ≠ [] := fun e => by
  have := putL_length h
  have := (cnt_bd c).1
  rw [e] at *
  simp at *
  omega
theorem shownG_ne {code shift : Int} (h : (lookE code).kind = 1) (hs : shift = 0 ∨ textK shift = true) (s1 c4 : Bool) (t : List UInt8) : shownG code shift s1 c4 t ≠ [] := by
  unfold shownG
  split
  next h1 => exact h1.2
  next =>
    split
    · simp
    · exact put_ne (shown_pt h hs s1)
theorem tab_may : mayS (sqN 1 90 []) = 0 := by decide +kernel
theorem plainG_ne (m : Mo) (code : Int) (s1 c4 : Bool) : plainG m code s1 c4 ≠ [] := by
  unfold plainG
  repeat' split
  all_goals first
    | exact seqB_ne tab_may
    | simp
/-- Without Alt, and with it. -/
theorem alt_bits {n : Int} (h0 : 0 ≤ n) (h1 : n ≤ 255) : (0 ≤ n - n / 2 % 2 * 2 ∧ n - n / 2 % 2 * 2 + 2 ≤ 255) ∧ (hasN (n - n / 2 % 2 * 2) 2 = false ∧ hasN (n - n / 2 % 2 * 2 + 2) 2 = true) ∧ hasN (n - n / 2 % 2 * 2 + 2) 1 = hasN (n - n / 2 % 2 * 2) 1 ∧ hasN (n - n / 2 % 2 * 2 + 2) 4 = hasN (n - n / 2 % 2 * 2) 4 := by
  obtain ⟨k, hk⟩ : ∃ k, n - n / 2 % 2 * 2 = k := ⟨_, rfl⟩
  have hb : 0 ≤ k ∧ k + 2 ≤ 255 ∧ k / 2 % 2 = 0 := by omega
  rw [hk, has_at (by omega), has_at (by omega), has_at (by omega), has_at (by omega), has_at (by omega), has_at (by omega)]
  refine ⟨by omega, ⟨?_, ?_⟩, ?_, ?_⟩
  · rw [show k / 2 % 2 = 0 by omega]; rfl
  · rw [show (k + 2) / 2 % 2 = 1 by omega]; rfl
  · rw [show (k + 2) / 1 % 2 = k / 1 % 2 by omega]
  · rw [show (k + 2) / 4 % 2 = k / 4 % 2 by omega]
theorem leg_alt (m : Mo) {k : Ky} (h : mayK k = true) (h3 : k.typ ≠ 3) (hk : (lookE k.code).kind = 1 ∨ (lookE k.code).kind = 2) :
    legL m { k with mods := k.mods - k.mods / 2 % 2 * 2 } ≠ [] ∧ legL m { k with mods := k.mods - k.mods / 2 % 2 * 2 + 2 } = 27 :: legL m { k with mods := k.mods - k.mods / 2 % 2 * 2 } := by
  obtain ⟨⟨_, a, b, _, _⟩, hs, _⟩ := (may_parts k).1 h
  obtain ⟨⟨e1, e2⟩, ⟨e3, e4⟩, e5, e6⟩ := alt_bits a b
  rw [leg_yes (may_mods h (n := k.mods - k.mods / 2 % 2 * 2) e1 (by omega)) h3, leg_yes (may_mods h (n := k.mods - k.mods / 2 % 2 * 2 + 2) (by omega) e2) h3]
  simp only [e3, e4, e5, e6]
  unfold legG
  rw [if_neg (by omega), if_neg (by omega)]
  unfold legE
  by_cases h1 : (lookE k.code).kind = 1
  · rw [if_pos h1, if_pos h1]
    unfold aheadG
    rw [if_neg (by decide), if_pos rfl]
    exact ⟨shownG_ne h1 hs _ _ _, rfl⟩
  · rw [if_neg h1, if_neg h1, if_pos (by omega), if_pos (by omega)]
    unfold aheadG
    rw [if_neg (by decide), if_pos rfl]
    exact ⟨plainG_ne _ _ _ _, rfl⟩
/-- A text, without modifiers but Shift, and Ctrl. -/
theorem text_bits (n : Int) : hasN (n % 2) 2 = false ∧ hasN (n % 2) 4 = false ∧ hasN (n % 2 + 4) 2 = false ∧ hasN (n % 2 + 4) 4 = true ∧ hasN (n % 2 + 4) 1 = hasN (n % 2) 1 := by
  rw [has_at (by omega), has_at (by omega), has_at (by omega), has_at (by omega), has_at (by omega), has_at (by omega)]
  refine ⟨?_, ?_, ?_, ?_, ?_⟩
  · rw [show n % 2 / 2 % 2 = 0 by omega]; rfl
  · rw [show n % 2 / 4 % 2 = 0 by omega]; rfl
  · rw [show (n % 2 + 4) / 2 % 2 = 0 by omega]; rfl
  · rw [show (n % 2 + 4) / 4 % 2 = 1 by omega]; rfl
  · rw [show (n % 2 + 4) / 1 % 2 = n % 2 / 1 % 2 by omega]
theorem leg_text (m : Mo) {k : Ky} (h : mayK k = true) (h3 : k.typ ≠ 3) (hk : (lookE k.code).kind = 1) (hc : hasN k.mods 2 = false) : legL m k = shownG k.code k.shift (hasN k.mods 1) (hasN k.mods 4) k.text.data.toList := by
  rw [leg_yes h h3]
  unfold legG
  rw [if_neg (by omega)]
  unfold legE
  rw [if_pos hk, hc]
  rfl
end Go.Proofs.YtbjmfhcgkpjcfaaDoor
namespace Go.Proofs.YtbjmfhcgkpjcfaaDoor
open Go.RowKit

theorem none_key (ps : List (List Int)) : ps.length ≠ 1 ∧ decide (ps = [[-1]]) = false ∨ ∃ (h : ps.length = 1), ((ps[0]'(by omega)).length ≠ 1 ∧ decide (ps = [[-1]]) = false ∨ ∃ (h2 : (ps[0]'(by omega)).length = 1), ((ps[0]'(by omega))[0]'(by omega) ≠ -1 ∧ decide (ps = [[-1]]) = false ∨ (ps[0]'(by omega))[0]'(by omega) = -1 ∧ decide (ps = [[-1]]) = true)) := by
  by_cases h1 : ps.length = 1
  · refine .inr ⟨h1, ?_⟩
    match ps, h1 with
    | [p], _ =>
      by_cases h2 : p.length = 1
      · refine .inr ⟨h2, ?_⟩
        match p, h2 with
        | [x], _ =>
          by_cases h3 : x = -1
          · exact .inr ⟨h3, by rw [h3]; rfl⟩
          · exact .inl ⟨h3, decide_eq_false (by simpa using h3)⟩
      · exact .inl ⟨h2, decide_eq_false (fun e => h2 (by injection e with e; rw [e]; rfl))⟩
  · exact .inl ⟨h1, decide_eq_false (fun e => h1 (by rw [e]; rfl))⟩

set_option maxRecDepth 100000 in
set_option maxHeartbeats 4000000 in
theorem isNone_any (A : Option Addr) (n c : Nat) (ps : List (List Int)) (q : Bool) (w : World) (hn : ps.length = n) (hq : decide (ps = [[-1]]) = q) (hl : n ≤ 4294967296) (hr : RdP w A ps) :
    Calls Tryd.prog 68 #[.slice A n c] w fun e w' => e = .returned (.bool q) ∧ w = w' := by
  subst hn
  rcases none_key ps with ⟨h1, h⟩ | ⟨h1, ⟨h2, h⟩ | ⟨h2, ⟨h3, h⟩ | ⟨h3, h⟩⟩⟩
  all_goals
    rw [h] at hq
    subst hq
    clear h
  · have t1 : ((ps.length : Int) == 1) = false := beq_false_of_ne (by omega)
    clear h1
    go_enter Tryd.func68, Tryd.ntmps68
    go_wp2
    go_ret
    exact ⟨rfl, rfl⟩
  · obtain ⟨b, o, hA, hb, hcc⟩ := hr (by omega)
    obtain ⟨A', c', hck, hrk⟩ := hcc 0 (by omega)
    rw [Nat.add_zero] at hck
    cases hA
    obtain ⟨m, hm⟩ : ∃ m, (ps[0]'(by omega)).length = m := ⟨_, rfl⟩
    rw [hm] at hck h2
    clear hm hcc hrk
    have t1 : ((ps.length : Int) == 1) = true := beq_iff_eq.2 (by omega)
    have p0 : 0 < ps.length := by omega
    have t2 : ((m : Int) == 1) = false := beq_false_of_ne (by omega)
    clear h1 h2
    go_enter Tryd.func68, Tryd.ntmps68
    go_wp2
    go_ret
    exact ⟨rfl, rfl⟩
  all_goals
    obtain ⟨b, o, hA, hb, hcc⟩ := hr (by omega)
    obtain ⟨A', c', hck, hrk⟩ := hcc 0 (by omega)
    rw [Nat.add_zero] at hck
    obtain ⟨b2, o2, hA2, hb2, hc2⟩ := hrk.int_at (by omega)
    have hc3 := hc2 0 (by omega)
    rw [Nat.add_zero] at hc3
    cases hA
    cases hA2
    obtain ⟨x, hx⟩ : ∃ x, (ps[0]'(by omega))[0]'(by omega) = x := ⟨_, rfl⟩
    rw [hx] at hc3 h3
    rw [h2] at hck
    have t1 : ((ps.length : Int) == 1) = true := beq_iff_eq.2 (by omega)
    have p0 : 0 < ps.length := by omega
    clear hx hc2 hcc hrk h2 h1
  · have t3 : (x == -1) = false := beq_false_of_ne h3
    clear h3
    go_enter Tryd.func68, Tryd.ntmps68
    go_wp2
    go_ret
    exact ⟨rfl, rfl⟩
  · subst h3
    go_enter Tryd.func68, Tryd.ntmps68
    go_wp2
    go_ret
    exact ⟨rfl, rfl⟩

theorem fold_min (l : List Int) : ∀ a m : Int, m ≤ l.foldl min a ↔ m ≤ a ∧ ∀ x ∈ l, m ≤ x := by
  induction l with
  | nil => intro a m; simp
  | cons c l ih =>
    intro a m
    rw [List.foldl_cons, ih]
    simp only [List.mem_cons, forall_eq_or_imp]
    exact ⟨fun h => ⟨by omega, by omega, h.2⟩, fun h => ⟨by omega, h.2.2⟩⟩
theorem fold_max (l : List Int) : ∀ a m : Int, l.foldl max a ≤ m ↔ a ≤ m ∧ ∀ x ∈ l, x ≤ m := by
  induction l with
  | nil => intro a m; simp
  | cons c l ih =>
    intro a m
    rw [List.foldl_cons, ih]
    simp only [List.mem_cons, forall_eq_or_imp]
    exact ⟨fun h => ⟨by omega, by omega, h.2⟩, fun h => ⟨by omega, h.2.2⟩⟩
theorem part_minmax {p : List Int} (h : 1 ≤ p.length) : p.all numOk = true ↔ -1 ≤ Lib.minOf p ∧ Lib.maxOf p ≤ 1114111 := by
  match p, h with
  | a :: p, _ =>
    unfold Lib.minOf Lib.maxOf
    rw [fold_min, fold_max]
    simp only [List.headD_cons, List.all_eq_true, numOk_iff]
    constructor
    · intro h
      exact ⟨⟨(h a (List.mem_cons_self ..)).1, fun x hx => (h x hx).1⟩, (h a (List.mem_cons_self ..)).2, fun x hx => (h x hx).2⟩
    · intro h x hx
      exact ⟨h.1.2 x hx, h.2.2 x hx⟩

set_option maxRecDepth 100000 in
set_option maxHeartbeats 4000000 in
theorem pparams_any (A : Option Addr) (c : Nat) (ps : List (List Int)) (q : Bool) (w : World) (hq : parOk ps = q) (hl : ps.length ≤ 4294967296) (hp : ∀ p ∈ ps, p.length ≤ 4294967296) (hr : RdP w A ps) :
    Calls Tryd.prog 51 #[.slice A ps.length c] w fun e w' => e = .returned (.bool q) ∧ w = w' := by
  by_cases h16 : 16 < ps.length
  · obtain rfl : false = q := (par_long h16).symm.trans hq
    clear hq
    go_enter Tryd.func51, Tryd.ntmps51
    go_wp2
    go_ret
    exact ⟨rfl, rfl⟩
  · have HQ := Lib.hid hq
    clear hq
    cases hN : decide (ps = [[-1]]) with
    | true =>
      have HN := Lib.hid hN
      have he := of_decide_eq_true hN
      obtain rfl : false = q := by rw [← HQ.out, he]; rfl
      clear hN he
      go_enter Tryd.func51, Tryd.ntmps51
      go_wp2_with fail
      refine (isNone_any A _ c ps true _ rfl HN.out hl hr).mono ?_
      rintro e w1 ⟨rfl, rfl⟩
      go_wp2_with fail
      go_ret
      exact ⟨rfl, rfl⟩
    | false =>
      have HN := Lib.hid hN
      have HNE := Lib.hid (of_decide_eq_false hN)
      clear hN
      go_enter Tryd.func51, Tryd.ntmps51
      go_wp2_with fail
      refine (isNone_any A _ c ps false _ rfl HN.out hl hr).mono ?_
      rintro e w1 ⟨rfl, rfl⟩
      go_wp2_with fail
      go_loop [14] (fun i => ∃ k : Nat, k ≤ ps.length ∧ i = .int .i64 k ∧ (ps.take k).all partB = true) (fun i => ps.length - (intOf i).toNat)
      case atStart => exact ⟨0, Nat.zero_le _, rfl, rfl⟩
      case round =>
        obtain ⟨k, hk, rfl, hall⟩ := hrel
        have HA := Lib.hid hall
        clear hall
        by_cases hlt : k < ps.length
        · obtain ⟨b, o, hA, hb, hcc⟩ := hr (by omega)
          cases hA
          obtain ⟨A', c', hck, hrk⟩ := hcc k hlt
          obtain ⟨p, hp'⟩ : ∃ p, (ps[k]'hlt) = p := ⟨_, rfl⟩
          have hpl := hp _ (List.getElem_mem hlt)
          rw [hp'] at hck hrk hpl
          have HP := Lib.hid hp'
          clear hp' hcc
          obtain ⟨n, hn⟩ : ∃ n, p.length = n := ⟨_, rfl⟩
          rw [hn] at hck hpl
          have HLN := Lib.hid hn
          clear hn
          by_cases hs : 1 ≤ n ∧ n ≤ 8
          · obtain ⟨n1, n8⟩ := hs
            obtain ⟨b2, o2, hA2, hb2, hc2⟩ := hrk.int_at (by rw [HLN.out]; omega)
            cases hA2
            have HC2 := Lib.hid (fun j (hj : j < p.length) => (hc2 j hj).trans (show some (Value.int .i64 p[j]) = some (.int .i64 (p.getD j 0)) by rw [List.getD_eq_getElem?_getD, List.getElem?_eq_getElem hj]; rfl))
            clear hc2
            have HT := Lib.hid (show p.take n = p from List.take_of_length_le (by rw [HLN.out]; omega))
            have HM := Lib.hid (part_minmax (p := p) (by rw [HLN.out]; omega))
            obtain ⟨mn, hmn⟩ : ∃ mn, Lib.minOf (p.take n) = mn := ⟨_, rfl⟩
            obtain ⟨mx, hmx⟩ : ∃ mx, Lib.maxOf (p.take n) = mx := ⟨_, rfl⟩
            have HMN := Lib.hid hmn
            have HMX := Lib.hid hmx
            clear hmn hmx
            by_cases m1 : -1 ≤ mn
            · by_cases m2 : mx ≤ 1114111
              · have E := Lib.hid (show (ps.take (k + 1)).all partB = true by
                  rw [List.take_succ_eq_append_getElem hlt, List.all_append, HA.out, HP.out]
                  simp only [List.all_cons, List.all_nil, Bool.and_true, Bool.true_and]
                  refine partB_yes (by rw [HLN.out]; omega) (by rw [HLN.out]; omega) (HM.out.2 ?_)
                  have e1 := HMN.out
                  have e2 := HMX.out
                  rw [HT.out] at e1 e2
                  rw [e1, e2]
                  exact ⟨m1, m2⟩)
                go_wp2_with fail
                refine (Tryd.slices_Min_int _ _ n _ p _ (by omega) (by rw [HLN.out]; omega) (by omega) HC2.out).mono ?_
                rw [HMN.out]
                rintro e w1 ⟨rfl, rfl⟩
                go_wp2_with fail
                refine (Tryd.slices_Max_int _ _ n _ p _ (by omega) (by rw [HLN.out]; omega) (by omega) HC2.out).mono ?_
                rw [HMX.out]
                rintro e w1 ⟨rfl, rfl⟩
                go_wp2_with fail
                go_round
                case rel => exact ⟨k + 1, by omega, by go_num, E.out⟩
                case measure => simp [intOf]; omega
              · have E := Lib.hid (show false = q by
                  rw [← HQ.out]
                  refine (par_no hlt ?_).symm
                  rw [HP.out]
                  cases hB : partB p with
                  | false => rfl
                  | true =>
                    exfalso
                    unfold partB at hB
                    simp only [Bool.and_eq_true] at hB
                    have := (HM.out.1 hB.2).2
                    have e2 := HMX.out
                    rw [HT.out] at e2
                    omega)
                go_wp2_with fail
                refine (Tryd.slices_Min_int _ _ n _ p _ (by omega) (by rw [HLN.out]; omega) (by omega) HC2.out).mono ?_
                rw [HMN.out]
                rintro e w1 ⟨rfl, rfl⟩
                go_wp2_with fail
                refine (Tryd.slices_Max_int _ _ n _ p _ (by omega) (by rw [HLN.out]; omega) (by omega) HC2.out).mono ?_
                rw [HMX.out]
                rintro e w1 ⟨rfl, rfl⟩
                go_wp2_with fail
                go_ret
                exact ⟨ret_b E.out, rfl⟩
            · have E := Lib.hid (show false = q by
                rw [← HQ.out]
                refine (par_no hlt ?_).symm
                rw [HP.out]
                cases hB : partB p with
                | false => rfl
                | true =>
                  exfalso
                  unfold partB at hB
                  simp only [Bool.and_eq_true] at hB
                  have := (HM.out.1 hB.2).1
                  have e2 := HMN.out
                  rw [HT.out] at e2
                  omega)
              go_wp2_with fail
              refine (Tryd.slices_Min_int _ _ n _ p _ (by omega) (by rw [HLN.out]; omega) (by omega) HC2.out).mono ?_
              rw [HMN.out]
              rintro e w1 ⟨rfl, rfl⟩
              go_wp2_with fail
              go_ret
              exact ⟨ret_b E.out, rfl⟩
          · have E := Lib.hid (show false = q by
              rw [← HQ.out]
              refine (par_no hlt ?_).symm
              rw [HP.out]
              exact part_len (by rw [HLN.out]; exact hs))
            by_cases n1 : n < 1
            · clear hs
              go_wp2_with fail
              go_ret
              exact ⟨ret_b E.out, rfl⟩
            · have n8 : 8 < n := by omega
              clear hs
              go_wp2_with fail
              go_ret
              exact ⟨ret_b E.out, rfl⟩
        · have E := Lib.hid (show true = q by
            have := HA.out
            rw [List.take_of_length_le (by omega)] at this
            rw [← HQ.out]
            exact (parOk_yes (by omega) HNE.out this).symm)
          go_wp2_with fail
          go_ret
          exact ⟨ret_b E.out, rfl⟩
end Go.Proofs.YtbjmfhcgkpjcfaaDoor
