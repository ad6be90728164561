/-
  Layer 1's mathematics: decimal figures there and back; noughts ahead; figures of sixteen there and back.
-/
import Derived.Test.YtadmokikbajenaaDoorNumU
import Derived.Test.YtadmokikbajenaaDoorNumL
import Derived.Test.YtadmokikbajenaaDoorNumX
namespace Go.Proofs.YtadmokikbajenaaDoor
open Go.RowKit

theorem digit_isD (k : Nat) (h : k < 10) : isD (UInt8.ofNat (48 + k)) = true ∧ (UInt8.ofNat (48 + k)).toNat - 48 = k := by
  have e : (UInt8.ofNat (48 + k)).toNat = 48 + k := UInt8.toNat_ofNat_of_lt' (by show 48 + k < 256; omega)
  unfold isD
  rw [e]
  exact ⟨decide_eq_true (by omega), by omega⟩
theorem dec_step (u : Nat) (h : ¬ u < 10) : Lib.decDigits u = Lib.decDigits (u / 10) ++ [UInt8.ofNat (48 + u % 10)] := by rw [Lib.decDigits, dif_neg h]
theorem dec_small (u : Nat) (h : u < 10) : Lib.decDigits u = [UInt8.ofNat (48 + u)] := by rw [Lib.decDigits, dif_pos h]
theorem dec_all (u : Nat) : ∀ c ∈ Lib.decDigits u, isD c = true := by
  induction u using Nat.strongRecOn with
  | _ u ih =>
    by_cases h : u < 10
    · rw [dec_small u h]
      intro c hc
      rw [List.mem_singleton] at hc
      subst hc
      exact (digit_isD u h).1
    · rw [dec_step u h]
      intro c hc
      rcases List.mem_append.1 hc with hc | hc
      · exact ih (u / 10) (by omega) c hc
      · rw [List.mem_singleton] at hc
        subst hc
        exact (digit_isD (u % 10) (by omega)).1
theorem dec_fold (u : Nat) : (Lib.decDigits u).foldl dstep 0 = min u 1114111 := by
  induction u using Nat.strongRecOn with
  | _ u ih =>
    by_cases h : u < 10
    · rw [dec_small u h, List.foldl_cons, List.foldl_nil, dstep, (digit_isD u h).2]; omega
    · rw [dec_step u h, List.foldl_append, ih (u / 10) (by omega), List.foldl_cons, List.foldl_nil, dstep, (digit_isD (u % 10) (by omega)).2]; omega
theorem dec_pos (u : Nat) : 1 ≤ (Lib.decDigits u).length := by
  by_cases h : u < 10
  · rw [dec_small u h]; simp
  · rw [dec_step u h]; simp
theorem dec_mono (v : Nat) : ∀ u, u ≤ v → (Lib.decDigits u).length ≤ (Lib.decDigits v).length := by
  induction v using Nat.strongRecOn with
  | _ v ih =>
    intro u hu
    by_cases h : v < 10
    · rw [dec_small v h, dec_small u (by omega)]; simp
    · by_cases h2 : u < 10
      · rw [dec_small u h2]; exact dec_pos v
      · rw [dec_step v h, dec_step u h2, List.length_append, List.length_append]
        exact Nat.add_le_add_right (ih (v / 10) (by omega) (u / 10) (by omega)) _

/-- Figures, and behind them what is none. -/
theorem take_text (n : Int) (h : 0 ≤ n) (more : List UInt8) (hm : more.head?.any isD = false) : (satv (textL n ++ more) : Int) = min n 1114111 ∧ digs (textL n ++ more) = (textL n).length := by
  have ht : textL n = Lib.decDigits n.toNat := if_neg (by omega)
  have hw : (textL n ++ more).takeWhile isD = textL n := by
    rw [List.takeWhile_append_of_pos (fun c hc => dec_all n.toNat c (by rw [← ht]; exact hc))]
    have : more.takeWhile isD = [] := by
      cases more with
      | nil => rfl
      | cons c r =>
        simp only [List.head?_cons, Option.any_some] at hm
        rw [List.takeWhile_cons_of_neg (by rw [hm]; simp)]
    rw [this, List.append_nil]
  unfold satv digs
  rw [hw]
  refine ⟨?_, rfl⟩
  rw [ht, dec_fold]
  omega
theorem zeros_fold (k : Nat) (l : List UInt8) : (List.replicate k (48 : UInt8) ++ l).foldl dstep 0 = l.foldl dstep 0 := by
  induction k with
  | zero => rfl
  | succ k ih => rw [List.replicate_succ, List.cons_append, List.foldl_cons]; exact ih
theorem take_zeros (k : Nat) (n : Int) (h : 0 ≤ n) (h2 : n ≤ 65535) : (satv (List.replicate k (48 : UInt8) ++ textL n) : Int) = n ∧ digs (List.replicate k (48 : UInt8) ++ textL n) = k + (textL n).length := by
  have ht : textL n = Lib.decDigits n.toNat := if_neg (by omega)
  have hw : (List.replicate k (48 : UInt8) ++ textL n).takeWhile isD = List.replicate k (48 : UInt8) ++ textL n := by
    have := List.takeWhile_append_of_pos (l₁ := List.replicate k (48 : UInt8) ++ textL n) (l₂ := []) (p := isD) (fun c hc => by
      rcases List.mem_append.1 hc with hc | hc
      · rw [List.eq_of_mem_replicate hc]; rfl
      · exact dec_all n.toNat c (by rw [← ht]; exact hc))
    simpa using this
  unfold satv digs
  rw [hw, zeros_fold, List.length_append, List.length_replicate]
  refine ⟨?_, rfl⟩
  rw [ht, dec_fold]
  omega
theorem text_eq (a b : Int) (ha : 0 ≤ a) (ha2 : a ≤ 65535) (hb : 0 ≤ b) (hb2 : b ≤ 65535) : textL a = textL b ↔ a = b := by
  refine ⟨fun h => ?_, fun h => by rw [h]⟩
  have h1 := (take_zeros 0 a ha ha2).1
  have h2 := (take_zeros 0 b hb hb2).1
  rw [h] at h1
  omega
theorem text_mono (a b : Int) (h : a ≤ b) (ha : 0 ≤ a) : (textL a).length ≤ (textL b).length := by
  unfold textL
  rw [if_neg (by omega), if_neg (by omega)]
  exact dec_mono _ _ (by omega)

/-- Figures of sixteen, there and back: large ones, and small ones. -/
def low (c : UInt8) : UInt8 := if 65 ≤ c.toNat then c + 32 else c
theorem hexD_is : ∀ k : Fin 16, isX (hexD k.1) = true ∧ xv (hexD k.1) = k.1 ∧ isX (low (hexD k.1)) = true ∧ xv (low (hexD k.1)) = k.1 := by decide
theorem hex_back (f : UInt8 → UInt8) (hf : ∀ k : Fin 16, isX (f (hexD k.1)) = true ∧ xv (f (hexD k.1)) = k.1) (l : List UInt8) : ((hexL l).map f).all isX = true ∧ pairs ((hexL l).map f) = l := by
  induction l with
  | nil => exact ⟨rfl, rfl⟩
  | cons c r ih =>
    have hc := c.toNat_lt
    have e : (hexL (c :: r)).map f = f (hexD (c.toNat / 16)) :: f (hexD (c.toNat % 16)) :: (hexL r).map f := rfl
    have h1 := hf ⟨c.toNat / 16, by omega⟩
    have h2 := hf ⟨c.toNat % 16, by omega⟩
    rw [e]
    refine ⟨by rw [List.all_cons, List.all_cons, h1.1, h2.1, ih.1]; rfl, ?_⟩
    simp only [pairs, h1.2, h2.2, ih.2]
    congr 1
    apply UInt8.toNat_inj.1
    rw [UInt8.toNat_ofNat_of_lt' (by show 16 * (c.toNat / 16) + c.toNat % 16 < 256; omega)]
    omega
theorem unhex_back (f : UInt8 → UInt8) (hf : ∀ k : Fin 16, isX (f (hexD k.1)) = true ∧ xv (f (hexD k.1)) = k.1) (l : List UInt8) : unhexL ((hexL l).map f) = some l := by
  unfold unhexL
  rw [if_pos ⟨by rw [List.length_map, hexL_length]; omega, (hex_back f hf l).1⟩, (hex_back f hf l).2]
theorem unhex_hex (l : List UInt8) : unhexL (hexL l) = some l := by
  have := unhex_back id (fun k => ⟨(hexD_is k).1, (hexD_is k).2.1⟩) l
  rwa [List.map_id] at this
theorem unhex_low (l : List UInt8) : unhexL ((hexL l).map low) = some l := unhex_back low (fun k => ⟨(hexD_is k).2.2.1, (hexD_is k).2.2.2⟩) l
theorem unhex_more (l : List UInt8) (x : UInt8) (h : l.length % 2 = 0) : unhexL (l ++ [x]) = none := unhexL_odd _ (by rw [List.length_append, List.length_singleton]; omega)
theorem unhex_bad (l : List UInt8) (x y : UInt8) (h : isX x = false) : unhexL (l ++ [x, y]) = none :=
  unhexL_none_of _ l.length (by rw [List.length_append, List.length_cons]; omega) (by rw [List.getElem_append_right (Nat.le_refl _)]; simpa using h)
end Go.Proofs.YtadmokikbajenaaDoor
