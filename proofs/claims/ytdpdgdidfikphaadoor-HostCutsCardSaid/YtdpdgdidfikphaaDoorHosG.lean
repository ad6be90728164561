/-
  Layer 5's mathematics: what wire.Put makes, of any kind but SS3, is told as it is; data that is too long tells nothing.
-/
import Derived.Test.YtdpdgdidfikphaaDoorHosM
namespace Go.Proofs.YtdpdgdidfikphaaDoor

def hpE : HP := ⟨1, sq0, [], false, false⟩
theorem one_27 : oneH hp0 27 = (hpE, []) := rfl
theorem head_final1 (pv : UInt8) (it : List UInt8) (txt : List UInt8) (f : Bool) (c : UInt8) (h : btw 64 126 c = true) :
    oneH ⟨2, ⟨1, pv, [], it, 0, []⟩, txt, f, false⟩ c = (hp0, toldH ⟨2, ⟨1, pv, [], it, c, []⟩, txt, f, false⟩) := by
  have hc := (btw_iff _ _ _).1 h
  rw [one_head rfl (by omega)]
  unfold headH
  dsimp only
  rw [if_neg (by omega), if_neg (by omega), if_neg (by omega), if_neg (by omega), if_neg (by omega), if_pos rfl]
theorem head_final3 (pv : UInt8) (it : List UInt8) (txt : List UInt8) (f : Bool) (c : UInt8) (h : btw 64 126 c = true) :
    oneH ⟨2, ⟨3, pv, [], it, 0, []⟩, txt, f, false⟩ c = (⟨3, ⟨3, pv, [], it, c, []⟩, txt, false, false⟩, []) := by
  have hc := (btw_iff _ _ _).1 h
  rw [one_head rfl (by omega)]
  unfold headH
  dsimp only
  rw [if_neg (by omega), if_neg (by omega), if_neg (by omega), if_neg (by omega), if_neg (by omega), if_neg (by decide)]
theorem esc_inter : ∀ (it i0 : List UInt8), i0.length + it.length ≤ 2 → (∀ c ∈ it, btw 32 47 c = true) →
    feedH ⟨1, ⟨0, 0, [], i0, 0, []⟩, [], false, false⟩ it = (⟨1, ⟨0, 0, [], i0 ++ it, 0, []⟩, [], false, false⟩, [])
  | [], i0, _, _ => by simp [feedH]
  | c :: it, i0, hl, h => by
    have hc := (btw_iff _ _ _).1 (h c (List.mem_cons_self ..))
    rw [List.length_cons] at hl
    have e : oneH ⟨1, ⟨0, 0, [], i0, 0, []⟩, [], false, false⟩ c = (⟨1, ⟨0, 0, [], i0 ++ [c], 0, []⟩, [], false, false⟩, []) := by
      rw [one_esc rfl (by omega)]
      unfold escH
      dsimp only
      rw [if_neg (by omega), if_neg (by omega), if_pos (by omega)]
      have : decide (1 < i0.length) = false := by simp; omega
      simp [this]
    have := feed_one e (esc_inter it (i0 ++ [c]) (by rw [List.length_append, List.length_singleton]; omega) fun d hd => h d (List.mem_cons_of_mem _ hd))
    simpa using this
theorem esc_final (it : List UInt8) (c : UInt8) (h : btw 48 126 c = true) (hf : it = [] → c ≠ 91 ∧ c ≠ 80 ∧ c ≠ 93 ∧ c ≠ 88 ∧ c ≠ 94 ∧ c ≠ 95) :
    oneH ⟨1, ⟨0, 0, [], it, 0, []⟩, [], false, false⟩ c = (hp0, toldH ⟨1, ⟨5, 0, [], it, c, []⟩, [], false, false⟩) := by
  have hc := (btw_iff _ _ _).1 h
  rw [one_esc rfl (by omega)]
  unfold escH
  dsimp only
  rw [if_neg (by omega), if_neg (by omega), if_neg (by omega), if_neg (fun e => (hf e.1).1 e.2), if_neg (fun e => (hf e.1).2.1 e.2), if_neg (fun e => (hf e.1).2.2.1 e.2), if_neg (fun e => ?_)]
  obtain ⟨h1, h2, h3, h4, h5, h6⟩ := hf e.1
  rcases e.2 with e | e | e
  · exact h4 e
  · exact h5 e
  · exact h6 e
theorem last_kinds {s : Sq} (h : lastOk s = true) : s.kind = 1 ∨ s.kind = 2 ∨ s.kind = 3 ∨ s.kind = 4 ∨ s.kind = 5 := by
  unfold lastOk at h
  split at h
  · omega
  · split at h
    · omega
    · simp only [Bool.and_eq_true, decide_eq_true_eq] at h
      omega
/-- What may be is told as it is. -/
theorem host_put {s : Sq} (h : mayS s = 0) (hk : s.kind ≠ 2) (hs : smallP s.params) : feedH hp0 (putS s) = (hp0, [s]) := by
  obtain ⟨hd, hv, hp, hi, hi2, hd2, hlast, hbare⟩ := ok_parts h
  have hn := nums_small hp hs
  obtain ⟨k, pv, ps, it, f, d⟩ := s
  dsimp only at hd hv hp hi hi2 hd2 hk hs hn
  have hbare' := hbare
  simp only [bareOk, Bool.and_eq_true, Bool.not_eq_true', Bool.and_eq_false_iff, Bool.or_eq_true, Bool.or_eq_false_iff, decide_eq_true_eq, decide_eq_false_iff_not] at hbare'
  obtain ⟨⟨b1, b2⟩, b3⟩ := hbare'
  have hlk := last_kinds hlast
  dsimp only at hlk
  rcases hlk with rfl | rfl | rfl | rfl | rfl
  · have hd0 : d = [] := by
      rcases b3 with b | b
      · exact b
      · omega
    subst hd0
    have hf : btw 64 126 f = true := by simpa [lastOk] using hlast
    obtain ⟨f', e1⟩ := head_body 1 pv ps it hv hi hi2
    have e2 := head_final1 pv it (parL ps) f' f hf
    have e3 : toldH ⟨2, ⟨1, pv, [], it, f, []⟩, parL ps, f', false⟩ = [⟨1, pv, ps, it, f, []⟩] := told_yes rfl (by dsimp only; rw [hn]) h
    rw [e3] at e2
    have e4 : oneH hpE 91 = (⟨2, ⟨1, 0, [], [], 0, []⟩, [], true, false⟩, []) := rfl
    have := feed_one one_27 (feed_one e4 (feed_then e1 (feed_one e2 (b := []) rfl)))
    unfold putS bodyL
    rw [if_pos rfl]
    simpa using this
  · exact absurd rfl hk
  · have hf : btw 64 126 f = true := by simpa [lastOk] using hlast
    obtain ⟨f', e1⟩ := head_body 3 pv ps it hv hi hi2
    have e2 := head_final3 pv it (parL ps) f' f hf
    have e3 := data_all 3 pv it f (parL ps) false d [] (by simpa using hd) hd2
    have e4 := data_end ⟨3, pv, [], it, f, d⟩ (parL ps) false false
    have e5 : toldH ⟨5, ⟨3, pv, [], it, f, d⟩, parL ps, false, false⟩ = [⟨3, pv, ps, it, f, d⟩] := told_yes rfl (by dsimp only; rw [hn]) h
    rw [e5] at e4
    rw [List.nil_append] at e3
    have e0 : oneH hpE 80 = (⟨2, ⟨3, 0, [], [], 0, []⟩, [], true, false⟩, []) := rfl
    have := feed_one one_27 (feed_one e0 (feed_then e1 (feed_one e2 (feed_then e3 e4))))
    unfold putS bodyL
    rw [if_neg (by simp), if_neg (by simp), if_pos rfl]
    simpa using this
  · have hpv : pv = 0 ∧ ps = [] := by
      rcases b1 with b | b
      · simp at b
      · exact ⟨by simpa using b.1, by simpa using b.2⟩
    have hit : it = [] := by
      rcases b2 with b | b
      · simp at b
      · simpa using b
    obtain ⟨rfl, rfl⟩ := hpv
    subst hit
    have hf : f = 0 := by simpa [lastOk] using hlast
    subst hf
    have e3 := data_all 4 0 [] 0 [] false d [] (by simpa using hd) hd2
    have e4 := data_end ⟨4, 0, [], [], 0, d⟩ [] false false
    have e5 : toldH ⟨5, ⟨4, 0, [], [], 0, d⟩, [], false, false⟩ = [⟨4, 0, [], [], 0, d⟩] := told_yes rfl rfl h
    rw [e5] at e4
    rw [List.nil_append] at e3
    have e0 : oneH hpE 93 = (⟨3, ⟨4, 0, [], [], 0, []⟩, [], false, false⟩, []) := rfl
    have := feed_one one_27 (feed_one e0 (feed_then e3 e4))
    unfold putS
    rw [if_neg (by simp), if_neg (by simp), if_neg (by simp), if_pos rfl]
    simpa using this
  · have hpv : pv = 0 ∧ ps = [] := by
      rcases b1 with b | b
      · simp at b
      · exact ⟨by simpa using b.1, by simpa using b.2⟩
    have hd0 : d = [] := by
      rcases b3 with b | b
      · exact b
      · omega
    obtain ⟨rfl, rfl⟩ := hpv
    subst hd0
    have hf : btw 48 126 f = true ∧ (it = [] → f ≠ 91 ∧ f ≠ 80 ∧ f ≠ 93 ∧ f ≠ 88 ∧ f ≠ 94 ∧ f ≠ 95) := by
      have hl := hlast
      unfold lastOk at hl
      rw [if_neg (by simp), if_pos rfl] at hl
      simp only [Bool.and_eq_true, Bool.or_eq_true, decide_eq_true_eq, Bool.not_eq_true'] at hl
      refine ⟨hl.1, fun hit => ?_⟩
      rcases hl.2 with h2 | h2
      · exact absurd hit h2
      · refine ⟨?_, ?_, ?_, ?_, ?_, ?_⟩ <;> (rintro rfl; revert h2; decide)
    have e1 := esc_inter it [] (by simpa using hi) hi2
    rw [List.nil_append] at e1
    have e2 := esc_final it f hf.1 hf.2
    have e5 : toldH ⟨1, ⟨5, 0, [], it, f, []⟩, [], false, false⟩ = [⟨5, 0, [], it, f, []⟩] := told_yes rfl rfl h
    rw [e5] at e2
    have := feed_one one_27 (feed_then (show feedH hpE it = _ from e1) (feed_one e2 (b := []) rfl))
    unfold putS
    rw [if_neg (by simp), if_neg (by simp), if_neg (by simp), if_neg (by simp)]
    simpa using this
/-- A list of them, each with a byte of text behind it. -/
def putsX : List Sq → List UInt8
  | [] => []
  | s :: l => putS s ++ (120 :: putsX l)
theorem host_puts : ∀ (l : List Sq), (∀ s ∈ l, mayS s = 0 ∧ s.kind ≠ 2 ∧ smallP s.params) → feedH hp0 (putsX l) = (hp0, l)
  | [], _ => rfl
  | s :: l, h => by
    obtain ⟨h1, h2, h3⟩ := h s (List.mem_cons_self ..)
    exact feed_then (host_put h1 h2 h3) (feed_one (one_idle 120 (by decide)) (host_puts l fun t ht => h t (List.mem_cons_of_mem _ ht)))
/-- Data, of an OSC and of a DCS, and a request behind it. -/
theorem long_osc (n : Nat) : feedH hp0 (27 :: 93 :: (List.replicate n 97 ++ [27, 92, 27, 91, 99])) = (hp0, (if 4096 < n then [] else [⟨4, 0, [], [], 0, List.replicate n 97⟩]) ++ [⟨1, 0, [], [], 99, []⟩]) := by
  have hb : ∀ c ∈ List.replicate n (97 : UInt8), btw 32 126 c = true := fun c hc => by rw [(List.mem_replicate.1 hc).2]; rfl
  have e0 : oneH hpE 93 = (⟨3, ⟨4, 0, [], [], 0, []⟩, [], false, false⟩, []) := rfl
  have ec : feedH hp0 [27, 91, 99] = (hp0, [⟨1, 0, [], [], 99, []⟩]) := by
    have : mayS ⟨1, 0, [], [], 99, []⟩ = 0 := by rfl
    exact host_put (s := ⟨1, 0, [], [], 99, []⟩) this (by decide) (fun p hp => by cases hp)
  by_cases hn : 4096 < n
  · rw [if_pos hn]
    obtain ⟨d', e1⟩ := data_long 4 0 [] 0 [] false (List.replicate n 97) (by rw [List.length_replicate]; exact hn) hb
    have e2 := data_end ⟨4, 0, [], [], 0, d'⟩ [] false true
    rw [told_bad rfl] at e2
    have := feed_one one_27 (feed_one e0 (feed_then e1 (feed_then e2 ec)))
    simpa using this
  · rw [if_neg hn]
    have e1 := data_all 4 0 [] 0 [] false (List.replicate n 97) [] (by simp; omega) hb
    rw [List.nil_append] at e1
    have e2 := data_end ⟨4, 0, [], [], 0, List.replicate n 97⟩ [] false false
    have hm : mayS ⟨4, 0, [], [], 0, List.replicate n 97⟩ = 0 := by
      unfold mayS
      rw [if_neg (by rw [List.length_replicate]; exact hn), if_pos]
      simp [okS, privOk, parOk, lastOk, bareOk]
      exact .inr rfl
    have e5 : toldH ⟨5, ⟨4, 0, [], [], 0, List.replicate n 97⟩, [], false, false⟩ = [⟨4, 0, [], [], 0, List.replicate n 97⟩] := told_yes rfl rfl hm
    rw [e5] at e2
    have := feed_one one_27 (feed_one e0 (feed_then e1 (feed_then e2 ec)))
    simpa using this
theorem long_dcs (n : Nat) : feedH hp0 (27 :: 80 :: 49 :: 36 :: 114 :: (List.replicate n 97 ++ [27, 92, 27, 91, 99])) = (hp0, (if 4096 < n then [] else [⟨3, 0, [[1]], [36], 114, List.replicate n 97⟩]) ++ [⟨1, 0, [], [], 99, []⟩]) := by
  have hb : ∀ c ∈ List.replicate n (97 : UInt8), btw 32 126 c = true := fun c hc => by rw [(List.mem_replicate.1 hc).2]; rfl
  have e0 : feedH hp0 [27, 80, 49, 36, 114] = (⟨3, ⟨3, 0, [], [36], 114, []⟩, [49], false, false⟩, []) := rfl
  have ec : feedH hp0 [27, 91, 99] = (hp0, [⟨1, 0, [], [], 99, []⟩]) := by
    have : mayS ⟨1, 0, [], [], 99, []⟩ = 0 := by rfl
    exact host_put (s := ⟨1, 0, [], [], 99, []⟩) this (by decide) (fun p hp => by cases hp)
  by_cases hn : 4096 < n
  · rw [if_pos hn]
    obtain ⟨d', e1⟩ := data_long 3 0 [36] 114 [49] false (List.replicate n 97) (by rw [List.length_replicate]; exact hn) hb
    have e2 := data_end ⟨3, 0, [], [36], 114, d'⟩ [49] false true
    rw [told_bad rfl] at e2
    have := feed_then e0 (feed_then e1 (feed_then e2 ec))
    simpa using this
  · rw [if_neg hn]
    have e1 := data_all 3 0 [36] 114 [49] false (List.replicate n 97) [] (by simp; omega) hb
    rw [List.nil_append] at e1
    have e2 := data_end ⟨3, 0, [], [36], 114, List.replicate n 97⟩ [49] false false
    have hm : mayS ⟨3, 0, [[1]], [36], 114, List.replicate n 97⟩ = 0 := by
      unfold mayS
      rw [if_neg (by rw [List.length_replicate]; exact hn), if_pos]
      simp [okS, privOk, parOk, lastOk, bareOk]
      exact ⟨⟨rfl, .inr rfl⟩, rfl⟩
    have e5 : toldH ⟨5, ⟨3, 0, [], [36], 114, List.replicate n 97⟩, [49], false, false⟩ = [⟨3, 0, [[1]], [36], 114, List.replicate n 97⟩] := told_yes rfl (by rfl) hm
    rw [e5] at e2
    have := feed_then e0 (feed_then e1 (feed_then e2 ec))
    simpa using this
end Go.Proofs.YtdpdgdidfikphaaDoor
