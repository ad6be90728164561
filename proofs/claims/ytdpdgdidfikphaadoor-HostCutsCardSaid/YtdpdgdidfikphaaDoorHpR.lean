/-
  Layer 5's mathematics: the program's parser answers, byte by byte, as the document's does.
-/
import Derived.Test.YtdpdgdidfikphaaDoorHpM
namespace Go.Proofs.YtdpdgdidfikphaaDoor

/-- How the two stand to each other. -/
inductive Rel : PB → HP → Prop
  | idle : Rel pb0 hp0
  | esc (i : List UInt8) : Rel ⟨1, 5, 0, [], i.take 2, 0, [], decide (2 < i.length)⟩ ⟨1, ⟨0, 0, [], i, 0, []⟩, [], false, decide (2 < i.length)⟩
  | head (k : Int) (pv : UInt8) (t it : List UInt8) (hk : k = 1 ∨ k = 3) (hi : it.length ≤ 2) :
      Rel ⟨2, k, pv, numsH t, it, 0, [], false⟩ ⟨2, ⟨k, pv, [], it, 0, []⟩, t, decide (pv = 0 ∧ t = [] ∧ it = []), false⟩
  | headX {b : PB} {p : HP} (hb : b.how = 2) (hp : p.how = 2) (hk : b.kind = p.s.kind) (h1 : b.kind = 1 ∨ b.kind = 3) (hs : b.spoilt = true) (hd : Dead p) : Rel b p
  | data (k : Int) (pv : UInt8) (t it : List UInt8) (f : UInt8) (d : List UInt8) (first : Bool) (hk : k = 3 ∨ k = 4) (hl : d.length ≤ 4096) :
      Rel ⟨3, k, pv, numsH t, it, f, d, false⟩ ⟨3, ⟨k, pv, [], it, f, d⟩, t, first, false⟩
  | dataX {b : PB} {p : HP} (hb : b.how = 3) (hp : p.how = 3) (hk : b.kind = p.s.kind) (h1 : b.kind = 3 ∨ b.kind = 4) (hs : b.spoilt = true) (hd : Dead p) : Rel b p
  | str {b : PB} {p : HP} (hb : b.how = 4) (hp : p.how = 4) (hk : b.kind = -1) : Rel b p
  | clos (k : Int) (pv : UInt8) (t it : List UInt8) (f : UInt8) (d : List UInt8) (first : Bool) (hk : k = 3 ∨ k = 4) :
      Rel ⟨5, k, pv, numsH t, it, f, d, false⟩ ⟨5, ⟨k, pv, [], it, f, d⟩, t, first, false⟩
  | closX {b : PB} {p : HP} (hb : b.how = 5) (hp : p.how = 5) (hk : b.kind ≠ 0) (hs : b.spoilt = true ∨ b.kind = -1) (hd : Dead p) : Rel b p

theorem Rel.how {b : PB} {p : HP} (h : Rel b p) : b.how = p.how := by
  cases h with
  | idle => rfl
  | esc i => rfl
  | head k pv t it hk hi => rfl
  | headX hb hp hk h1 hs hd => rw [hb, hp]
  | data k pv t it f d first hk hl => rfl
  | dataX hb hp hk h1 hs hd => rw [hb, hp]
  | str hb hp hk => rw [hb, hp]
  | clos k pv t it f d first hk => rfl
  | closX hb hp hk hs hd => rw [hb, hp]
/-- It has begun just where the kind isn't 0. -/
theorem Rel.kind {b : PB} {p : HP} (h : Rel b p) : b.kind = 0 ↔ p.how = 0 := by
  cases h with
  | idle => exact ⟨fun _ => rfl, fun _ => rfl⟩
  | esc i => simp
  | head k pv t it hk hi => simp; omega
  | headX hb hp hk h1 hs hd => rw [hp]; omega
  | data k pv t it f d first hk hl => simp; omega
  | dataX hb hp hk h1 hs hd => rw [hp]; omega
  | str hb hp hk => rw [hp]; omega
  | clos k pv t it f d first hk => simp; omega
  | closX hb hp hk hs hd => rw [hp]; omega

/-- Behind a byte: told, or not. -/
def Step (x : PB × Bool) (y : HP × List Sq) : Prop := (x.2 = false ∧ Rel x.1 y.1 ∧ y.2 = []) ∨ (x.2 = true ∧ y = (hp0, endP x.1))
theorem Step.no {b : PB} {p : HP} (h : Rel b p) : Step (b, false) (p, []) := .inl ⟨rfl, h, rfl⟩
theorem Step.zero : Step (pb0, false) (hp0, []) := Step.no .idle
theorem relE : Rel pbE ⟨1, sq0, [], false, false⟩ := Rel.esc []
theorem Step.begin : Step (pbE, false) (⟨1, sq0, [], false, false⟩, []) := Step.no relE
theorem end_spoilt {b : PB} (h : b.spoilt = true) : endP b = [] := if_pos h
theorem end_kind {b : PB} (h : b.kind = -1) : endP b = [] := by
  unfold endP
  split
  · rfl
  · exact if_neg (kind_no h)
theorem esc_step (i : List UInt8) (c : UInt8) (hc : c.toNat ≠ 27) :
    Step (escP ⟨1, 5, 0, [], i.take 2, 0, [], decide (2 < i.length)⟩ c) (escH ⟨1, ⟨0, 0, [], i, 0, []⟩, [], false, decide (2 < i.length)⟩ c) := by
  have hi : i.take 2 = [] ↔ i = [] := by cases i <;> simp
  unfold escP escH
  dsimp only
  rw [if_neg hc]
  by_cases h1 : noneC c
  · rw [if_pos h1, if_pos (show c.toNat < 32 ∨ c.toNat = 127 from h1)]
    exact Step.no (.esc i)
  rw [if_neg h1, if_neg (show ¬ (c.toNat < 32 ∨ c.toNat = 127) from h1)]
  by_cases h2 : 127 < c.toNat
  · rw [if_pos h2, if_pos (show 128 ≤ c.toNat by omega)]
    exact Step.zero
  rw [if_neg h2, if_neg (show ¬ 128 ≤ c.toNat by omega)]
  by_cases h3 : c.toNat < 48
  · rw [if_pos h3, if_pos h3]
    unfold interP
    dsimp only
    have hl : (i.take 2).length = 2 ↔ 2 ≤ i.length := by rw [List.length_take]; omega
    have key : decide (2 < (i ++ [c]).length) = (decide (2 < i.length) || decide (1 < i.length)) := by
      rw [Bool.eq_iff_iff, List.length_append, List.length_singleton]; simp; omega
    split
    · rename_i h4
      have h5 := hl.1 h4
      have := Step.no (Rel.esc (i ++ [c]))
      rw [List.take_append_of_le_length h5, key] at this
      simp only [show decide (1 < i.length) = true from decide_eq_true (by omega), Bool.or_true] at this ⊢
      exact this
    · rename_i h4
      have h5 : i.length < 2 := by rw [hl] at h4; omega
      have := Step.no (Rel.esc (i ++ [c]))
      rw [List.take_of_length_le (by simp; omega), key] at this
      rw [List.take_of_length_le (by omega)]
      simp only [show decide (1 < i.length) = false from decide_eq_false (by omega), show decide (2 < i.length) = false from decide_eq_false (by omega), Bool.or_false] at this ⊢
      exact this
  rw [if_neg h3, if_neg h3]
  have hne : ∀ n : Nat, n < 256 → (c = UInt8.ofNat n ↔ c.toNat = n) := fun n hn => by
    rw [← UInt8.toNat_inj, UInt8.toNat_ofNat_of_lt' (by show n < 256; exact hn)]
  have e91 : c = 91 ↔ c.toNat = 91 := hne 91 (by decide)
  have e80 : c = 80 ↔ c.toNat = 80 := hne 80 (by decide)
  have e93 : c = 93 ↔ c.toNat = 93 := hne 93 (by decide)
  have e88 : c = 88 ↔ c.toNat = 88 := hne 88 (by decide)
  have e94 : c = 94 ↔ c.toNat = 94 := hne 94 (by decide)
  have e95 : c = 95 ↔ c.toNat = 95 := hne 95 (by decide)
  have fin : ∀ d, Step ({ (⟨1, 5, 0, [], i.take 2, 0, [], decide (2 < i.length)⟩ : PB) with final := c }, true) (hp0, d) ↔ endP { (⟨1, 5, 0, [], i.take 2, 0, [], decide (2 < i.length)⟩ : PB) with final := c } = d := fun d => by
    constructor
    · rintro (⟨h, _⟩ | ⟨_, h⟩)
      · cases h
      · exact (congrArg Prod.snd h).symm
    · rintro rfl
      exact .inr ⟨rfl, rfl⟩
  have told : endP { (⟨1, 5, 0, [], i.take 2, 0, [], decide (2 < i.length)⟩ : PB) with final := c } = toldH { (⟨1, ⟨0, 0, [], i, 0, []⟩, [], false, decide (2 < i.length)⟩ : HP) with s := { (⟨0, 0, [], i, 0, []⟩ : Sq) with kind := 5, final := c } } := by
    unfold endP toldH PB.sq
    dsimp only
    split
    · rfl
    · rename_i h
      have : i.length ≤ 2 := by simp at h; omega
      rw [List.take_of_length_le this]
      rfl
  by_cases h4 : i = []
  · subst h4
    rw [if_pos (show List.take 2 ([] : List UInt8) = [] from rfl)]
    unfold chooseP
    simp only [true_and]
    by_cases h5 : c.toNat = 91
    · rw [if_pos h5, if_pos (e91.2 h5)]
      exact Step.no (.head 1 0 [] [] (.inl rfl) (by decide))
    rw [if_neg h5, if_neg (fun h => h5 (e91.1 h))]
    by_cases h6 : c.toNat = 80
    · rw [if_pos h6, if_pos (e80.2 h6)]
      exact Step.no (.head 3 0 [] [] (.inr rfl) (by decide))
    rw [if_neg h6, if_neg (fun h => h6 (e80.1 h))]
    by_cases h7 : c.toNat = 93
    · rw [if_pos h7, if_pos (e93.2 h7)]
      exact Step.no (.data 4 0 [] [] 0 [] false (.inr rfl) (by decide))
    rw [if_neg h7, if_neg (fun h => h7 (e93.1 h))]
    by_cases h8 : c.toNat = 88 ∨ c.toNat = 94 ∨ c.toNat = 95
    · rw [if_pos h8, if_pos (h8.imp e88.2 (fun h => h.imp e94.2 e95.2))]
      exact Step.no (.str rfl rfl rfl)
    rw [if_neg h8, if_neg (fun h => h8 (h.imp e88.1 (fun h => h.imp e94.1 e95.1)))]
    exact (fin _).2 told
  · rw [if_neg (by rw [hi]; exact h4), if_neg (by simp [h4]), if_neg (by simp [h4]), if_neg (by simp [h4]), if_neg (by simp [h4])]
    exact (fin _).2 told
theorem isD_iff (c : UInt8) : isD c = true ↔ 48 ≤ c.toNat ∧ c.toNat ≤ 57 := by simp [isD]
theorem param_step (k : Int) (pv : UInt8) (t : List UInt8) (c : UInt8) (h0 : 48 ≤ c.toNat) (h1 : c.toNat < 60) (hn : (numsH t).length ≤ 16) (hq : ∀ q ∈ numsH t, q.length ≤ 8) :
    (paramP ⟨2, k, pv, numsH t, [], 0, [], false⟩ c = ⟨2, k, pv, numsH (t ++ [c]), [], 0, [], false⟩) ∨
    ((paramP ⟨2, k, pv, numsH t, [], 0, [], false⟩ c).spoilt = true ∧ (paramP ⟨2, k, pv, numsH t, [], 0, [], false⟩ c).how = 2 ∧ (paramP ⟨2, k, pv, numsH t, [], 0, [], false⟩ c).kind = k ∧ many (numsH (t ++ [c]))) := by
  obtain ⟨d, o, m, e1, e2⟩ := nums_snoc 65535 t (-1) []
  have hn' : d.length + 1 ≤ 16 ∧ o.length + 1 ≤ 8 := by
    have e3 := numsH_ful t
    rw [e1] at e3
    unfold fulP at e3
    split at e3
    · have h5 := congrArg List.length e3
      simp at h5
      have : d = [] := by cases d; rfl; simp at h5
      subst this
      rw [List.nil_append] at e3
      have := congrArg List.length (List.cons.inj e3).1
      rw [List.length_append, List.length_singleton, List.length_singleton] at this
      exact ⟨by simp, by omega⟩
    · rw [e3] at hn hq
      have := hq (o ++ [m]) (by simp)
      simp at this hn
      omega
  rw [numsH_snoc, e2 c]
  unfold paramP
  dsimp only
  rw [numsH_ful, e1, last_snoc]
  simp only [List.dropLast_concat, List.getLastD_concat]
  rw [if_neg (by simp)]
  have e59 : c = 59 ↔ c.toNat = 59 := by rw [← UInt8.toNat_inj]; rfl
  by_cases a1 : c.toNat < 58
  · rw [if_pos a1, if_pos ((isD_iff c).2 ⟨h0, by omega⟩)]
    exact .inl rfl
  rw [if_neg a1, if_neg (show ¬ isD c = true by rw [isD_iff]; omega)]
  by_cases a2 : c.toNat = 58
  · rw [if_neg (show ¬ c = 59 by rw [e59]; omega)]
    by_cases a3 : (o ++ [m]).length < 8
    · rw [if_pos ⟨a2, a3⟩]
      exact .inl rfl
    · rw [if_neg (fun h => a3 h.2), if_neg (fun h => by omega)]
      refine .inr ⟨rfl, rfl, rfl, .inr ⟨(o ++ [m]) ++ [-1], by simp, ?_⟩⟩
      simp at a3 ⊢; omega
  · have a4 : c.toNat = 59 := by omega
    rw [if_neg (fun h => a2 h.1), if_pos (e59.2 a4)]
    by_cases a3 : (d ++ [o ++ [m]]).length < 16
    · rw [if_pos ⟨a4, a3⟩]
      exact .inl rfl
    · rw [if_neg (fun h => a3 h.2)]
      refine .inr ⟨rfl, rfl, rfl, .inl ?_⟩
      simp at a3 ⊢; omega
theorem inter_keep (b : PB) (c : UInt8) : (interP b c).how = b.how ∧ (interP b c).kind = b.kind ∧ (b.spoilt = true → (interP b c).spoilt = true) := by
  unfold interP; split <;> simp
theorem priv_keep (b : PB) (c : UInt8) : (privP b c).how = b.how ∧ (privP b c).kind = b.kind ∧ (b.spoilt = true → (privP b c).spoilt = true) := by
  unfold privP; split <;> simp
theorem param_keep (b : PB) (c : UInt8) : (paramP b c).how = b.how ∧ (paramP b c).kind = b.kind ∧ (b.spoilt = true → (paramP b c).spoilt = true) := by
  unfold paramP; (repeat' split) <;> simp
theorem headX_step {b : PB} {p : HP} (hb : b.how = 2) (hp : p.how = 2) (hk : b.kind = p.s.kind) (h1 : b.kind = 1 ∨ b.kind = 3) (hs : b.spoilt = true) (hd : Dead p) (c : UInt8) (hc : c.toNat ≠ 27) :
    Step (headP b c) (headH p c) := by
  unfold headP headH
  rw [if_neg hc]
  by_cases a1 : noneC c
  · rw [if_pos a1, if_pos (show c.toNat < 32 ∨ c.toNat = 127 from a1)]
    exact Step.no (.headX hb hp hk h1 hs hd)
  rw [if_neg a1, if_neg (show ¬ (c.toNat < 32 ∨ c.toNat = 127) from a1)]
  by_cases a2 : 127 < c.toNat
  · rw [if_pos a2, if_pos (show 128 ≤ c.toNat by omega)]
    exact Step.zero
  rw [if_neg a2, if_neg (show ¬ 128 ≤ c.toNat by omega)]
  by_cases a3 : c.toNat < 48
  · rw [if_pos a3, if_pos a3]
    obtain ⟨i1, i2, i3⟩ := inter_keep b c
    refine Step.no (.headX (i1.trans hb) hp (i2.trans hk) (by rw [i2]; exact h1) (i3 hs) ?_)
    rcases hd with hd | hd
    · exact .inl (by simp [hd])
    · exact .inr hd
  rw [if_neg a3, if_neg a3]
  by_cases a4 : c.toNat < 60
  · rw [if_pos a4, if_pos a4]
    obtain ⟨i1, i2, i3⟩ := param_keep b c
    refine Step.no (.headX (i1.trans hb) hp (i2.trans hk) (by rw [i2]; exact h1) (i3 hs) ?_)
    rcases hd with hd | hd
    · exact .inl (by simp [hd])
    · exact .inr (many_snoc hd c)
  rw [if_neg a4, if_neg a4]
  by_cases a5 : c.toNat < 64
  · rw [if_pos a5, if_pos a5]
    obtain ⟨i1, i2, i3⟩ := priv_keep b c
    refine Step.no (.headX (i1.trans hb) hp (i2.trans hk) (by rw [i2]; exact h1) (i3 hs) ?_)
    rcases hd with hd | hd
    · exact .inl (by simp [hd])
    · exact .inr hd
  rw [if_neg a5, if_neg a5]
  by_cases a6 : b.kind = 1
  · rw [if_pos (hk.symm.trans a6), hd.told p.s.kind c, decide_eq_true a6]
    exact .inr ⟨rfl, (congrArg (Prod.mk hp0) (end_spoilt (b := { b with final := c, how := 3 }) hs)).symm⟩
  · rw [if_neg (fun h => a6 (hk.trans h)), decide_eq_false a6]
    refine Step.no (.dataX rfl rfl hk (show b.kind = 3 ∨ b.kind = 4 by omega) hs ?_)
    rcases hd with hd | hd
    · exact .inl hd
    · exact .inr hd
theorem head_step (k : Int) (pv : UInt8) (t it : List UInt8) (hk : k = 1 ∨ k = 3) (hi : it.length ≤ 2) (hn : (numsH t).length ≤ 16) (hq : ∀ q ∈ numsH t, q.length ≤ 8) (c : UInt8) (hc : c.toNat ≠ 27) :
    Step (headP ⟨2, k, pv, numsH t, it, 0, [], false⟩ c) (headH ⟨2, ⟨k, pv, [], it, 0, []⟩, t, decide (pv = 0 ∧ t = [] ∧ it = []), false⟩ c) := by
  unfold headP headH
  dsimp only
  rw [if_neg hc]
  by_cases a1 : noneC c
  · rw [if_pos a1, if_pos (show c.toNat < 32 ∨ c.toNat = 127 from a1)]
    exact Step.no (.head k pv t it hk hi)
  rw [if_neg a1, if_neg (show ¬ (c.toNat < 32 ∨ c.toNat = 127) from a1)]
  by_cases a2 : 127 < c.toNat
  · rw [if_pos a2, if_pos (show 128 ≤ c.toNat by omega)]
    exact Step.zero
  rw [if_neg a2, if_neg (show ¬ 128 ≤ c.toNat by omega)]
  by_cases a3 : c.toNat < 48
  · rw [if_pos a3, if_pos a3]
    unfold interP
    dsimp only
    by_cases b1 : it.length = 2
    · rw [if_pos b1]
      refine Step.no (.headX rfl rfl rfl hk rfl (.inl ?_))
      simp [b1]
    · rw [if_neg b1]
      have := Step.no (Rel.head k pv t (it ++ [c]) hk (by simp; omega))
      have e : decide (pv = 0 ∧ t = [] ∧ it ++ [c] = []) = false := decide_eq_false (by simp)
      rw [e] at this
      have e2 : (false || decide (1 < it.length)) = false := by simp; omega
      rw [e2]
      exact this
  rw [if_neg a3, if_neg a3]
  by_cases a4 : c.toNat < 60
  · rw [if_pos a4, if_pos a4]
    by_cases b1 : it = []
    · subst b1
      simp only [ne_eq, not_true_eq_false, decide_false, Bool.or_false]
      rcases param_step k pv t c (by omega) a4 hn hq with h | ⟨h1, h2, h3, h4⟩
      · rw [h]
        have := Step.no (Rel.head k pv (t ++ [c]) [] hk (by decide))
        rw [show decide (pv = 0 ∧ t ++ [c] = [] ∧ ([] : List UInt8) = []) = false from decide_eq_false (by simp)] at this
        exact this
      · exact Step.no (.headX h2 rfl h3 (by rw [h3]; exact hk) h1 (.inr h4))
    · unfold paramP
      dsimp only
      rw [if_pos b1]
      exact Step.no (.headX rfl rfl rfl hk rfl (.inl (by simp [b1])))
  rw [if_neg a4, if_neg a4]
  by_cases a5 : c.toNat < 64
  · rw [if_pos a5, if_pos a5]
    unfold privP
    dsimp only
    have ht : numsH t = [] ↔ t = [] := by
      unfold numsH
      constructor
      · intro h
        split at h
        · assumption
        · exact absurd h (nums_ne t)
      · rintro rfl; rfl
    have c0 : c ≠ 0 := fun e => by subst e; simp at a3
    by_cases b1 : pv ≠ 0 ∨ numsH t ≠ [] ∨ it ≠ []
    · rw [if_pos b1]
      refine Step.no (.headX rfl rfl rfl hk rfl (.inl ?_))
      have e : decide (pv = 0 ∧ t = [] ∧ it = []) = false := decide_eq_false (fun h => by
        rcases b1 with h1 | h1 | h1
        · exact h1 h.1
        · exact h1 (ht.2 h.2.1)
        · exact h1 h.2.2)
      rw [e]; rfl
    · rw [if_neg b1]
      simp only [not_or, ne_eq, Decidable.not_not] at b1
      obtain ⟨rfl, h2, rfl⟩ := b1
      obtain rfl := ht.1 h2
      have := Step.no (Rel.head k c [] [] hk (by decide))
      rw [show decide (c = 0 ∧ ([] : List UInt8) = [] ∧ ([] : List UInt8) = []) = false from decide_eq_false (fun h => c0 h.1)] at this
      exact this
  rw [if_neg a5, if_neg a5]
  by_cases a6 : k = 1
  · rw [if_pos a6, decide_eq_true a6]
    exact .inr ⟨rfl, rfl⟩
  · rw [if_neg a6, decide_eq_false a6]
    exact Step.no (.data k pv t it c [] false (by omega) (by simp))
theorem data_step (k : Int) (pv : UInt8) (t it : List UInt8) (f : UInt8) (d : List UInt8) (first : Bool) (hk : k = 3 ∨ k = 4) (hl : d.length ≤ 4096) (c : UInt8) (hc : c.toNat ≠ 27) :
    Step (dataP ⟨3, k, pv, numsH t, it, f, d, false⟩ c) (dataH ⟨3, ⟨k, pv, [], it, f, d⟩, t, first, false⟩ c) := by
  unfold dataP dataH
  dsimp only
  rw [if_neg hc]
  by_cases a1 : c.toNat = 7 ∧ k = 4
  · rw [if_pos a1, if_pos a1]
    exact .inr ⟨rfl, rfl⟩
  rw [if_neg a1, if_neg a1]
  by_cases a2 : noneC c
  · rw [if_pos a2, if_pos (show c.toNat < 32 ∨ c.toNat = 127 from a2)]
    exact Step.no (.data k pv t it f d first hk hl)
  rw [if_neg a2, if_neg (show ¬ (c.toNat < 32 ∨ c.toNat = 127) from a2)]
  by_cases a3 : 127 < c.toNat ∨ d.length = 4096
  · rw [if_pos a3, if_pos (by omega)]
    exact Step.no (.dataX rfl rfl rfl hk rfl (.inl rfl))
  · rw [if_neg a3, if_neg (by simp; omega)]
    exact Step.no (.data k pv t it f (d ++ [c]) first hk (by simp; omega))
theorem dataX_step {b : PB} {p : HP} (hb : b.how = 3) (hp : p.how = 3) (hk : b.kind = p.s.kind) (h1 : b.kind = 3 ∨ b.kind = 4) (hs : b.spoilt = true) (hd : Dead p) (c : UInt8) (hc : c.toNat ≠ 27) :
    Step (dataP b c) (dataH p c) := by
  unfold dataP dataH
  rw [if_neg hc]
  by_cases a1 : c.toNat = 7 ∧ b.kind = 4
  · rw [if_pos a1, if_pos (show c.toNat = 7 ∧ p.s.kind = 4 by rw [← hk]; exact a1), hd.told']
    exact .inr ⟨rfl, by rw [end_spoilt hs]⟩
  rw [if_neg a1, if_neg (show ¬ (c.toNat = 7 ∧ p.s.kind = 4) by rw [← hk]; exact a1)]
  by_cases a2 : noneC c
  · rw [if_pos a2, if_pos (show c.toNat < 32 ∨ c.toNat = 127 from a2)]
    exact Step.no (.dataX hb hp hk h1 hs hd)
  rw [if_neg a2, if_neg (show ¬ (c.toNat < 32 ∨ c.toNat = 127) from a2)]
  have hd2 : p.bad = true ∨ many (numsH p.text) := hd
  (repeat' split) <;> refine Step.no (.dataX ?_ ?_ ?_ ?_ ?_ ?_) <;> first
    | exact hb
    | exact hp
    | exact hk
    | exact h1
    | exact hs
    | exact hd
    | rfl
    | exact .inl rfl
    | exact hd2
/-- A byte. -/
theorem take_step {b : PB} {p : HP} (h : Rel b p) (hf : Fit b) (c : UInt8) : Step (takeP b c) (oneH p c) := by
  unfold takeP oneH
  by_cases a1 : c.toNat = 24 ∨ c.toNat = 26
  · rw [if_pos a1, if_pos a1]
    exact Step.zero
  rw [if_neg a1, if_neg a1]
  unfold nextP
  by_cases a2 : c.toNat = 27
  · rw [if_pos a2]
    have eb : (escP b c) = (pbE, false) := if_pos a2
    have eh : (headP b c) = (pbE, false) := if_pos a2
    have ed : (dataP b c) = ({ b with how := 5 }, false) := if_pos a2
    have es : (strP b c) = ({ b with how := 5 }, false) := if_pos a2
    have ei : (idleP b c) = (pbE, false) := if_pos a2
    have ec : closeP b c = (pbE, false) := by
      unfold closeP
      rw [if_neg (by omega)]
      exact if_pos a2
    rw [eb, eh, ed, es, ei, ec]
    cases h with
    | idle => exact Step.begin
    | esc i => exact Step.begin
    | head k pv t it hk hi => exact Step.begin
    | headX hb hp hk h1 hs hd => rw [hb, hp]; exact Step.begin
    | data k pv t it f d first hk hl => exact Step.no (.clos k pv t it f d first hk)
    | dataX hb hp hk h1 hs hd =>
      rw [hb, hp]
      refine Step.no (.closX rfl rfl (show b.kind ≠ 0 by omega) (.inl hs) ?_)
      rcases hd with hd | hd
      · exact .inl (by simp [hd])
      · exact .inr hd
    | str hb hp hk =>
      rw [hb, hp]
      exact Step.no (.closX rfl rfl (show b.kind ≠ 0 by omega) (.inr hk) (.inl (by simp)))
    | clos k pv t it f d first hk => exact Step.begin
    | closX hb hp hk hs hd => rw [hb, hp]; exact Step.begin
  · rw [if_neg a2]
    cases h with
    | idle =>
      rw [if_pos (show pb0.how = 0 from rfl)]
      have : idleP pb0 c = (pb0, false) := if_neg a2
      rw [this]
      exact Step.zero
    | esc i => exact esc_step i c a2
    | head k pv t it hk hi => exact head_step k pv t it hk hi hf.np (fun q hq => (hf.nq q hq).2.1) c a2
    | headX hb hp hk h1 hs hd =>
      rw [hb, hp]
      exact headX_step hb hp hk h1 hs hd c a2
    | data k pv t it f d first hk hl => exact data_step k pv t it f d first hk hl c a2
    | dataX hb hp hk h1 hs hd =>
      rw [hb, hp]
      exact dataX_step hb hp hk h1 hs hd c a2
    | str hb hp hk =>
      rw [hb, hp]
      have : strP b c = (b, false) := if_neg a2
      show Step (strP b c) (p, [])
      rw [this]
      exact Step.no (.str hb hp hk)
    | clos k pv t it f d first hk =>
      show Step (closeP _ c) (if c.toNat = 92 then _ else _)
      unfold closeP
      by_cases a3 : c.toNat = 92
      · rw [if_pos a3, if_pos a3]
        exact .inr ⟨rfl, rfl⟩
      · rw [if_neg a3, if_neg a3]
        have := esc_step [] c a2
        exact this
    | closX hb hp hk hs hd =>
      rw [hb, hp]
      show Step (closeP b c) (if c.toNat = 92 then (hp0, toldH p) else escH hp0 c)
      unfold closeP
      by_cases a3 : c.toNat = 92
      · rw [if_pos a3, if_pos a3, hd.told']
        refine .inr ⟨rfl, ?_⟩
        rcases hs with hs | hs
        · rw [end_spoilt hs]
        · rw [end_kind hs]
      · rw [if_neg a3, if_neg a3]
        exact esc_step [] c a2
end Go.Proofs.YtdpdgdidfikphaaDoor
