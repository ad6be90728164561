/-
  Layer 8's mathematics: flags that are kept.
-/
import Derived.Test.YtocbkcofmebfmaaBase
namespace Go.Proofs.Ytocbkcofmebfmaa

def flg (n : Int) : Int := max n 0 % 32
theorem flg_rng (n : Int) : 0 ≤ flg n ∧ flg n < 32 := by
  unfold flg
  omega
theorem flg_id {n : Int} (h : 0 ≤ n ∧ n < 32) : flg n = n := by
  unfold flg
  omega
def inK (n : Int) : Prop := -9223372036854775808 ≤ n ∧ n ≤ 9223372036854775807
/-- A stack. -/
structure St where
  now : Int
  kept : List Int
def okF (n : Int) : Prop := 0 ≤ n ∧ n < 32
def okS (s : St) : Prop := okF s.now ∧ (∀ z ∈ s.kept, okF z) ∧ s.kept.length ≤ 8
def last8 (l : List Int) : List Int := l.drop (l.length - 8)
def pushS (s : St) (f : Int) : St := ⟨flg f, last8 (s.kept ++ [s.now])⟩
def pop1 (s : St) : St := match s.kept.getLast? with
  | some v => ⟨v, s.kept.dropLast⟩
  | none => ⟨0, []⟩
def popN : Nat → St → St
  | 0, s => s
  | n + 1, s => popN n (pop1 s)
def popS (s : St) (n : Int) : St := popN n.toNat s
def bitF (n b : Int) : Bool := n / b % 2 == 1
def putB (now f how b : Int) : Bool := how == 2 && (bitF now b || bitF f b) || how == 3 && bitF now b && !bitF f b || how == 1 && bitF f b
def putL (now f how : Int) (l : List Int) : Int := (l.map fun b => if putB now f how b then b else 0).sum
def putN (now f how : Int) : Int := putL now f how [1, 2, 4, 8, 16]
def putS (s : St) (f how : Int) : St := if 1 ≤ how ∧ how ≤ 3 then ⟨putN s.now (flg f) how, s.kept⟩ else s
def bothN (a b : Int) : Int := (([1, 2, 4, 8, 16] : List Int).map fun k => if bitF a k && bitF b k then k else 0).sum
def sameS (a b : St) : Bool := decide (a.now = b.now) && decide (a.kept = b.kept)
theorem last8_len (l : List Int) : (last8 l).length = min l.length 8 := by
  unfold last8
  rw [List.length_drop]
  omega
theorem last8_sub {l : List Int} {z : Int} (h : z ∈ last8 l) : z ∈ l := List.mem_of_mem_drop h
theorem last8_id {l : List Int} (h : l.length ≤ 8) : last8 l = l := by
  unfold last8
  rw [Nat.sub_eq_zero_of_le h, List.drop_zero]
theorem ok_push {s : St} (h : okS s) (f : Int) : okS (pushS s f) := by
  refine ⟨flg_rng f, fun z hz => ?_, ?_⟩
  · rcases List.mem_append.1 (last8_sub hz) with h1 | h1
    · exact h.2.1 z h1
    · simp at h1
      rw [h1]
      exact h.1
  · show (last8 _).length ≤ 8
    rw [last8_len]
    omega
theorem pop1_snoc (l : List Int) (v now : Int) : pop1 ⟨now, l ++ [v]⟩ = ⟨v, l⟩ := by simp [pop1]
theorem pop1_nil (now : Int) : pop1 ⟨now, []⟩ = ⟨0, []⟩ := rfl
theorem ok_pop1 {s : St} (h : okS s) : okS (pop1 s) := by
  obtain ⟨now, k⟩ := s
  rcases List.eq_nil_or_concat k with rfl | ⟨l, v, rfl⟩
  · exact ⟨⟨show (0 : Int) ≤ 0 by decide, show (0 : Int) < 32 by decide⟩, by simp [pop1], by simp [pop1]⟩
  · rw [List.concat_eq_append, pop1_snoc]
    obtain ⟨_, h2, h3⟩ := h
    simp at h2 h3
    exact ⟨h2 v (.inr rfl), fun z hz => h2 z (.inl hz), by show l.length ≤ 8; omega⟩
theorem ok_popN : ∀ (n : Nat) {s : St}, okS s → okS (popN n s)
  | 0, _, h => h
  | n + 1, _, h => ok_popN n (ok_pop1 h)
theorem ok_pop {s : St} (h : okS s) (n : Int) : okS (popS s n) := ok_popN _ h
theorem popN_add (a b : Nat) : ∀ s, popN (a + b) s = popN b (popN a s) := by
  induction a with
  | zero => intro s; rw [Nat.zero_add]; rfl
  | succ a ih =>
    intro s
    rw [Nat.succ_add]
    exact ih (pop1 s)
theorem pop1_zero : pop1 ⟨0, []⟩ = ⟨0, []⟩ := rfl
theorem popN_zero : ∀ n, popN n ⟨0, []⟩ = ⟨0, []⟩
  | 0 => rfl
  | n + 1 => popN_zero n
/-- Popped more often than there is to pop: no flag is left. -/
theorem popN_all : ∀ (n : Nat) (s : St), s.kept.length < n → popN n s = ⟨0, []⟩
  | n + 1, ⟨now, k⟩, h => by
    show popN n (pop1 _) = _
    rcases List.eq_nil_or_concat k with rfl | ⟨l, v, rfl⟩
    · rw [pop1_nil, popN_zero]
    · rw [List.concat_eq_append, pop1_snoc]
      refine popN_all n _ ?_
      simp at h
      show l.length < n
      omega
theorem popN_many {n : Nat} {s : St} (h : s.kept.length + 1 ≤ n) : popN n s = popN (s.kept.length + 1) s := by
  rw [popN_all n s (by omega), popN_all _ s (by omega)]
/-- What stands behind k pops, of as many as are kept. -/
theorem popN_take : ∀ (k : Nat) (s : St), k < s.kept.length → popN (k + 1) s = ⟨s.kept.getD (s.kept.length - 1 - k) 0, s.kept.take (s.kept.length - 1 - k)⟩
  | k, ⟨now, l⟩, h => by
    rcases List.eq_nil_or_concat l with rfl | ⟨x, v, rfl⟩
    · simp at h
    · show popN k (pop1 _) = _
      rw [List.concat_eq_append] at *
      rw [pop1_snoc]
      simp only [List.length_append, List.length_singleton] at h ⊢
      match k with
      | 0 => simp [popN, List.getD_eq_getElem?_getD]
      | k + 1 =>
        rw [popN_take k _ (by show k < x.length; omega)]
        show St.mk (x.getD (x.length - 1 - k) 0) (x.take (x.length - 1 - k)) = _
        have e : x.length + 1 - 1 - (k + 1) = x.length - 1 - k := by omega
        rw [e]
        congr 1
        · rw [List.getD_eq_getElem?_getD, List.getD_eq_getElem?_getD, List.getElem?_append_left (by omega)]
        · rw [List.take_append_of_le_length (by omega)]
/-- What is pushed, and popped once. -/
theorem pop_push {s : St} (f : Int) (h : s.kept.length < 8) : popS (pushS s f) 1 = s := by
  show pop1 ⟨flg f, last8 (s.kept ++ [s.now])⟩ = s
  rw [last8_id (by simp; omega), pop1_snoc]
theorem pop_push_deep {s : St} (f : Int) (h : s.kept.length = 8) : popS (pushS s f) 1 = ⟨s.now, s.kept.drop 1⟩ := by
  show pop1 ⟨flg f, last8 (s.kept ++ [s.now])⟩ = _
  have e : last8 (s.kept ++ [s.now]) = s.kept.drop 1 ++ [s.now] := by
    unfold last8
    rw [List.length_append, h, List.length_singleton, List.drop_append_of_le_length (by omega)]
  rw [e, pop1_snoc]
theorem push_last (s : St) (f : Int) : (pushS s f).kept ≠ [] ∧ (pushS s f).kept.getD ((pushS s f).kept.length - 1) 0 = s.now := by
  show last8 (s.kept ++ [s.now]) ≠ [] ∧ (last8 (s.kept ++ [s.now])).getD ((last8 (s.kept ++ [s.now])).length - 1) 0 = s.now
  have hl : (last8 (s.kept ++ [s.now])).length = min (s.kept.length + 1) 8 := by rw [last8_len]; simp
  refine ⟨fun h => by rw [h] at hl; simp at hl; omega, ?_⟩
  rw [hl]
  unfold last8
  rw [List.getD_eq_getElem?_getD, List.getElem?_drop]
  have e : (s.kept ++ [s.now]).length - 8 + (min (s.kept.length + 1) 8 - 1) = s.kept.length := by simp; omega
  rw [e]
  simp
/-- What is pushed, and popped as often, is as it was. -/
def pushAll (s : St) (l : List Int) : St := l.foldl pushS s
theorem pushAll_snoc (s : St) (l : List Int) (x : Int) : pushAll s (l ++ [x]) = pushS (pushAll s l) x := by simp [pushAll]
theorem pushAll_kept : ∀ (l : List Int) (s : St), s.kept.length + l.length ≤ 8 → (pushAll s l).kept.length = s.kept.length + l.length
  | [], _, _ => rfl
  | x :: l, s, h => by
    show (pushAll (pushS s x) l).kept.length = _
    have e : (pushS s x).kept.length = s.kept.length + 1 := by
      show (last8 _).length = _
      rw [last8_len]
      simp at h ⊢
      omega
    rw [pushAll_kept l _ (by rw [e]; simp at h; omega), e]
    simp
    omega
theorem ok_pushAll : ∀ (l : List Int) {s : St}, okS s → okS (pushAll s l)
  | [], _, h => h
  | x :: l, _, h => ok_pushAll l (ok_push h x)
theorem pop_pushAll_n : ∀ (n : Nat) (l : List Int) (s : St), l.length = n → s.kept.length + l.length ≤ 8 → popN l.length (pushAll s l) = s
  | 0, l, s, hn, _ => by
    obtain rfl := List.length_eq_zero_iff.1 hn
    rfl
  | n + 1, l, s, hn, h => by
    rcases List.eq_nil_or_concat l with rfl | ⟨y, x, rfl⟩
    · cases hn
    · rw [List.concat_eq_append] at *
      simp at h hn
      rw [pushAll_snoc, List.length_append, List.length_singleton, Nat.add_comm, popN_add]
      have h1 : popN 1 (pushS (pushAll s y) x) = pushAll s y := pop_push x (by rw [pushAll_kept y s (by omega)]; omega)
      rw [h1]
      exact pop_pushAll_n n y s hn (by omega)
theorem pop_pushAll (l : List Int) (s : St) (h : s.kept.length + l.length ≤ 8) : popN l.length (pushAll s l) = s := pop_pushAll_n _ l s rfl h
theorem put_rng : ∀ (a f : Fin 32) (h : Fin 4), 0 ≤ putN a.1 f.1 h.1 ∧ putN a.1 f.1 h.1 < 32 := by decide +kernel
theorem put_two : ∀ (a f : Fin 32), putN a.1 f.1 2 = (a.1 : Int) + f.1 - bothN a.1 f.1 := by decide +kernel
theorem put_three : ∀ (a f : Fin 32), putN (putN a.1 f.1 2) f.1 3 = (a.1 : Int) - bothN a.1 f.1 := by decide +kernel
theorem both_rng : ∀ (a f : Fin 32), 0 ≤ bothN a.1 f.1 ∧ bothN a.1 f.1 < 32 := by decide +kernel
theorem put_one : ∀ (a f : Fin 32), putN a.1 f.1 1 = (f.1 : Int) := by decide +kernel
theorem fin_of {n : Int} (h : okF n) : ∃ k : Fin 32, n = k.1 := ⟨⟨n.toNat, by have := h.1; have := h.2; omega⟩, by have := h.1; show n = (n.toNat : Int); omega⟩
theorem ok_put {s : St} (h : okS s) (f how : Int) : okS (putS s f how) := by
  unfold putS
  split
  · obtain ⟨a, ha⟩ := fin_of h.1
    obtain ⟨b, hb⟩ := fin_of (flg_rng f)
    have h3 : ∃ k : Fin 4, how = k.1 := ⟨⟨how.toNat, by omega⟩, by show how = (how.toNat : Int); omega⟩
    obtain ⟨k, hk⟩ := h3
    refine ⟨?_, h.2⟩
    show okF (putN s.now (flg f) how)
    rw [ha, hb, hk]
    exact put_rng a b k
  · exact h
theorem sameS_self (a : St) : sameS a a = true := by simp [sameS]
end Go.Proofs.Ytocbkcofmebfmaa
