/-
  Layer 17's mathematics: what is clean of a paste; pastes told back.
-/
import Derived.Test.YtgaoijinchakoaaDoorG01
namespace Go.Proofs.YtgaoijinchakoaaDoor
def clnP (r : Int) : Bool := decide (r = 9) || decide (r = 10) || decide (r = 13) || decide (32 ≤ r) && (decide (r < 127) || decide (159 < r))
def clnN : Nat → List UInt8 → List UInt8
 | 0, _ => []
 | n + 1, l => if l = [] then [] else (if 0 < (takeL l).2 ∧ clnP (takeL l).1 = true then l.take (takeL l).2 else []) ++ clnN n (l.drop (max (takeL l).2 1))
def clnL (l : List UInt8) : List UInt8 := clnN l.length l
def cptN : Nat → List UInt8 → List Int
 | 0, _ => []
 | n + 1, l => if l = [] then [] else (if 0 < (takeL l).2 ∧ clnP (takeL l).1 = true then [(takeL l).1] else []) ++ cptN n (l.drop (max (takeL l).2 1))
def okC (ks : List Int) : Prop := ks.all isPt = true ∧ ks.all clnP = true
theorem okC_nil : okC [] := ⟨rfl, rfl⟩
theorem okC_app {a b : List Int} (ha : okC a) (hb : okC b) : okC (a ++ b) := ⟨by rw [List.all_append, ha.1, hb.1]; rfl, by rw [List.all_append, ha.2, hb.2]; rfl⟩
theorem okC_tail {r : Int} {ks : List Int} (h : okC (r :: ks)) : isPt r = true ∧ clnP r = true ∧ okC ks := by
 obtain ⟨h1, h2⟩ := h
 simp only [List.all_cons, Bool.and_eq_true] at h1 h2
 exact ⟨h1.1, h2.1, h1.2, h2.2⟩
theorem cat_app (a b : List Int) : catL (a ++ b) = catL a ++ catL b := by simp [catL]
theorem cat_cons (r : Int) (ks : List Int) : catL (r :: ks) = putL r ++ catL ks := by simp [catL]
theorem cat_one (r : Int) : catL [r] = putL r := by simp [catL]
theorem put_pos {r : Int} (h : isPt r = true) : putL r ≠ [] ∧ 0 < (putL r).length := by
 have h1 := putL_length h
 have h2 := (cnt_bd r).1
 refine ⟨fun e => ?_, by omega⟩
 rw [e] at h1
 simp at h1
 omega
theorem cln_step (n : Nat) {l : List UInt8} (h : l ≠ []) : clnN (n + 1) l = (if 0 < (takeL l).2 ∧ clnP (takeL l).1 = true then l.take (takeL l).2 else []) ++ clnN n (l.drop (max (takeL l).2 1)) := if_neg h
theorem cpt_step (n : Nat) {l : List UInt8} (h : l ≠ []) : cptN (n + 1) l = (if 0 < (takeL l).2 ∧ clnP (takeL l).1 = true then [(takeL l).1] else []) ++ cptN n (l.drop (max (takeL l).2 1)) := if_neg h
theorem drop_less {l : List UInt8} (h : l ≠ []) (k : Nat) : (l.drop (max k 1)).length < l.length := by
 have : 0 < l.length := List.length_pos_iff.2 h
 rw [List.length_drop]
 omega
theorem cln_nil (n : Nat) : clnN n [] = [] := by
 cases n with
 | zero => rfl
 | succ n => exact if_pos rfl
theorem cln_enough : ∀ (n m : Nat) (l : List UInt8), l.length ≤ n → l.length ≤ m → clnN n l = clnN m l
 | 0, m, l, h, _ => by
   rw [List.length_eq_zero_iff.1 (Nat.le_zero.1 h), cln_nil, cln_nil]
 | n + 1, 0, l, _, h => by
   rw [List.length_eq_zero_iff.1 (Nat.le_zero.1 h), cln_nil, cln_nil]
 | n + 1, m + 1, l, h, g => by
   by_cases hl : l = []
   ·subst hl; rw [cln_nil, cln_nil]
   ·have := drop_less hl (takeL l).2
    rw [cln_step n hl, cln_step m hl, cln_enough n m _ (by omega) (by omega)]
theorem cln_pts : ∀ (n : Nat) (l : List UInt8), l.length ≤ n → clnN n l = catL (cptN n l) ∧ okC (cptN n l)
 | 0, l, _ => ⟨rfl, okC_nil⟩
 | n + 1, l, h => by
   by_cases hl : l = []
   ·subst hl
    rw [cln_nil, show cptN (n + 1) [] = [] from if_pos rfl]
    exact ⟨rfl, okC_nil⟩
   ·have := drop_less hl (takeL l).2
    obtain ⟨h1, h2⟩ := cln_pts n (l.drop (max (takeL l).2 1)) (by omega)
    rw [cln_step n hl, cpt_step n hl, cat_app, ← h1]
    by_cases hc : 0 < (takeL l).2 ∧ clnP (takeL l).1 = true
    ·rw [if_pos hc, if_pos hc]
     rcases take_is l with hz | ⟨r, m, hr, he, ht⟩
     ·rw [hz] at hc
      exact absurd hc.1 (by decide)
     ·have hx : l.take (takeL l).2 = putL r := by
       rw [ht]
       show l.take (cnt r) = putL r
       rw [he, ← putL_length hr, List.take_left]
      have hp : clnP r = true := by have := hc.2; rwa [ht] at this
      rw [hx, show (takeL l).1 = r by rw [ht]]
      exact ⟨by rw [cat_one], okC_app ⟨by simp [hr], by simp [hp]⟩ h2⟩
    ·rw [if_neg hc, if_neg hc]
     exact ⟨rfl, h2⟩
theorem cln_put {r : Int} (h : isPt r = true) (m : List UInt8) : clnL (putL r ++ m) = (if clnP r = true then putL r else []) ++ clnL m := by
 have ht := take_put h m
 have hc := (cnt_bd r).1
 obtain ⟨hne, hpos⟩ := put_pos h
 have hl : putL r ++ m ≠ [] := fun e => hne (List.append_eq_nil_iff.1 e).1
 have hlen := putL_length h
 have hn : (putL r ++ m).length = (putL r ++ m).length - 1 + 1 := by rw [List.length_append]; omega
 unfold clnL
 rw [hn, cln_step _ hl, ht]
 show (if 0 < cnt r ∧ clnP r = true then (putL r ++ m).take (cnt r) else []) ++ clnN ((putL r ++ m).length - 1) ((putL r ++ m).drop (max (cnt r) 1)) = _
 rw [show max (cnt r) 1 = (putL r).length by omega, List.drop_left, ← hlen, List.take_left, cln_enough _ m.length m (by rw [List.length_append]; omega) (Nat.le_refl _)]
 congr 1
 by_cases hp : clnP r = true
 ·rw [if_pos ⟨hpos, hp⟩, if_pos hp]
 ·rw [if_neg (fun x => hp x.2), if_neg hp]
theorem cln_cat : ∀ (ks : List Int), okC ks → ∀ m, clnL (catL ks ++ m) = catL ks ++ clnL m
 | [], _, m => rfl
 | r :: ks, h, m => by
   obtain ⟨h1, h2, h3⟩ := okC_tail h
   rw [cat_cons, List.append_assoc, cln_put h1, if_pos h2, cln_cat ks h3 m, List.append_assoc]
theorem cln_self {ks : List Int} (h : okC ks) : clnL (catL ks) = catL ks := by
 have := cln_cat ks h []
 rw [List.append_nil] at this
 rw [this]
 show catL ks ++ [] = _
 rw [List.append_nil]
theorem cln_is (l : List UInt8) : ∃ ks, clnL l = catL ks ∧ okC ks := ⟨_, cln_pts l.length l (Nat.le_refl _)⟩
theorem cln_twice (l : List UInt8) : clnL (clnL l) = clnL l := by
 obtain ⟨ks, h1, h2⟩ := cln_is l
 rw [h1, cln_self h2]
theorem cln_all (l : List UInt8) : ∃ ks, allL (clnL l) = some ks ∧ clnL l = catL ks ∧ okC ks := by
 obtain ⟨ks, h1, h2⟩ := cln_is l
 refine ⟨ks, ?_, h1, h2⟩
 have := all_cat ks h2.1 []
 rw [List.append_nil, show allL [] = some [] from rfl] at this
 rw [h1, this]
 simp
theorem cln_le : ∀ (n : Nat) (l : List UInt8), (clnN n l).length ≤ l.length
 | 0, _ => Nat.zero_le _
 | n + 1, l => by
   by_cases hl : l = []
   ·subst hl; rw [cln_nil]; exact Nat.le_refl _
   ·have h1 := cln_le n (l.drop (max (takeL l).2 1))
    have h2 := drop_less hl (takeL l).2
    rw [cln_step n hl, List.length_append]
    split
    ·rename_i hc
     rw [List.length_take]
     rw [List.length_drop] at h1
     omega
    ·simp only [List.length_nil]
     omega
theorem cln_iff (l : List UInt8) : clnL l = l ↔ ∃ ks, allL l = some ks ∧ ks.all clnP = true := by
 constructor
 ·intro h
  obtain ⟨ks, h1, _, h3⟩ := cln_all l
  rw [h] at h1
  exact ⟨ks, h1, h3.2⟩
 ·rintro ⟨ks, h1, h2⟩
  obtain ⟨g1, g2⟩ := text_all_n _ _ (Nat.le_refl _) ks h1
  rw [← g2]
  exact cln_self ⟨g1, h2⟩
theorem cln_join (a b : List UInt8) : clnL (clnL a ++ clnL b) = clnL a ++ clnL b := by
 obtain ⟨ks, h1, h2⟩ := cln_is a
 obtain ⟨js, g1, g2⟩ := cln_is b
 rw [h1, g1, ← cat_app, cln_self (okC_app h2 g2)]
def runN : Nat → List UInt8 → Nat
 | 0, _ => 0
 | n + 1, l => if l = [] then 0 else if (takeL l).2 = 0 ∨ clnP (takeL l).1 = false then 0 else (takeL l).2 + runN n (l.drop (takeL l).2)
def runL (l : List UInt8) : Nat := runN l.length l
theorem run_nil (n : Nat) : runN n [] = 0 := by
 cases n with
 | zero => rfl
 | succ n => exact if_pos rfl
theorem run_step (n : Nat) {l : List UInt8} (h : l ≠ []) : runN (n + 1) l = if (takeL l).2 = 0 ∨ clnP (takeL l).1 = false then 0 else (takeL l).2 + runN n (l.drop (takeL l).2) := if_neg h
theorem run_enough : ∀ (n m : Nat) (l : List UInt8), l.length ≤ n → l.length ≤ m → runN n l = runN m l
 | 0, m, l, h, _ => by rw [List.length_eq_zero_iff.1 (Nat.le_zero.1 h), run_nil, run_nil]
 | n + 1, 0, l, _, h => by rw [List.length_eq_zero_iff.1 (Nat.le_zero.1 h), run_nil, run_nil]
 | n + 1, m + 1, l, h, g => by
   by_cases hl : l = []
   ·subst hl; rw [run_nil, run_nil]
   ·rw [run_step n hl, run_step m hl]
    by_cases hc : (takeL l).2 = 0 ∨ clnP (takeL l).1 = false
    ·rw [if_pos hc, if_pos hc]
    ·rw [if_neg hc, if_neg hc]
     have h2 : (l.drop (takeL l).2).length < l.length := by
      have : 0 < l.length := List.length_pos_iff.2 hl
      rw [List.length_drop]
      omega
     rw [run_enough n m _ (by omega) (by omega)]
theorem run_put {r : Int} (h : isPt r = true) (hc : clnP r = true) (m : List UInt8) : runL (putL r ++ m) = (putL r).length + runL m := by
 have ht := take_put h m
 have hcn := (cnt_bd r).1
 obtain ⟨hne, hpos⟩ := put_pos h
 have hl : putL r ++ m ≠ [] := fun e => hne (List.append_eq_nil_iff.1 e).1
 have hlen := putL_length h
 have hn : (putL r ++ m).length = (putL r ++ m).length - 1 + 1 := by rw [List.length_append]; omega
 unfold runL
 rw [hn, run_step _ hl, ht]
 show (if cnt r = 0 ∨ clnP r = false then 0 else cnt r + runN ((putL r ++ m).length - 1) ((putL r ++ m).drop (cnt r))) = _
 rw [if_neg (by rw [hc]; simp; omega), ← hlen, List.drop_left, run_enough _ m.length m (by rw [List.length_append]; omega) (Nat.le_refl _)]
theorem run_cat : ∀ (ks : List Int), okC ks → ∀ m, runL (catL ks ++ m) = (catL ks).length + runL m
 | [], _, m => by show runL m = 0 + runL m; omega
 | r :: ks, h, m => by
   obtain ⟨h1, h2, h3⟩ := okC_tail h
   rw [cat_cons, List.append_assoc, run_put h1 h2, run_cat ks h3 m, List.length_append]
   omega
theorem run_esc (m : List UInt8) : runL (27 :: m) = 0 := by
 have h : isPt 27 = true := by decide
 have ht := take_put h m
 rw [show putL 27 ++ m = 27 :: m from rfl] at ht
 unfold runL
 rw [show (27 :: m).length = m.length + 1 from rfl, run_step _ (by simp), ht, if_pos (.inr (by decide))]
theorem run_is : ∀ (n : Nat) (l : List UInt8), l.length ≤ n → ∃ ks m, okC ks ∧ l = catL ks ++ m ∧ runN n l = (catL ks).length
 | 0, l, _ => ⟨[], l, okC_nil, rfl, rfl⟩
 | n + 1, l, h => by
   by_cases hl : l = []
   ·subst hl
    exact ⟨[], [], okC_nil, rfl, run_nil _⟩
   ·rw [run_step n hl]
    by_cases hc : (takeL l).2 = 0 ∨ clnP (takeL l).1 = false
    ·rw [if_pos hc]
     exact ⟨[], l, okC_nil, rfl, rfl⟩
    ·rw [if_neg hc]
     rcases take_is l with hz | ⟨r, m, hr, he, ht⟩
     ·exact absurd (.inl (by rw [hz])) hc
     ·have hlen := putL_length hr
      have hcn := (cnt_bd r).1
      have hd : l.drop (takeL l).2 = m := by
       rw [ht]
       show l.drop (cnt r) = m
       rw [he, ← hlen, List.drop_left]
      have hm : m.length < l.length := by rw [he, List.length_append]; omega
      obtain ⟨ks, m', h1, h2, h3⟩ := run_is n m (by omega)
      have hp : clnP r = true := by
       cases e : clnP r with
       | true => rfl
       | false => exact absurd (.inr (by rw [ht]; exact e)) hc
      refine ⟨r :: ks, m', ⟨by simp [hr, h1.1], by simp [hp, h1.2]⟩, ?_, ?_⟩
      ·rw [cat_cons, List.append_assoc, ← h2, ← he]
      ·rw [hd, h3, cat_cons, List.length_append, ht, hlen]
def openB : List UInt8 := [27, 91, 50, 48, 48, 126]
def closeB : List UInt8 := [27, 91, 50, 48, 49, 126]
def begB (l s : List UInt8) : Bool := s.isPrefixOf l
theorem beg_iff {l s : List UInt8} : begB l s = true ↔ ∃ t, l = s ++ t := by
 unfold begB
 rw [List.isPrefixOf_iff_prefix]
 exact ⟨fun ⟨t, h⟩ => ⟨t, h.symm⟩, fun ⟨t, h⟩ => ⟨t, h.symm⟩⟩
def takeP (l : List UInt8) : List UInt8 × Nat × Bool :=
 if begB l openB = true ∧ begB (l.drop (6 + runL (l.drop 6))) closeB = true then ((l.drop 6).take (runL (l.drop 6)), 6 + runL (l.drop 6) + 6, true) else ([], 0, false)
theorem paste_is {ks : List Int} (h : okC ks) (m : List UInt8) : takeP (openB ++ (catL ks ++ (closeB ++ m))) = (catL ks, 12 + (catL ks).length, true) := by
 have hd : (openB ++ (catL ks ++ (closeB ++ m))).drop 6 = catL ks ++ (closeB ++ m) := rfl
 have hr : runL (catL ks ++ (closeB ++ m)) = (catL ks).length := by
  rw [run_cat ks h]
  show _ + runL (27 :: _) = _
  rw [run_esc, Nat.add_zero]
 have he : (openB ++ (catL ks ++ (closeB ++ m))).drop (6 + (catL ks).length) = closeB ++ m := by
  rw [← List.drop_drop, hd, List.drop_left]
 unfold takeP
 rw [hd, hr, he, if_pos ⟨beg_iff.2 ⟨_, rfl⟩, beg_iff.2 ⟨_, rfl⟩⟩, List.take_left]
 congr 2
 omega
theorem paste_only {l : List UInt8} (h : (takeP l).2.2 = true) : ∃ ks m, okC ks ∧ l = openB ++ (catL ks ++ (closeB ++ m)) := by
 unfold takeP at h
 split at h
 ·rename_i hc
  obtain ⟨t, ht⟩ := beg_iff.1 hc.1
  have hd : l.drop 6 = t := by rw [ht]; rfl
  obtain ⟨ks, m, h1, h2, h3⟩ := run_is t.length t (Nat.le_refl _)
  have hr : runL t = (catL ks).length := h3
  have h4 := hc.2
  rw [hd, hr, ← List.drop_drop, hd, h2, List.drop_left] at h4
  obtain ⟨u, hu⟩ := beg_iff.1 h4
  exact ⟨ks, u, h1, by rw [ht, h2, hu]⟩
 ·cases h
theorem paste_cut {ks : List Int} (h : okC ks) {n : Nat} (hn : n < (openB ++ (catL ks ++ closeB)).length) : (takeP ((openB ++ (catL ks ++ closeB)).take n)).2.2 = false := by
 cases e : (takeP ((openB ++ (catL ks ++ closeB)).take n)).2.2 with
 | false => rfl
 | true =>
   exfalso
   obtain ⟨js, m, h1, h2⟩ := paste_only e
   have hz : openB ++ (catL ks ++ closeB) = openB ++ (catL js ++ (closeB ++ (m ++ (openB ++ (catL ks ++ closeB)).drop n))) := by
    have := (List.take_append_drop n (openB ++ (catL ks ++ closeB))).symm
    refine this.trans ?_
    rw [h2]
    simp only [List.append_assoc]
   have t1 := paste_is h []
   rw [List.append_nil] at t1
   have t2 := paste_is h1 (m ++ (openB ++ (catL ks ++ closeB)).drop n)
   rw [← hz, t1] at t2
   have hl : (catL ks).length = (catL js).length := by
    have := (Prod.mk.inj (Prod.mk.inj t2).2).1
    omega
   have h3 := congrArg List.length h2
   rw [List.length_take] at h3
   simp only [List.length_append] at h3 hn
   simp only [openB, closeB, List.length_cons, List.length_nil] at h3 hn
   omega
def sendP (paste : Bool) (l : List UInt8) : List UInt8 := if paste = true then openB ++ (clnL l ++ closeB) else clnL l
theorem paste_back (l m : List UInt8) : takeP (sendP true l ++ m) = (clnL l, (sendP true l).length, true) := by
 obtain ⟨ks, h1, h2⟩ := cln_is l
 unfold sendP
 rw [if_pos rfl, h1, List.append_assoc, List.append_assoc, paste_is h2]
 congr 2
 simp [openB, closeB]
 omega
theorem paste_part (l : List UInt8) {n : Nat} (hn : n < (sendP true l).length) : (takeP ((sendP true l).take n)).2.2 = false := by
 obtain ⟨ks, h1, h2⟩ := cln_is l
 unfold sendP at hn ⊢
 rw [if_pos rfl, h1] at hn ⊢
 exact paste_cut h2 hn
end Go.Proofs.YtgaoijinchakoaaDoor
