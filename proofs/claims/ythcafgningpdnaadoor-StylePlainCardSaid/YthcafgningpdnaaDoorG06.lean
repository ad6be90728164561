/-
  Layer 2's mathematics: code points and their bytes; the first one of a list of bytes; all of them.
-/
import Derived.Lib.Hide
namespace Go.Proofs.YthcafgningpdnaaDoor
def isPt (r : Int) : Bool := decide (0 ≤ r) && decide (r ≤ 1114111) && (decide (r < 55296) || decide (57343 < r))
theorem isPt_iff (r : Int) : isPt r = true ↔ (0 ≤ r ∧ r ≤ 1114111 ∧ (r < 55296 ∨ 57343 < r)) := by
 simp [isPt, and_assoc]
def byt (k : Int) : UInt8 := UInt8.ofNat k.toNat
theorem byt_nat (k : Int) (h : 0 ≤ k) (h1 : k < 256) : ((byt k).toNat : Int) = k := by
 unfold byt
 rw [UInt8.toNat_ofNat_of_lt' (by show k.toNat < 256; omega)]; omega
theorem byt_of (c : UInt8) (k : Int) (h : (c.toNat : Int) = k) : byt k = c := by
 subst h
 unfold byt
 simp
def cnt (r : Int) : Nat := if r < 128 then 1 else if r < 2048 then 2 else if r < 65536 then 3 else 4
def putL (r : Int) : List UInt8 :=
 if isPt r = false then [] else if r < 128 then [byt r] else if r < 2048 then [byt (192 + r / 64), byt (128 + r % 64)]
 else if r < 65536 then [byt (224 + r / 4096), byt (128 + r / 64 % 64), byt (128 + r % 64)]
 else [byt (240 + r / 262144), byt (128 + r / 4096 % 64), byt (128 + r / 64 % 64), byt (128 + r % 64)]
theorem putL_1 {r : Int} (h : isPt r = true) (h1 : r < 128) : putL r = [byt r] := by unfold putL; rw [if_neg (by rw [h]; decide), if_pos h1]
theorem putL_2 {r : Int} (h : isPt r = true) (h1 : 128 ≤ r) (h2 : r < 2048) : putL r = [byt (192 + r / 64), byt (128 + r % 64)] := by unfold putL; rw [if_neg (by rw [h]; decide), if_neg (by omega), if_pos h2]
theorem putL_3 {r : Int} (h : isPt r = true) (h1 : 2048 ≤ r) (h2 : r < 65536) : putL r = [byt (224 + r / 4096), byt (128 + r / 64 % 64), byt (128 + r % 64)] := by unfold putL; rw [if_neg (by rw [h]; decide), if_neg (by omega), if_neg (by omega), if_pos h2]
theorem putL_4 {r : Int} (h : isPt r = true) (h1 : 65536 ≤ r) : putL r = [byt (240 + r / 262144), byt (128 + r / 4096 % 64), byt (128 + r / 64 % 64), byt (128 + r % 64)] := by unfold putL; rw [if_neg (by rw [h]; decide), if_neg (by omega), if_neg (by omega), if_neg (by omega)]
theorem putL_length {r : Int} (h : isPt r = true) : (putL r).length = cnt r := by
 unfold putL cnt
 rw [if_neg (by rw [h]; decide)]
 repeat' split
 all_goals rfl
theorem cnt_bd (r : Int) : 1 ≤ cnt r ∧ cnt r ≤ 4 := by unfold cnt; repeat' split
                                                       all_goals omega
def fol (c : UInt8) : Bool := decide (128 ≤ c.toNat) && decide (c.toNat < 192)
theorem fol_iff (c : UInt8) : fol c = true ↔ 128 ≤ c.toNat ∧ c.toNat < 192 := by simp [fol]
def num1 (a : UInt8) : Int := a.toNat
def num2 (a b : UInt8) : Int := ((a.toNat : Int) - 192) * 64 + ((b.toNat : Int) - 128)
def num3 (a b c : UInt8) : Int := (((a.toNat : Int) - 224) * 64 + ((b.toNat : Int) - 128)) * 64 + ((c.toNat : Int) - 128)
def num4 (a b c d : UInt8) : Int := ((((a.toNat : Int) - 240) * 64 + ((b.toNat : Int) - 128)) * 64 + ((c.toNat : Int) - 128)) * 64 + ((d.toNat : Int) - 128)
def takeL : List UInt8 → Int × Nat
 | [] => (0, 0)
 | a :: l =>
   if a.toNat < 192 then (if a.toNat < 128 then (num1 a, 1) else (0, 0))
   else if a.toNat < 224 then (match l with
    | b :: _ => if fol b = true ∧ isPt (num2 a b) = true ∧ 128 ≤ num2 a b then (num2 a b, 2) else (0, 0)
    | _ => (0, 0))
   else if a.toNat < 240 then (match l with
    | b :: c :: _ => if fol b = true ∧ fol c = true ∧ isPt (num3 a b c) = true ∧ 2048 ≤ num3 a b c then (num3 a b c, 3) else (0, 0)
    | _ => (0, 0))
   else (match l with
    | b :: c :: d :: _ => if fol b = true ∧ fol c = true ∧ fol d = true ∧ isPt (num4 a b c d) = true ∧ 65536 ≤ num4 a b c d then (num4 a b c d, 4) else (0, 0)
    | _ => (0, 0))
theorem take_put {r : Int} (h : isPt r = true) (m : List UInt8) : takeL (putL r ++ m) = (r, cnt r) := by
 obtain ⟨h0, h1, h2⟩ := (isPt_iff r).1 h
 have hc : cnt r = if r < 128 then 1 else if r < 2048 then 2 else if r < 65536 then 3 else 4 := rfl
 by_cases a1 : r < 128
 ·rw [putL_1 h a1, hc, if_pos a1]
  have b0 := byt_nat r (by omega) (by omega)
  simp only [List.cons_append, List.nil_append, takeL]
  rw [if_pos (by omega), if_pos (by omega)]
  unfold num1
  rw [b0]
 ·by_cases a2 : r < 2048
  ·rw [putL_2 h (by omega) a2, hc, if_neg a1, if_pos a2]
   have b0 := byt_nat (192 + r / 64) (by omega) (by omega)
   have b1 := byt_nat (128 + r % 64) (by omega) (by omega)
   have e : num2 (byt (192 + r / 64)) (byt (128 + r % 64)) = r := by unfold num2; rw [b0, b1]; omega
   simp only [List.cons_append, List.nil_append, takeL]
   rw [if_neg (by omega), if_pos (by omega), e, if_pos ⟨(fol_iff _).2 (by omega), h, by omega⟩]
  ·by_cases a3 : r < 65536
   ·rw [putL_3 h (by omega) a3, hc, if_neg a1, if_neg a2, if_pos a3]
    have b0 := byt_nat (224 + r / 4096) (by omega) (by omega)
    have b1 := byt_nat (128 + r / 64 % 64) (by omega) (by omega)
    have b2 := byt_nat (128 + r % 64) (by omega) (by omega)
    have e : num3 (byt (224 + r / 4096)) (byt (128 + r / 64 % 64)) (byt (128 + r % 64)) = r := by unfold num3; rw [b0, b1, b2]; omega
    simp only [List.cons_append, List.nil_append, takeL]
    rw [if_neg (by omega), if_neg (by omega), if_pos (by omega), e, if_pos ⟨(fol_iff _).2 (by omega), (fol_iff _).2 (by omega), h, by omega⟩]
   ·rw [putL_4 h (by omega), hc, if_neg a1, if_neg a2, if_neg a3]
    have b0 := byt_nat (240 + r / 262144) (by omega) (by omega)
    have b1 := byt_nat (128 + r / 4096 % 64) (by omega) (by omega)
    have b2 := byt_nat (128 + r / 64 % 64) (by omega) (by omega)
    have b3 := byt_nat (128 + r % 64) (by omega) (by omega)
    have e : num4 (byt (240 + r / 262144)) (byt (128 + r / 4096 % 64)) (byt (128 + r / 64 % 64)) (byt (128 + r % 64)) = r := by unfold num4; rw [b0, b1, b2, b3]; omega
    simp only [List.cons_append, List.nil_append, takeL]
    rw [if_neg (by omega), if_neg (by omega), if_neg (by omega), e, if_pos ⟨(fol_iff _).2 (by omega), (fol_iff _).2 (by omega), (fol_iff _).2 (by omega), h, by omega⟩]
theorem take_is (l : List UInt8) : takeL l = (0, 0) ∨ ∃ r m, isPt r = true ∧ l = putL r ++ m ∧ takeL l = (r, cnt r) := by
 suffices key : takeL l = (0, 0) ∨ ∃ r m, isPt r = true ∧ l = putL r ++ m by
  rcases key with h | ⟨r, m, h, e⟩
  ·exact .inl h
  ·exact .inr ⟨r, m, h, e, by rw [e]; exact take_put h m⟩
 cases l with
 | nil => exact .inl rfl
 | cons a l =>
   have ha := a.toNat_lt
   simp only [takeL]
   by_cases a1 : a.toNat < 192
   ·rw [if_pos a1]
    by_cases a2 : a.toNat < 128
    ·refine .inr ⟨a.toNat, l, (isPt_iff _).2 (by omega), ?_⟩
     rw [putL_1 ((isPt_iff _).2 (by omega)) (by omega), byt_of a _ rfl]; rfl
    ·rw [if_neg a2]; exact .inl rfl
   ·rw [if_neg a1]
    by_cases a2 : a.toNat < 224
    ·rw [if_pos a2]
     match l with
     | [] => exact .inl rfl
     | b :: l =>
       dsimp only
       split
       ·rename_i hh
        obtain ⟨f1, hp, hge⟩ := hh
        have f1 := (fol_iff b).1 f1
        refine .inr ⟨num2 a b, l, hp, ?_⟩
        have e0 : num2 a b = ((a.toNat : Int) - 192) * 64 + ((b.toNat : Int) - 128) := rfl
        rw [putL_2 hp hge (by omega), byt_of a _ (by omega), byt_of b _ (by omega)]; rfl
       ·exact .inl rfl
    ·rw [if_neg a2]
     by_cases a3 : a.toNat < 240
     ·rw [if_pos a3]
      match l with
      | [] => exact .inl rfl
      | [_] => exact .inl rfl
      | b :: c :: l =>
        dsimp only
        split
        ·rename_i hh
         obtain ⟨f1, f2, hp, hge⟩ := hh
         have f1 := (fol_iff b).1 f1
         have f2 := (fol_iff c).1 f2
         refine .inr ⟨num3 a b c, l, hp, ?_⟩
         have e0 : num3 a b c = (((a.toNat : Int) - 224) * 64 + ((b.toNat : Int) - 128)) * 64 + ((c.toNat : Int) - 128) := rfl
         rw [putL_3 hp hge (by omega), byt_of a _ (by omega), byt_of b _ (by omega), byt_of c _ (by omega)]; rfl
        ·exact .inl rfl
     ·rw [if_neg a3]
      match l with
      | [] => exact .inl rfl
      | [_] => exact .inl rfl
      | [_, _] => exact .inl rfl
      | b :: c :: d :: l =>
        dsimp only
        split
        ·rename_i hh
         obtain ⟨f1, f2, f3, hp, hge⟩ := hh
         have f1 := (fol_iff b).1 f1
         have f2 := (fol_iff c).1 f2
         have f3 := (fol_iff d).1 f3
         refine .inr ⟨num4 a b c d, l, hp, ?_⟩
         have e0 : num4 a b c d = ((((a.toNat : Int) - 240) * 64 + ((b.toNat : Int) - 128)) * 64 + ((c.toNat : Int) - 128)) * 64 + ((d.toNat : Int) - 128) := rfl
         rw [putL_4 hp hge, byt_of a _ (by omega), byt_of b _ (by omega), byt_of c _ (by omega), byt_of d _ (by omega)]; rfl
        ·exact .inl rfl
def ptsN : Nat → List UInt8 → List (Int × Bool)
 | _, [] => []
 | 0, _ => []
 | n + 1, a :: l => if (takeL (a :: l)).2 = 0 then [(0, false)] else ((takeL (a :: l)).1, true) :: ptsN n ((a :: l).drop (takeL (a :: l)).2)
def ptsL (l : List UInt8) : List (Int × Bool) := ptsN l.length l
theorem ptsN_eq : ∀ (n m : Nat) (l : List UInt8), l.length ≤ n → l.length ≤ m → ptsN n l = ptsN m l := by
 intro n
 induction n with
 | zero => intro m l h _; cases l with
   | nil => cases m <;> rfl
   | cons a l => simp at h
 | succ n ih =>
   intro m l h h'
   cases l with
   | nil => cases m <;> rfl
   | cons a l =>
     cases m with
     | zero => simp at h'
     | succ m =>
       simp only [List.length_cons] at h h'
       unfold ptsN
       by_cases hz : (takeL (a :: l)).2 = 0
       ·rw [if_pos hz, if_pos hz]
       ·rw [if_neg hz, if_neg hz, ih m _ (by rw [List.length_drop, List.length_cons]; omega) (by rw [List.length_drop, List.length_cons]; omega)]
theorem ptsL_no {l : List UInt8} (h : 0 < l.length) (hz : (takeL l).2 = 0) : ptsL l = [(0, false)] := by
 cases l with
 | nil => simp at h
 | cons a l => show ptsN (l.length + 1) (a :: l) = _; unfold ptsN; rw [if_pos hz]
theorem ptsL_yes {l : List UInt8} (hz : (takeL l).2 ≠ 0) : ptsL l = ((takeL l).1, true) :: ptsL (l.drop (takeL l).2) := by
 cases l with
 | nil => exact absurd rfl hz
 | cons a l =>
   show ptsN (l.length + 1) (a :: l) = _
   unfold ptsN
   rw [if_neg hz]
   exact congrArg (_ :: ·) (ptsN_eq _ _ _ (by rw [List.length_drop, List.length_cons]; omega) (Nat.le_refl _))
theorem ptsL_put {r : Int} (h : isPt r = true) (m : List UInt8) : ptsL (putL r ++ m) = (r, true) :: ptsL m := by
 have ht := take_put h m
 have hc := (cnt_bd r).1
 rw [ptsL_yes (by rw [ht]; show cnt r ≠ 0; omega), ht]
 congr 2
 show (putL r ++ m).drop (cnt r) = m
 rw [← putL_length h, List.drop_left]
def allOf (p : List (Int × Bool)) : Option (List Int) := if p.all (·.2) = true then some (p.map (·.1)) else none
def allL (l : List UInt8) : Option (List Int) := allOf (ptsL l)
theorem allOf_cons (r : Int) (p : List (Int × Bool)) : allOf ((r, true) :: p) = (allOf p).map (r :: ·) := by
 unfold allOf
 simp only [List.all_cons, Bool.true_and, List.map_cons]
 split <;> rfl
theorem allL_put {r : Int} (h : isPt r = true) (m : List UInt8) : allL (putL r ++ m) = (allL m).map (r :: ·) := by
 unfold allL; rw [ptsL_put h, allOf_cons]
theorem allL_no {l : List UInt8} (h : 0 < l.length) (hz : (takeL l).2 = 0) : allL l = none := by unfold allL; rw [ptsL_no h hz]; rfl
def catL (k : List Int) : List UInt8 := k.flatMap putL
theorem all_cat : ∀ (k : List Int), k.all isPt = true → ∀ m, allL (catL k ++ m) = (allL m).map (k ++ ·) := by
 intro k
 induction k with
 | nil => intro _ m; show allL m = _; cases allL m <;> rfl
 | cons r k ih =>
   intro h m
   simp only [List.all_cons, Bool.and_eq_true] at h
   have e : catL (r :: k) ++ m = putL r ++ (catL k ++ m) := List.append_assoc _ _ _
   rw [e, allL_put h.1, ih h.2]
   cases allL m <;> rfl
theorem text_all_n : ∀ (n : Nat) (l : List UInt8), l.length ≤ n → ∀ k, allL l = some k → k.all isPt = true ∧ catL k = l := by
 intro n
 induction n with
 | zero =>
   intro l h k hk
   obtain rfl := List.eq_nil_of_length_eq_zero (Nat.le_zero.1 h)
   have : k = [] := by have : allL [] = some [] := rfl
                       rw [this] at hk; injection hk with hk; exact hk.symm
   subst this
   exact ⟨rfl, rfl⟩
 | succ n ih =>
   intro l h k hk
   by_cases h0 : l.length = 0
   ·obtain rfl := List.eq_nil_of_length_eq_zero h0
    have : k = [] := by have : allL [] = some [] := rfl
                        rw [this] at hk; injection hk with hk; exact hk.symm
    subst this
    exact ⟨rfl, rfl⟩
   ·rcases take_is l with hz | ⟨r, m, hp, e, ht⟩
    ·rw [allL_no (by omega) (by rw [hz])] at hk; cases hk
    ·rw [e, allL_put hp] at hk
     have hc := (cnt_bd r).1
     have hl := putL_length hp
     have hlen : l.length = cnt r + m.length := by rw [e, List.length_append, hl]
     cases hm : allL m with
     | none => rw [hm] at hk; cases hk
     | some k' =>
       rw [hm] at hk
       injection hk with hk
       subst hk
       obtain ⟨i1, i2⟩ := ih m (by omega) k' hm
       refine ⟨by rw [List.all_cons, hp, i1]; rfl, ?_⟩
       show putL r ++ catL k' = l
       rw [i2, e]
theorem all_append {a : List UInt8} {k : List Int} (h : allL a = some k) (b : List UInt8) : allL (a ++ b) = (allL b).map (k ++ ·) := by
 obtain ⟨h1, h2⟩ := text_all_n a.length a (Nat.le_refl _) k h
 rw [← h2]
 exact all_cat k h1 b
end Go.Proofs.YthcafgningpdnaaDoor
