/-
  Words of our own for all layers: a slice that reads as a list of values, nil and empty ones included; bytes as values; frames behind draws; the last step of a law's row out of the frame 'Below'. Stage 17, the landed paste: mathematics: the pieces of a text, one behind the other: a code point, where it begins, how many bytes it is.
-/
import Derived.Test.YtgaoijinchakoaaDoorG02
import Derived.Test.YtgaoijinchakoaaDoorProg
import Derived.WalkKit
import Derived.WalkSpells
import Derived.WalkLawsBesides
import Derived.ProofKit
import Derived.OpenShut
import Derived.Lib.Hide
import Derived.Lib.OthersKept
import Derived.Lib.ItoaNum
import Derived.Sort.Grow
import Derived.Deep.Draws
import Derived.Laws.BytesArg
namespace Go.Proofs.YtgaoijinchakoaaDoor
open Go.RowKit Go.WideShapes Go.ChangeShapes
section
def B8 (c : UInt8) : Value := .int .u8 (c.toNat : Int)
def bs (l : List UInt8) : List Value := l.map B8
theorem bs_length (l : List UInt8) : (bs l).length = l.length := by simp [bs]
theorem bs_get (l : List UInt8) (k : Nat) (h : k < l.length) : (bs l)[k]? = some (B8 l[k]) := by simp [bs, h]
theorem bs_one (l : List UInt8) : ∀ v ∈ bs l, v.oneCell' = true := by
 intro v hv
 obtain ⟨c, _, rfl⟩ := List.mem_map.1 hv
 rfl
theorem bs_append (a b : List UInt8) : bs (a ++ b) = bs a ++ bs b := by simp [bs]
def Rd (w : World) (A : Option Addr) (xs : List Value) : Prop :=
 0 < xs.length → ∃ b o, A = some ⟨b, o, none⟩ ∧ b < w.heap.size ∧ ∀ k u, xs[k]? = some u → w.cell? ⟨b, o + k, none⟩ = some u
theorem Rd.nil (w : World) (A : Option Addr) : Rd w A [] := fun h => absurd h (by simp)
theorem Rd.keep {w w' : World} {A : Option Addr} {xs : List Value} (h : Rd w A xs) (hs : w.heap.size ≤ w'.heap.size) (hb : ∀ k, k < w.heap.size → w'.heap[k]? = w.heap[k]?) : Rd w' A xs := fun hp => by
 obtain ⟨b, o, rfl, hlt, hc⟩ := h hp
 exact ⟨b, o, rfl, by omega, fun k u hu => (World.cell?_of_block (w := w) (a := ⟨b, o + k, none⟩) (hb b hlt)).trans (hc k u hu)⟩
theorem Rd.below {w w' : World} {A : Option Addr} {xs : List Value} (h : Rd w A xs) (hb : Below w.heap.size w w') : Rd w' A xs := h.keep hb.size hb.block
theorem Rd.drew {w : World} {A : Option Addr} {xs : List Value} (h : Rd w A xs) : Rd w.drew A xs := h
theorem Rd.drewN {w : World} {A : Option Addr} {xs : List Value} (h : Rd w A xs) (n : Nat) : Rd (w.drewN n) A xs := h
theorem Rd.alloc {w : World} {A : Option Addr} {xs : List Value} (h : Rd w A xs) (o : Obj) : Rd (w.alloc o) A xs :=
 h.keep (by simp) fun k hk => Below.heap_alloc w o k hk
theorem Rd.own {w : World} {base : Nat} {e : TypeId} {A : Option Addr} {n c : Nat} {xs : List Value} (h : w.ownsRow base e 1 (.slice A n c) n xs) : Rd w A xs := fun hp => by
 rcases h.2 with ⟨_, h0⟩ | ⟨g, cap, cur, hv, hg, hh, hn, hm, hs, ht⟩
 ·have := h.1; omega
 ·injection hv with hA
  subst hA
  refine ⟨g, 0, rfl, (Array.getElem?_eq_some_iff.1 hh).1, fun k u hu => ?_⟩
  have := h.cells (g := g) rfl k u hu
  have e : (⟨g, 0, none⟩ : Addr).add k = ⟨g, 0 + k, none⟩ := by unfold Addr.add; split <;> simp_all
  rwa [e] at this
theorem own_form {w : World} {base : Nat} {e : TypeId} {v : Value} {n : Nat} {xs : List Value} (h : w.ownsRow base e 1 v n xs) : ∃ A c, v = .slice A n c ∧ Rd w A xs := by
 rcases h.2 with ⟨rfl, rfl⟩ | ⟨g, cap, cur, rfl, _⟩
 ·exact ⟨none, 0, rfl, Rd.own h⟩
 ·exact ⟨_, cap, rfl, Rd.own h⟩
theorem Rd.block {w : World} {g : Nat} {cs : Array Value} {t : TypeId} {fz : Nat × Nat} {xs : List Value} (h : w.heap[g]? = some (.cells cs t fz)) (hx : cs.toList.take xs.length = xs) : Rd w (some ⟨g, 0, none⟩) xs := fun _ => by
 refine ⟨g, 0, rfl, (Array.getElem?_eq_some_iff.1 h).1, fun k u hu => ?_⟩
 rw [cell_of_row w g (0 + k) cs t fz h, Nat.zero_add]
 rw [← hx, List.getElem?_take] at hu
 split at hu
 ·simpa using hu
 ·cases hu
theorem Rd.at_ {w : World} {A : Option Addr} {l : List UInt8} (h : Rd w A (bs l)) (hp : 0 < l.length) :
 ∃ b o, A = some ⟨b, o, none⟩ ∧ b < w.heap.size ∧ ∀ k (hk : k < l.length), w.cell? ⟨b, o + k, none⟩ = some (.int .u8 (l[k].toNat : Int)) := by
 obtain ⟨b, o, rfl, hb, hc⟩ := h (by rw [bs_length]; exact hp)
 exact ⟨b, o, rfl, hb, fun k hk => hc k _ (bs_get l k hk)⟩
theorem ints_one {k : IntKind} (L : List Int) : ∀ u ∈ L.map (Value.int k), u.oneCell' = true := fun u hu => by
 obtain ⟨c, _, rfl⟩ := List.mem_map.1 hu
 rfl
theorem byte_at (s : ByteArray) (k : Nat) (h : k < s.size) : s[k]'h = s.data.toList[k]'(by simpa using h) := rfl
theorem below_drewN {B : Nat} {a w : World} (h : Below B a w) (n : Nat) : Below B a (w.drewN n) := ⟨h.os, h.tape, h.output, h.size, h.block⟩
theorem below_grow {B : Nat} {a w : World} (h : Below B a w) (hB : B ≤ w.heap.size) (os : Array Obj) : Below B a (Go.Sort.grow w os) :=
 h.trans ⟨rfl, rfl, rfl, by simp [Go.Sort.grow], fun k hk => by
  show (w.heap ++ os)[k]? = w.heap[k]?
  rw [Array.getElem?_append_left (by omega)]⟩
theorem conv_str {P : Program} {w : World} {src e : TypeId} (hs : P.underlying src = some (.slice e)) (he : P.underlying e = some (.int .u8)) {A : Option Addr} {n c : Nat} {l : List UInt8} (hn : l.length = n) (h : Rd w A (bs l)) :
 ∀ dst, P.underlying dst = some .string → (convert src dst (.slice A n c)).run P w = .ok (.string ⟨l.toArray⟩) w := by
 intro dst hd
 by_cases hp : 0 < l.length
 ·obtain ⟨b, o, rfl, _, hc⟩ := h.at_ hp
  rw [run_convert_bytes_arg w src e hs he b o n c (l.map fun x => (x.toNat : Int)) (by simpa using hn) (fun i hi => by
   rw [hc i (by omega)]
   simp [List.getD, List.getElem?_eq_getElem (show i < l.length by omega)]) dst hd]
  congr 2
  unfold strOfNums
  congr 1
  congr 1
  rw [List.map_map]
  calc l.map ((fun n : Int => UInt8.ofNat n.toNat) ∘ fun x : UInt8 => (x.toNat : Int)) = l.map id := List.map_congr_left (fun x _ => by simp)
   _ = l := List.map_id l
 ·have h0 : l = [] := List.eq_nil_of_length_eq_zero (by omega)
  subst h0
  have h1 : n = 0 := by simpa using hn.symm
  subst h1
  rcases A with _ | a
  ·exact run_convert_bytes_nil w src e hs he 0 c dst hd
  ·rw [run_convert_bytes_string w src dst e _ 0 c hs he hd, run_bytesToString w a 0 c [] (by simp [loadCells, loadCellsFrom])]
   rfl
theorem ret_b {p q : Bool} (h : p = q) : Ending.returned (.bool p) = .returned (.bool q) := by rw [h]
theorem ret_s {p q : List UInt8} (h : p = q) : Ending.returned (.string ⟨p.toArray⟩) = .returned (.string ⟨q.toArray⟩) := by rw [h]
section
variable {H : Type} {enc : TypeId × Value → H} {P : Program}
end
end
end Go.Proofs.YtgaoijinchakoaaDoor
namespace Go.Proofs.YtgaoijinchakoaaDoor
def pcX (t : List UInt8) (k : Nat) : Int × Nat × Nat := if (takeL (t.drop k)).2 = 0 then (-1, k, 1) else ((takeL (t.drop k)).1, k, (takeL (t.drop k)).2)
def pcN (t : List UInt8) : Nat → Nat → List (Int × Nat × Nat)
 | 0, _ => []
 | n + 1, k => if t.length ≤ k then [] else pcX t k :: pcN t n (k + (pcX t k).2.2)
def pcL (t : List UInt8) : List (Int × Nat × Nat) := pcN t t.length 0
theorem pcX_len (t : List UInt8) {k : Nat} (h : k < t.length) : 1 ≤ (pcX t k).2.2 ∧ k + (pcX t k).2.2 ≤ t.length ∧ (pcX t k).2.1 = k := by
 have hle := (take_snd_le (t.drop k)).1
 rw [List.length_drop] at hle
 unfold pcX
 split
 ·exact ⟨Nat.le_refl _, by show k + 1 ≤ _; omega, rfl⟩
 ·exact ⟨by show 1 ≤ (takeL (t.drop k)).2; omega, by show k + (takeL (t.drop k)).2 ≤ _; omega, rfl⟩
theorem pcN_enough (t : List UInt8) : ∀ (n m k : Nat), t.length ≤ n + k → t.length ≤ m + k → pcN t n k = pcN t m k
 | 0, 0, _, _, _ => rfl
 | 0, m + 1, k, h, _ => by unfold pcN; rw [if_pos (by omega)]
 | n + 1, 0, k, _, h => by unfold pcN; rw [if_pos (by omega)]
 | n + 1, m + 1, k, h, g => by
   unfold pcN
   split
   ·rfl
   ·rename_i hk
    have := (pcX_len t (k := k) (by omega)).1
    rw [pcN_enough t n m _ (by omega) (by omega)]
def pcA (t : List UInt8) (k : Nat) : List (Int × Nat × Nat) := pcN t t.length k
theorem pcA_end (t : List UInt8) {k : Nat} (h : t.length ≤ k) : pcA t k = [] := by
 unfold pcA
 cases t.length with
 | zero => rfl
 | succ n => unfold pcN; rw [if_pos (by omega)]
theorem pcA_step (t : List UInt8) {k : Nat} (h : k < t.length) : pcA t k = pcX t k :: pcA t (k + (pcX t k).2.2) := by
 have hx := (pcX_len t h).1
 have e : pcA t k = pcN t (t.length + 1) k := pcN_enough t _ _ _ (by omega) (by omega)
 rw [e]
 show (if t.length ≤ k then [] else pcX t k :: pcN t t.length (k + (pcX t k).2.2)) = _
 rw [if_neg (by omega)]
 rfl
theorem pcA_mem (t : List UInt8) : ∀ (n k : Nat), t.length ≤ n + k → ∀ x ∈ pcA t k, 1 ≤ x.2.2 ∧ x.2.1 + x.2.2 ≤ t.length
 | 0, k, h, x, hx => by rw [pcA_end t (by omega)] at hx; cases hx
 | n + 1, k, h, x, hx => by
   by_cases hk : k < t.length
   ·rw [pcA_step t hk] at hx
    obtain ⟨h1, h2, h3⟩ := pcX_len t hk
    rcases List.mem_cons.1 hx with rfl | hx
    ·exact ⟨h1, by rw [h3]; exact h2⟩
    ·exact pcA_mem t n _ (by omega) x hx
   ·rw [pcA_end t (by omega)] at hx; cases hx
def clO (t : List UInt8) (pre : List (Int × Nat × Nat)) : List UInt8 := pre.flatMap fun x => if clnP x.1 = true then (t.drop x.2.1).take x.2.2 else []
theorem clO_snoc (t : List UInt8) (pre : List (Int × Nat × Nat)) (x : Int × Nat × Nat) : clO t (pre ++ [x]) = clO t pre ++ (if clnP x.1 = true then (t.drop x.2.1).take x.2.2 else []) := by simp [clO]
theorem cln_m1 : clnP (-1) = false := by decide
theorem clN_len {n : Nat} {l : List UInt8} (h : l.length ≤ n) : clnN n l = clnL l := cln_enough n l.length l h (Nat.le_refl _)
theorem clL_step {l : List UInt8} (h : l ≠ []) : clnL l = (if 0 < (takeL l).2 ∧ clnP (takeL l).1 = true then l.take (takeL l).2 else []) ++ clnL (l.drop (max (takeL l).2 1)) := by
 have h2 := drop_less h (takeL l).2
 rw [← clN_len (n := l.length + 1) (l := l) (by omega), cln_step _ h, clN_len (by omega)]
theorem pc_cln (t : List UInt8) : ∀ (n k : Nat), t.length ≤ n + k → clO t (pcA t k) = clnL (t.drop k)
 | 0, k, h => by
   rw [pcA_end t (by omega), List.drop_eq_nil_of_le (by omega)]
   rfl
 | n + 1, k, h => by
   by_cases hk : k < t.length
   ·have hne : t.drop k ≠ [] := fun e => by have := congrArg List.length e; rw [List.length_drop] at this; simp at this; omega
    rw [clL_step hne, pcA_step t hk]
    obtain ⟨h1, h2, h3⟩ := pcX_len t hk
    have ih := pc_cln t n (k + (pcX t k).2.2) (by omega)
    show (if clnP (pcX t k).1 = true then (t.drop (pcX t k).2.1).take (pcX t k).2.2 else []) ++ clO t (pcA t (k + (pcX t k).2.2)) = _
    rw [ih, h3]
    unfold pcX
    by_cases hz : (takeL (t.drop k)).2 = 0
    ·rw [if_pos hz]
     simp only [cln_m1, hz]
     rw [if_neg (by decide), if_neg (by omega), List.drop_drop]
     rfl
    ·rw [if_neg hz]
     simp only
     rw [List.drop_drop, show max (takeL (t.drop k)).2 1 = (takeL (t.drop k)).2 by omega]
     by_cases hc : clnP (takeL (t.drop k)).1 = true
     ·rw [if_pos hc, if_pos ⟨by omega, hc⟩]
     ·rw [if_neg hc, if_neg (fun h => hc h.2)]
   ·rw [pcA_end t (by omega), List.drop_eq_nil_of_le (by omega)]
    rfl
theorem pc_clean (t : List UInt8) : clO t (pcL t) = clnL t := by
 have := pc_cln t t.length 0 (by omega)
 rwa [List.drop_zero] at this
def lnO (pre : List (Int × Nat × Nat)) : Nat := (pre.map fun x => x.2.2).sum
theorem lnO_snoc (pre : List (Int × Nat × Nat)) (x : Int × Nat × Nat) : lnO (pre ++ [x]) = lnO pre + x.2.2 := by simp [lnO]
theorem runL_step {l : List UInt8} (h : l ≠ []) : runL l = if (takeL l).2 = 0 ∨ clnP (takeL l).1 = false then 0 else (takeL l).2 + runL (l.drop (takeL l).2) := by
 have e : runL l = runN (l.length + 1) l := run_enough _ _ l (Nat.le_refl _) (by omega)
 rw [e, run_step _ h]
 split
 ·rfl
 ·rename_i hn
  rw [show runN l.length (l.drop (takeL l).2) = runL (l.drop (takeL l).2) from run_enough _ _ _ (by rw [List.length_drop]; omega) (Nat.le_refl _)]
theorem pc_run (t : List UInt8) : ∀ (p : List (Int × Nat × Nat)) (k : Nat) (rest : List (Int × Nat × Nat)), pcA t k = p ++ rest → (∀ x ∈ p, clnP x.1 = true) → (∀ x, rest.head? = some x → clnP x.1 = false) → runL (t.drop k) = lnO p
 | [], k, rest, h, _, hr => by
   by_cases hk : k < t.length
   ·have hne : t.drop k ≠ [] := fun e => by have := congrArg List.length e; rw [List.length_drop] at this; simp at this; omega
    rw [pcA_step t hk] at h
    have hx := hr (pcX t k) (by rw [List.nil_append] at h; rw [← h]; rfl)
    rw [runL_step hne, if_pos]
    ·rfl
    ·unfold pcX at hx
     by_cases hz : (takeL (t.drop k)).2 = 0
     ·exact .inl hz
     ·rw [if_neg hz] at hx; exact .inr hx
   ·rw [List.drop_eq_nil_of_le (by omega)]
    exact run_nil _
 | x :: p, k, rest, h, hp, hr => by
   have hk : k < t.length := Classical.byContradiction fun hn => by rw [pcA_end t (by omega)] at h; cases h
   have hne : t.drop k ≠ [] := fun e => by have := congrArg List.length e; rw [List.length_drop] at this; simp at this; omega
   rw [pcA_step t hk, List.cons_append] at h
   injection h with h1 h2
   have hx := hp x (List.mem_cons_self ..)
   have ih := pc_run t p _ rest h2 (fun y hy => hp y (List.mem_cons_of_mem _ hy)) hr
   rw [← h1] at hx
   show _ = lnO (x :: p)
   have e : lnO (x :: p) = x.2.2 + lnO p := by simp [lnO]
   rw [e, ← ih, ← h1]
   unfold pcX at hx ⊢
   by_cases hz : (takeL (t.drop k)).2 = 0
   ·rw [if_pos hz] at hx; rw [cln_m1] at hx; cases hx
   ·rw [if_neg hz] at hx ⊢
    rw [runL_step hne, if_neg, List.drop_drop]
    rintro (h | h)
    ·exact hz h
    ·simp only at hx; rw [hx] at h; cases h
theorem run_all (t : List UInt8) (h : ∀ x ∈ pcL t, clnP x.1 = true) : runL t = lnO (pcL t) := by
 have := pc_run t (pcL t) 0 [] (by rw [List.append_nil]; rfl) h (fun x hx => by cases hx)
 rwa [List.drop_zero] at this
theorem run_cut (t : List UInt8) {p : List (Int × Nat × Nat)} {x : Int × Nat × Nat} (h : p ++ [x] <+: pcL t) (hp : ∀ y ∈ p, clnP y.1 = true) (hx : clnP x.1 = false) : runL t = lnO p := by
 obtain ⟨r, hr⟩ := h
 have := pc_run t p 0 (x :: r) (by rw [show pcA t 0 = pcL t from rfl, ← hr]; simp) hp (fun y hy => by simp at hy; rw [← hy]; exact hx)
 rwa [List.drop_zero] at this
theorem lnO_le (t : List UInt8) : ∀ (n k : Nat), t.length ≤ n + k → k ≤ t.length → k + lnO (pcA t k) ≤ t.length
 | 0, k, h, hk => by rw [pcA_end t (by omega)]; simp [lnO]; omega
 | n + 1, k, h, hk => by
   by_cases hlt : k < t.length
   ·obtain ⟨h1, h2, h3⟩ := pcX_len t hlt
    have ih := lnO_le t n (k + (pcX t k).2.2) (by omega) h2
    rw [pcA_step t hlt]
    have e : lnO (pcX t k :: pcA t (k + (pcX t k).2.2)) = (pcX t k).2.2 + lnO (pcA t (k + (pcX t k).2.2)) := by simp [lnO]
    rw [e]; omega
   ·rw [pcA_end t (by omega)]; simp [lnO]; omega
theorem lnO_pre (t : List UInt8) {p : List (Int × Nat × Nat)} (h : p <+: pcL t) : lnO p ≤ t.length := by
 obtain ⟨r, hr⟩ := h
 have h1 := lnO_le t t.length 0 (by omega) (Nat.zero_le _)
 have e : lnO (pcA t 0) = lnO p + lnO r := by
  rw [show pcA t 0 = pcL t from rfl, ← hr]
  simp [lnO]
 omega
theorem run_le (t : List UInt8) : runL t ≤ t.length := by
 obtain ⟨ks, m, _, h2, h3⟩ := run_is t.length t (Nat.le_refl _)
 rw [show runL t = (catL ks).length from h3]
 have := congrArg List.length h2
 rw [List.length_append] at this
 omega
end Go.Proofs.YtgaoijinchakoaaDoor
