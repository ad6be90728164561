/-
  Words of our own for all layers: a slice that reads as a list of values, nil and empty ones included; bytes as values; frames behind draws; the last step of a law's row out of the frame 'Below'. Layer 2's mathematics: code points and their bytes; the first one of a list of bytes; all of them.
-/
import Derived.Test.YtfifeofmfpjgfaaDoorProg
import Derived.WalkKit
import Derived.WalkSpells
import Derived.WalkLawsBesides
import Derived.ProofKit
import Derived.OpenShut
import Derived.Lib.Hide
import Derived.Lib.OthersKept
import Derived.Lib.ItoaNum
import Derived.Sort.Grow
import Derived.Deep.Draws
import Derived.Laws.BytesArg
namespace Go.Proofs.YtfifeofmfpjgfaaDoor
open Go.RowKit Go.WideShapes Go.ChangeShapes
section
def B8 (c : UInt8) : Value := .int .u8 (c.toNat : Int)
def bs (l : List UInt8) : List Value := l.map B8
theorem bs_length (l : List UInt8) : (bs l).length = l.length := by simp [bs]
theorem bs_get (l : List UInt8) (k : Nat) (h : k < l.length) : (bs l)[k]? = some (B8 l[k]) := by simp [bs, h]
def Rd (w : World) (A : Option Addr) (xs : List Value) : Prop :=
 0 < xs.length → ∃ b o, A = some ⟨b, o, none⟩ ∧ b < w.heap.size ∧ ∀ k u, xs[k]? = some u → w.cell? ⟨b, o + k, none⟩ = some u
theorem Rd.nil (w : World) (A : Option Addr) : Rd w A [] := fun h => absurd h (by simp)
theorem Rd.keep {w w' : World} {A : Option Addr} {xs : List Value} (h : Rd w A xs) (hs : w.heap.size ≤ w'.heap.size) (hb : ∀ k, k < w.heap.size → w'.heap[k]? = w.heap[k]?) : Rd w' A xs := fun hp => by
 obtain ⟨b, o, rfl, hlt, hc⟩ := h hp
 exact ⟨b, o, rfl, by omega, fun k u hu => (World.cell?_of_block (w := w) (a := ⟨b, o + k, none⟩) (hb b hlt)).trans (hc k u hu)⟩
theorem Rd.below {w w' : World} {A : Option Addr} {xs : List Value} (h : Rd w A xs) (hb : Below w.heap.size w w') : Rd w' A xs := h.keep hb.size hb.block
theorem Rd.drew {w : World} {A : Option Addr} {xs : List Value} (h : Rd w A xs) : Rd w.drew A xs := h
theorem Rd.drewN {w : World} {A : Option Addr} {xs : List Value} (h : Rd w A xs) (n : Nat) : Rd (w.drewN n) A xs := h
theorem Rd.alloc {w : World} {A : Option Addr} {xs : List Value} (h : Rd w A xs) (o : Obj) : Rd (w.alloc o) A xs :=
 h.keep (by simp) fun k hk => Below.heap_alloc w o k hk
theorem Rd.own {w : World} {base : Nat} {e : TypeId} {A : Option Addr} {n c : Nat} {xs : List Value} (h : w.ownsRow base e 1 (.slice A n c) n xs) : Rd w A xs := fun hp => by
 rcases h.2 with ⟨_, h0⟩ | ⟨g, cap, cur, hv, hg, hh, hn, hm, hs, ht⟩
 ·have := h.1; omega
 ·injection hv with hA
  subst hA
  refine ⟨g, 0, rfl, (Array.getElem?_eq_some_iff.1 hh).1, fun k u hu => ?_⟩
  have := h.cells (g := g) rfl k u hu
  have e : (⟨g, 0, none⟩ : Addr).add k = ⟨g, 0 + k, none⟩ := by unfold Addr.add; split <;> simp_all
  rwa [e] at this
theorem Rd.block {w : World} {g : Nat} {cs : Array Value} {t : TypeId} {fz : Nat × Nat} {xs : List Value} (h : w.heap[g]? = some (.cells cs t fz)) (hx : cs.toList.take xs.length = xs) : Rd w (some ⟨g, 0, none⟩) xs := fun _ => by
 refine ⟨g, 0, rfl, (Array.getElem?_eq_some_iff.1 h).1, fun k u hu => ?_⟩
 rw [cell_of_row w g (0 + k) cs t fz h, Nat.zero_add]
 rw [← hx, List.getElem?_take] at hu
 split at hu
 ·simpa using hu
 ·cases hu
theorem Rd.at_ {w : World} {A : Option Addr} {l : List UInt8} (h : Rd w A (bs l)) (hp : 0 < l.length) :
 ∃ b o, A = some ⟨b, o, none⟩ ∧ b < w.heap.size ∧ ∀ k (hk : k < l.length), w.cell? ⟨b, o + k, none⟩ = some (.int .u8 (l[k].toNat : Int)) := by
 obtain ⟨b, o, rfl, hb, hc⟩ := h (by rw [bs_length]; exact hp)
 exact ⟨b, o, rfl, hb, fun k hk => hc k _ (bs_get l k hk)⟩
theorem lit_cells (w : World) (L : List Value) (t : TypeId) : ∀ j u, L[j]? = some u → (w.alloc (.cells L.toArray t)).cell? ((⟨w.heap.size, 0, none⟩ : Addr).add j) = some u := fun j u hu => by
 have e : (⟨w.heap.size, 0, none⟩ : Addr).add j = ⟨w.heap.size, j, none⟩ := by unfold Addr.add; split <;> simp_all
 rw [e, World.cell?_alloc_at _ _ _ _ rfl]
 simpa using hu
theorem ints_one {k : IntKind} (L : List Int) : ∀ u ∈ L.map (Value.int k), u.oneCell' = true := fun u hu => by
 obtain ⟨c, _, rfl⟩ := List.mem_map.1 hu
 rfl
theorem byte_at (s : ByteArray) (k : Nat) (h : k < s.size) : s[k]'h = s.data.toList[k]'(by simpa using h) := rfl
theorem below_drewN {B : Nat} {a w : World} (h : Below B a w) (n : Nat) : Below B a (w.drewN n) := ⟨h.os, h.tape, h.output, h.size, h.block⟩
theorem below_grow {B : Nat} {a w : World} (h : Below B a w) (hB : B ≤ w.heap.size) (os : Array Obj) : Below B a (Go.Sort.grow w os) :=
 h.trans ⟨rfl, rfl, rfl, by simp [Go.Sort.grow], fun k hk => by
  show (w.heap ++ os)[k]? = w.heap[k]?
  rw [Array.getElem?_append_left (by omega)]⟩
theorem below_cells {W w1 : World} (hb : Below W.heap.size W w1) : (∀ b o, b < W.heap.size → w1.cell? ⟨b, o, none⟩ = W.cell? ⟨b, o, none⟩) ∧ (∀ b o, b < W.heap.size → w1.frozen? ⟨b, o, none⟩ = W.frozen? ⟨b, o, none⟩) :=
 ⟨fun b o h => hb.cell (p := ⟨b, o, none⟩) h, fun b o h => hb.frozen (p := ⟨b, o, none⟩) h⟩
theorem conv_str {P : Program} {w : World} {src e : TypeId} (hs : P.underlying src = some (.slice e)) (he : P.underlying e = some (.int .u8)) {A : Option Addr} {n c : Nat} {l : List UInt8} (hn : l.length = n) (h : Rd w A (bs l)) :
 ∀ dst, P.underlying dst = some .string → (convert src dst (.slice A n c)).run P w = .ok (.string ⟨l.toArray⟩) w := by
 intro dst hd
 by_cases hp : 0 < l.length
 ·obtain ⟨b, o, rfl, _, hc⟩ := h.at_ hp
  rw [run_convert_bytes_arg w src e hs he b o n c (l.map fun x => (x.toNat : Int)) (by simpa using hn) (fun i hi => by
   rw [hc i (by omega)]
   simp [List.getD, List.getElem?_eq_getElem (show i < l.length by omega)]) dst hd]
  congr 2
  unfold strOfNums
  congr 1
  congr 1
  rw [List.map_map]
  calc l.map ((fun n : Int => UInt8.ofNat n.toNat) ∘ fun x : UInt8 => (x.toNat : Int)) = l.map id := List.map_congr_left (fun x _ => by simp)
   _ = l := List.map_id l
 ·have h0 : l = [] := List.eq_nil_of_length_eq_zero (by omega)
  subst h0
  have h1 : n = 0 := by simpa using hn.symm
  subst h1
  rcases A with _ | a
  ·exact run_convert_bytes_nil w src e hs he 0 c dst hd
  ·rw [run_convert_bytes_string w src dst e _ 0 c hs he hd, run_bytesToString w a 0 c [] (by simp [loadCells, loadCellsFrom])]
   rfl
theorem conv_one {P : Program} {src e dst : TypeId} (hs : P.underlying src = some (.slice e)) (he : P.underlying e = some (.int .u8)) (hd : P.underlying dst = some .string) (x : Int) (h0 : 0 ≤ x) (h1 : x < 256) :
 ∀ (W : World) (g : Nat), W.cell? ⟨g, 0, none⟩ = some (.int .u8 x) → (convert src dst (.slice (some ⟨g, 0, none⟩) 1 1)).run P W = .ok (.string ⟨#[UInt8.ofNat x.toNat]⟩) W := by
 intro W g hc
 have hlt := World.block_lt_of_cell? W _ hc
 refine conv_str (l := [UInt8.ofNat x.toNat]) hs he rfl (fun _ => ⟨g, 0, rfl, hlt, fun k u hu => ?_⟩) dst hd
 match k, hu with
 | 0, hu =>
   rw [Nat.zero_add, hc]
   rw [← hu]
   have : ((UInt8.ofNat x.toNat).toNat : Int) = x := by rw [UInt8.toNat_ofNat_of_lt' (by show x.toNat < 256; omega)]; omega
   simp only [bs, B8, List.map_cons, List.map_nil, List.getElem?_cons_zero, this]
 | k + 1, hu => simp [bs] at hu
theorem ret_i {k : IntKind} {a b : Int} (h : a = b) : Ending.returned (.int k a) = .returned (.int k b) := by rw [h]
theorem ret_b {p q : Bool} (h : p = q) : Ending.returned (.bool p) = .returned (.bool q) := by rw [h]
theorem ret_s {p q : List UInt8} (h : p = q) : Ending.returned (.string ⟨p.toArray⟩) = .returned (.string ⟨q.toArray⟩) := by rw [h]
section
variable {H : Type} {enc : TypeId × Value → H} {P : Program}
end
end
end Go.Proofs.YtfifeofmfpjgfaaDoor
namespace Go.Proofs.YtfifeofmfpjgfaaDoor
def isPt (r : Int) : Bool := decide (0 ≤ r) && decide (r ≤ 1114111) && (decide (r < 55296) || decide (57343 < r))
theorem isPt_iff (r : Int) : isPt r = true ↔ (0 ≤ r ∧ r ≤ 1114111 ∧ (r < 55296 ∨ 57343 < r)) := by
 simp [isPt, and_assoc]
def byt (k : Int) : UInt8 := UInt8.ofNat k.toNat
theorem byt_nat (k : Int) (h : 0 ≤ k) (h1 : k < 256) : ((byt k).toNat : Int) = k := by
 unfold byt
 rw [UInt8.toNat_ofNat_of_lt' (by show k.toNat < 256; omega)]; omega
theorem byt_of (c : UInt8) (k : Int) (h : (c.toNat : Int) = k) : byt k = c := by
 subst h
 unfold byt
 simp
def cnt (r : Int) : Nat := if r < 128 then 1 else if r < 2048 then 2 else if r < 65536 then 3 else 4
def putL (r : Int) : List UInt8 :=
 if isPt r = false then [] else if r < 128 then [byt r] else if r < 2048 then [byt (192 + r / 64), byt (128 + r % 64)]
 else if r < 65536 then [byt (224 + r / 4096), byt (128 + r / 64 % 64), byt (128 + r % 64)]
 else [byt (240 + r / 262144), byt (128 + r / 4096 % 64), byt (128 + r / 64 % 64), byt (128 + r % 64)]
theorem putL_1 {r : Int} (h : isPt r = true) (h1 : r < 128) : putL r = [byt r] := by unfold putL; rw [if_neg (by rw [h]; decide), if_pos h1]
theorem putL_2 {r : Int} (h : isPt r = true) (h1 : 128 ≤ r) (h2 : r < 2048) : putL r = [byt (192 + r / 64), byt (128 + r % 64)] := by unfold putL; rw [if_neg (by rw [h]; decide), if_neg (by omega), if_pos h2]
theorem putL_3 {r : Int} (h : isPt r = true) (h1 : 2048 ≤ r) (h2 : r < 65536) : putL r = [byt (224 + r / 4096), byt (128 + r / 64 % 64), byt (128 + r % 64)] := by unfold putL; rw [if_neg (by rw [h]; decide), if_neg (by omega), if_neg (by omega), if_pos h2]
theorem putL_4 {r : Int} (h : isPt r = true) (h1 : 65536 ≤ r) : putL r = [byt (240 + r / 262144), byt (128 + r / 4096 % 64), byt (128 + r / 64 % 64), byt (128 + r % 64)] := by unfold putL; rw [if_neg (by rw [h]; decide), if_neg (by omega), if_neg (by omega), if_neg (by omega)]
theorem putL_length {r : Int} (h : isPt r = true) : (putL r).length = cnt r := by
 unfold putL cnt
 rw [if_neg (by rw [h]; decide)]
 repeat' split
 all_goals rfl
theorem cnt_bd (r : Int) : 1 ≤ cnt r ∧ cnt r ≤ 4 := by unfold cnt; repeat' split
                                                       all_goals omega
def fol (c : UInt8) : Bool := decide (128 ≤ c.toNat) && decide (c.toNat < 192)
theorem fol_iff (c : UInt8) : fol c = true ↔ 128 ≤ c.toNat ∧ c.toNat < 192 := by simp [fol]
def num1 (a : UInt8) : Int := a.toNat
def num2 (a b : UInt8) : Int := ((a.toNat : Int) - 192) * 64 + ((b.toNat : Int) - 128)
def num3 (a b c : UInt8) : Int := (((a.toNat : Int) - 224) * 64 + ((b.toNat : Int) - 128)) * 64 + ((c.toNat : Int) - 128)
def num4 (a b c d : UInt8) : Int := ((((a.toNat : Int) - 240) * 64 + ((b.toNat : Int) - 128)) * 64 + ((c.toNat : Int) - 128)) * 64 + ((d.toNat : Int) - 128)
def takeL : List UInt8 → Int × Nat
 | [] => (0, 0)
 | a :: l =>
   if a.toNat < 192 then (if a.toNat < 128 then (num1 a, 1) else (0, 0))
   else if a.toNat < 224 then (match l with
    | b :: _ => if fol b = true ∧ isPt (num2 a b) = true ∧ 128 ≤ num2 a b then (num2 a b, 2) else (0, 0)
    | _ => (0, 0))
   else if a.toNat < 240 then (match l with
    | b :: c :: _ => if fol b = true ∧ fol c = true ∧ isPt (num3 a b c) = true ∧ 2048 ≤ num3 a b c then (num3 a b c, 3) else (0, 0)
    | _ => (0, 0))
   else (match l with
    | b :: c :: d :: _ => if fol b = true ∧ fol c = true ∧ fol d = true ∧ isPt (num4 a b c d) = true ∧ 65536 ≤ num4 a b c d then (num4 a b c d, 4) else (0, 0)
    | _ => (0, 0))
theorem take_put {r : Int} (h : isPt r = true) (m : List UInt8) : takeL (putL r ++ m) = (r, cnt r) := by
 obtain ⟨h0, h1, h2⟩ := (isPt_iff r).1 h
 have hc : cnt r = if r < 128 then 1 else if r < 2048 then 2 else if r < 65536 then 3 else 4 := rfl
 by_cases a1 : r < 128
 ·rw [putL_1 h a1, hc, if_pos a1]
  have b0 := byt_nat r (by omega) (by omega)
  simp only [List.cons_append, List.nil_append, takeL]
  rw [if_pos (by omega), if_pos (by omega)]
  unfold num1
  rw [b0]
 ·by_cases a2 : r < 2048
  ·rw [putL_2 h (by omega) a2, hc, if_neg a1, if_pos a2]
   have b0 := byt_nat (192 + r / 64) (by omega) (by omega)
   have b1 := byt_nat (128 + r % 64) (by omega) (by omega)
   have e : num2 (byt (192 + r / 64)) (byt (128 + r % 64)) = r := by unfold num2; rw [b0, b1]; omega
   simp only [List.cons_append, List.nil_append, takeL]
   rw [if_neg (by omega), if_pos (by omega), e, if_pos ⟨(fol_iff _).2 (by omega), h, by omega⟩]
  ·by_cases a3 : r < 65536
   ·rw [putL_3 h (by omega) a3, hc, if_neg a1, if_neg a2, if_pos a3]
    have b0 := byt_nat (224 + r / 4096) (by omega) (by omega)
    have b1 := byt_nat (128 + r / 64 % 64) (by omega) (by omega)
    have b2 := byt_nat (128 + r % 64) (by omega) (by omega)
    have e : num3 (byt (224 + r / 4096)) (byt (128 + r / 64 % 64)) (byt (128 + r % 64)) = r := by unfold num3; rw [b0, b1, b2]; omega
    simp only [List.cons_append, List.nil_append, takeL]
    rw [if_neg (by omega), if_neg (by omega), if_pos (by omega), e, if_pos ⟨(fol_iff _).2 (by omega), (fol_iff _).2 (by omega), h, by omega⟩]
   ·rw [putL_4 h (by omega), hc, if_neg a1, if_neg a2, if_neg a3]
    have b0 := byt_nat (240 + r / 262144) (by omega) (by omega)
    have b1 := byt_nat (128 + r / 4096 % 64) (by omega) (by omega)
    have b2 := byt_nat (128 + r / 64 % 64) (by omega) (by omega)
    have b3 := byt_nat (128 + r % 64) (by omega) (by omega)
    have e : num4 (byt (240 + r / 262144)) (byt (128 + r / 4096 % 64)) (byt (128 + r / 64 % 64)) (byt (128 + r % 64)) = r := by unfold num4; rw [b0, b1, b2, b3]; omega
    simp only [List.cons_append, List.nil_append, takeL]
    rw [if_neg (by omega), if_neg (by omega), if_neg (by omega), e, if_pos ⟨(fol_iff _).2 (by omega), (fol_iff _).2 (by omega), (fol_iff _).2 (by omega), h, by omega⟩]
theorem take_is (l : List UInt8) : takeL l = (0, 0) ∨ ∃ r m, isPt r = true ∧ l = putL r ++ m ∧ takeL l = (r, cnt r) := by
 suffices key : takeL l = (0, 0) ∨ ∃ r m, isPt r = true ∧ l = putL r ++ m by
  rcases key with h | ⟨r, m, h, e⟩
  ·exact .inl h
  ·exact .inr ⟨r, m, h, e, by rw [e]; exact take_put h m⟩
 cases l with
 | nil => exact .inl rfl
 | cons a l =>
   have ha := a.toNat_lt
   simp only [takeL]
   by_cases a1 : a.toNat < 192
   ·rw [if_pos a1]
    by_cases a2 : a.toNat < 128
    ·refine .inr ⟨a.toNat, l, (isPt_iff _).2 (by omega), ?_⟩
     rw [putL_1 ((isPt_iff _).2 (by omega)) (by omega), byt_of a _ rfl]; rfl
    ·rw [if_neg a2]; exact .inl rfl
   ·rw [if_neg a1]
    by_cases a2 : a.toNat < 224
    ·rw [if_pos a2]
     match l with
     | [] => exact .inl rfl
     | b :: l =>
       dsimp only
       split
       ·rename_i hh
        obtain ⟨f1, hp, hge⟩ := hh
        have f1 := (fol_iff b).1 f1
        refine .inr ⟨num2 a b, l, hp, ?_⟩
        have e0 : num2 a b = ((a.toNat : Int) - 192) * 64 + ((b.toNat : Int) - 128) := rfl
        rw [putL_2 hp hge (by omega), byt_of a _ (by omega), byt_of b _ (by omega)]; rfl
       ·exact .inl rfl
    ·rw [if_neg a2]
     by_cases a3 : a.toNat < 240
     ·rw [if_pos a3]
      match l with
      | [] => exact .inl rfl
      | [_] => exact .inl rfl
      | b :: c :: l =>
        dsimp only
        split
        ·rename_i hh
         obtain ⟨f1, f2, hp, hge⟩ := hh
         have f1 := (fol_iff b).1 f1
         have f2 := (fol_iff c).1 f2
         refine .inr ⟨num3 a b c, l, hp, ?_⟩
         have e0 : num3 a b c = (((a.toNat : Int) - 224) * 64 + ((b.toNat : Int) - 128)) * 64 + ((c.toNat : Int) - 128) := rfl
         rw [putL_3 hp hge (by omega), byt_of a _ (by omega), byt_of b _ (by omega), byt_of c _ (by omega)]; rfl
        ·exact .inl rfl
     ·rw [if_neg a3]
      match l with
      | [] => exact .inl rfl
      | [_] => exact .inl rfl
      | [_, _] => exact .inl rfl
      | b :: c :: d :: l =>
        dsimp only
        split
        ·rename_i hh
         obtain ⟨f1, f2, f3, hp, hge⟩ := hh
         have f1 := (fol_iff b).1 f1
         have f2 := (fol_iff c).1 f2
         have f3 := (fol_iff d).1 f3
         refine .inr ⟨num4 a b c d, l, hp, ?_⟩
         have e0 : num4 a b c d = ((((a.toNat : Int) - 240) * 64 + ((b.toNat : Int) - 128)) * 64 + ((c.toNat : Int) - 128)) * 64 + ((d.toNat : Int) - 128) := rfl
         rw [putL_4 hp hge, byt_of a _ (by omega), byt_of b _ (by omega), byt_of c _ (by omega), byt_of d _ (by omega)]; rfl
        ·exact .inl rfl
def ptsN : Nat → List UInt8 → List (Int × Bool)
 | _, [] => []
 | 0, _ => []
 | n + 1, a :: l => if (takeL (a :: l)).2 = 0 then [(0, false)] else ((takeL (a :: l)).1, true) :: ptsN n ((a :: l).drop (takeL (a :: l)).2)
def ptsL (l : List UInt8) : List (Int × Bool) := ptsN l.length l
theorem ptsN_eq : ∀ (n m : Nat) (l : List UInt8), l.length ≤ n → l.length ≤ m → ptsN n l = ptsN m l := by
 intro n
 induction n with
 | zero => intro m l h _; cases l with
   | nil => cases m <;> rfl
   | cons a l => simp at h
 | succ n ih =>
   intro m l h h'
   cases l with
   | nil => cases m <;> rfl
   | cons a l =>
     cases m with
     | zero => simp at h'
     | succ m =>
       simp only [List.length_cons] at h h'
       unfold ptsN
       by_cases hz : (takeL (a :: l)).2 = 0
       ·rw [if_pos hz, if_pos hz]
       ·rw [if_neg hz, if_neg hz, ih m _ (by rw [List.length_drop, List.length_cons]; omega) (by rw [List.length_drop, List.length_cons]; omega)]
theorem ptsL_no {l : List UInt8} (h : 0 < l.length) (hz : (takeL l).2 = 0) : ptsL l = [(0, false)] := by
 cases l with
 | nil => simp at h
 | cons a l => show ptsN (l.length + 1) (a :: l) = _; unfold ptsN; rw [if_pos hz]
theorem ptsL_yes {l : List UInt8} (hz : (takeL l).2 ≠ 0) : ptsL l = ((takeL l).1, true) :: ptsL (l.drop (takeL l).2) := by
 cases l with
 | nil => exact absurd rfl hz
 | cons a l =>
   show ptsN (l.length + 1) (a :: l) = _
   unfold ptsN
   rw [if_neg hz]
   exact congrArg (_ :: ·) (ptsN_eq _ _ _ (by rw [List.length_drop, List.length_cons]; omega) (Nat.le_refl _))
theorem ptsL_put {r : Int} (h : isPt r = true) (m : List UInt8) : ptsL (putL r ++ m) = (r, true) :: ptsL m := by
 have ht := take_put h m
 have hc := (cnt_bd r).1
 rw [ptsL_yes (by rw [ht]; show cnt r ≠ 0; omega), ht]
 congr 2
 show (putL r ++ m).drop (cnt r) = m
 rw [← putL_length h, List.drop_left]
def allOf (p : List (Int × Bool)) : Option (List Int) := if p.all (·.2) = true then some (p.map (·.1)) else none
def allL (l : List UInt8) : Option (List Int) := allOf (ptsL l)
theorem allOf_cons (r : Int) (p : List (Int × Bool)) : allOf ((r, true) :: p) = (allOf p).map (r :: ·) := by
 unfold allOf
 simp only [List.all_cons, Bool.true_and, List.map_cons]
 split <;> rfl
theorem allL_put {r : Int} (h : isPt r = true) (m : List UInt8) : allL (putL r ++ m) = (allL m).map (r :: ·) := by
 unfold allL; rw [ptsL_put h, allOf_cons]
theorem allL_no {l : List UInt8} (h : 0 < l.length) (hz : (takeL l).2 = 0) : allL l = none := by unfold allL; rw [ptsL_no h hz]; rfl
def catL (k : List Int) : List UInt8 := k.flatMap putL
theorem all_cat : ∀ (k : List Int), k.all isPt = true → ∀ m, allL (catL k ++ m) = (allL m).map (k ++ ·) := by
 intro k
 induction k with
 | nil => intro _ m; show allL m = _; cases allL m <;> rfl
 | cons r k ih =>
   intro h m
   simp only [List.all_cons, Bool.and_eq_true] at h
   have e : catL (r :: k) ++ m = putL r ++ (catL k ++ m) := List.append_assoc _ _ _
   rw [e, allL_put h.1, ih h.2]
   cases allL m <;> rfl
theorem text_all_n : ∀ (n : Nat) (l : List UInt8), l.length ≤ n → ∀ k, allL l = some k → k.all isPt = true ∧ catL k = l := by
 intro n
 induction n with
 | zero =>
   intro l h k hk
   obtain rfl := List.eq_nil_of_length_eq_zero (Nat.le_zero.1 h)
   have : k = [] := by have : allL [] = some [] := rfl
                       rw [this] at hk; injection hk with hk; exact hk.symm
   subst this
   exact ⟨rfl, rfl⟩
 | succ n ih =>
   intro l h k hk
   by_cases h0 : l.length = 0
   ·obtain rfl := List.eq_nil_of_length_eq_zero h0
    have : k = [] := by have : allL [] = some [] := rfl
                        rw [this] at hk; injection hk with hk; exact hk.symm
    subst this
    exact ⟨rfl, rfl⟩
   ·rcases take_is l with hz | ⟨r, m, hp, e, ht⟩
    ·rw [allL_no (by omega) (by rw [hz])] at hk; cases hk
    ·rw [e, allL_put hp] at hk
     have hc := (cnt_bd r).1
     have hl := putL_length hp
     have hlen : l.length = cnt r + m.length := by rw [e, List.length_append, hl]
     cases hm : allL m with
     | none => rw [hm] at hk; cases hk
     | some k' =>
       rw [hm] at hk
       injection hk with hk
       subst hk
       obtain ⟨i1, i2⟩ := ih m (by omega) k' hm
       refine ⟨by rw [List.all_cons, hp, i1]; rfl, ?_⟩
       show putL r ++ catL k' = l
       rw [i2, e]
theorem all_append {a : List UInt8} {k : List Int} (h : allL a = some k) (b : List UInt8) : allL (a ++ b) = (allL b).map (k ++ ·) := by
 obtain ⟨h1, h2⟩ := text_all_n a.length a (Nat.le_refl _) k h
 rw [← h2]
 exact all_cat k h1 b
end Go.Proofs.YtfifeofmfpjgfaaDoor
