/-
  Words of our own for all layers: a slice that reads as a list of values, nil and empty ones included; bytes as values; frames behind draws; the last step of a law's row out of the frame 'Below'.
-/
import Derived.Test.YthcafgningpdnaaDoorProg
import Derived.WalkKit
import Derived.WalkSpells
import Derived.WalkLawsBesides
import Derived.ProofKit
import Derived.OpenShut
import Derived.Lib.Hide
import Derived.Lib.OthersKept
import Derived.Lib.ItoaNum
import Derived.Sort.Grow
import Derived.Deep.Draws
import Derived.Laws.BytesArg
namespace Go.Proofs.YthcafgningpdnaaDoor
open Go.RowKit Go.WideShapes Go.ChangeShapes
section
def B8 (c : UInt8) : Value := .int .u8 (c.toNat : Int)
def bs (l : List UInt8) : List Value := l.map B8
theorem bs_length (l : List UInt8) : (bs l).length = l.length := by simp [bs]
theorem bs_get (l : List UInt8) (k : Nat) (h : k < l.length) : (bs l)[k]? = some (B8 l[k]) := by simp [bs, h]
def Rd (w : World) (A : Option Addr) (xs : List Value) : Prop :=
 0 < xs.length → ∃ b o, A = some ⟨b, o, none⟩ ∧ b < w.heap.size ∧ ∀ k u, xs[k]? = some u → w.cell? ⟨b, o + k, none⟩ = some u
theorem Rd.nil (w : World) (A : Option Addr) : Rd w A [] := fun h => absurd h (by simp)
theorem Rd.keep {w w' : World} {A : Option Addr} {xs : List Value} (h : Rd w A xs) (hs : w.heap.size ≤ w'.heap.size) (hb : ∀ k, k < w.heap.size → w'.heap[k]? = w.heap[k]?) : Rd w' A xs := fun hp => by
 obtain ⟨b, o, rfl, hlt, hc⟩ := h hp
 exact ⟨b, o, rfl, by omega, fun k u hu => (World.cell?_of_block (w := w) (a := ⟨b, o + k, none⟩) (hb b hlt)).trans (hc k u hu)⟩
theorem Rd.below {w w' : World} {A : Option Addr} {xs : List Value} (h : Rd w A xs) (hb : Below w.heap.size w w') : Rd w' A xs := h.keep hb.size hb.block
theorem Rd.drew {w : World} {A : Option Addr} {xs : List Value} (h : Rd w A xs) : Rd w.drew A xs := h
theorem Rd.drewN {w : World} {A : Option Addr} {xs : List Value} (h : Rd w A xs) (n : Nat) : Rd (w.drewN n) A xs := h
theorem Rd.alloc {w : World} {A : Option Addr} {xs : List Value} (h : Rd w A xs) (o : Obj) : Rd (w.alloc o) A xs :=
 h.keep (by simp) fun k hk => Below.heap_alloc w o k hk
theorem Rd.own {w : World} {base : Nat} {e : TypeId} {A : Option Addr} {n c : Nat} {xs : List Value} (h : w.ownsRow base e 1 (.slice A n c) n xs) : Rd w A xs := fun hp => by
 rcases h.2 with ⟨_, h0⟩ | ⟨g, cap, cur, hv, hg, hh, hn, hm, hs, ht⟩
 ·have := h.1; omega
 ·injection hv with hA
  subst hA
  refine ⟨g, 0, rfl, (Array.getElem?_eq_some_iff.1 hh).1, fun k u hu => ?_⟩
  have := h.cells (g := g) rfl k u hu
  have e : (⟨g, 0, none⟩ : Addr).add k = ⟨g, 0 + k, none⟩ := by unfold Addr.add; split <;> simp_all
  rwa [e] at this
theorem Rd.block {w : World} {g : Nat} {cs : Array Value} {t : TypeId} {fz : Nat × Nat} {xs : List Value} (h : w.heap[g]? = some (.cells cs t fz)) (hx : cs.toList.take xs.length = xs) : Rd w (some ⟨g, 0, none⟩) xs := fun _ => by
 refine ⟨g, 0, rfl, (Array.getElem?_eq_some_iff.1 h).1, fun k u hu => ?_⟩
 rw [cell_of_row w g (0 + k) cs t fz h, Nat.zero_add]
 rw [← hx, List.getElem?_take] at hu
 split at hu
 ·simpa using hu
 ·cases hu
theorem Rd.at_ {w : World} {A : Option Addr} {l : List UInt8} (h : Rd w A (bs l)) (hp : 0 < l.length) :
 ∃ b o, A = some ⟨b, o, none⟩ ∧ b < w.heap.size ∧ ∀ k (hk : k < l.length), w.cell? ⟨b, o + k, none⟩ = some (.int .u8 (l[k].toNat : Int)) := by
 obtain ⟨b, o, rfl, hb, hc⟩ := h (by rw [bs_length]; exact hp)
 exact ⟨b, o, rfl, hb, fun k hk => hc k _ (bs_get l k hk)⟩
theorem lit_cells (w : World) (L : List Value) (t : TypeId) : ∀ j u, L[j]? = some u → (w.alloc (.cells L.toArray t)).cell? ((⟨w.heap.size, 0, none⟩ : Addr).add j) = some u := fun j u hu => by
 have e : (⟨w.heap.size, 0, none⟩ : Addr).add j = ⟨w.heap.size, j, none⟩ := by unfold Addr.add; split <;> simp_all
 rw [e, World.cell?_alloc_at _ _ _ _ rfl]
 simpa using hu
theorem below_drewN {B : Nat} {a w : World} (h : Below B a w) (n : Nat) : Below B a (w.drewN n) := ⟨h.os, h.tape, h.output, h.size, h.block⟩
theorem below_grow {B : Nat} {a w : World} (h : Below B a w) (hB : B ≤ w.heap.size) (os : Array Obj) : Below B a (Go.Sort.grow w os) :=
 h.trans ⟨rfl, rfl, rfl, by simp [Go.Sort.grow], fun k hk => by
  show (w.heap ++ os)[k]? = w.heap[k]?
  rw [Array.getElem?_append_left (by omega)]⟩
theorem below_cells {W w1 : World} (hb : Below W.heap.size W w1) : (∀ b o, b < W.heap.size → w1.cell? ⟨b, o, none⟩ = W.cell? ⟨b, o, none⟩) ∧ (∀ b o, b < W.heap.size → w1.frozen? ⟨b, o, none⟩ = W.frozen? ⟨b, o, none⟩) :=
 ⟨fun b o h => hb.cell (p := ⟨b, o, none⟩) h, fun b o h => hb.frozen (p := ⟨b, o, none⟩) h⟩
theorem conv_str {P : Program} {w : World} {src e : TypeId} (hs : P.underlying src = some (.slice e)) (he : P.underlying e = some (.int .u8)) {A : Option Addr} {n c : Nat} {l : List UInt8} (hn : l.length = n) (h : Rd w A (bs l)) :
 ∀ dst, P.underlying dst = some .string → (convert src dst (.slice A n c)).run P w = .ok (.string ⟨l.toArray⟩) w := by
 intro dst hd
 by_cases hp : 0 < l.length
 ·obtain ⟨b, o, rfl, _, hc⟩ := h.at_ hp
  rw [run_convert_bytes_arg w src e hs he b o n c (l.map fun x => (x.toNat : Int)) (by simpa using hn) (fun i hi => by
   rw [hc i (by omega)]
   simp [List.getD, List.getElem?_eq_getElem (show i < l.length by omega)]) dst hd]
  congr 2
  unfold strOfNums
  congr 1
  congr 1
  rw [List.map_map]
  calc l.map ((fun n : Int => UInt8.ofNat n.toNat) ∘ fun x : UInt8 => (x.toNat : Int)) = l.map id := List.map_congr_left (fun x _ => by simp)
   _ = l := List.map_id l
 ·have h0 : l = [] := List.eq_nil_of_length_eq_zero (by omega)
  subst h0
  have h1 : n = 0 := by simpa using hn.symm
  subst h1
  rcases A with _ | a
  ·exact run_convert_bytes_nil w src e hs he 0 c dst hd
  ·rw [run_convert_bytes_string w src dst e _ 0 c hs he hd, run_bytesToString w a 0 c [] (by simp [loadCells, loadCellsFrom])]
   rfl
theorem conv_one {P : Program} {src e dst : TypeId} (hs : P.underlying src = some (.slice e)) (he : P.underlying e = some (.int .u8)) (hd : P.underlying dst = some .string) (x : Int) (h0 : 0 ≤ x) (h1 : x < 256) :
 ∀ (W : World) (g : Nat), W.cell? ⟨g, 0, none⟩ = some (.int .u8 x) → (convert src dst (.slice (some ⟨g, 0, none⟩) 1 1)).run P W = .ok (.string ⟨#[UInt8.ofNat x.toNat]⟩) W := by
 intro W g hc
 have hlt := World.block_lt_of_cell? W _ hc
 refine conv_str (l := [UInt8.ofNat x.toNat]) hs he rfl (fun _ => ⟨g, 0, rfl, hlt, fun k u hu => ?_⟩) dst hd
 match k, hu with
 | 0, hu =>
   rw [Nat.zero_add, hc]
   rw [← hu]
   have : ((UInt8.ofNat x.toNat).toNat : Int) = x := by rw [UInt8.toNat_ofNat_of_lt' (by show x.toNat < 256; omega)]; omega
   simp only [bs, B8, List.map_cons, List.map_nil, List.getElem?_cons_zero, this]
 | k + 1, hu => simp [bs] at hu
theorem ret_i {k : IntKind} {a b : Int} (h : a = b) : Ending.returned (.int k a) = .returned (.int k b) := by rw [h]
theorem ret_b {p q : Bool} (h : p = q) : Ending.returned (.bool p) = .returned (.bool q) := by rw [h]
theorem ret_s {p q : List UInt8} (h : p = q) : Ending.returned (.string ⟨p.toArray⟩) = .returned (.string ⟨q.toArray⟩) := by rw [h]
section
variable {H : Type} {enc : TypeId × Value → H} {P : Program}
end
end
end Go.Proofs.YthcafgningpdnaaDoor
