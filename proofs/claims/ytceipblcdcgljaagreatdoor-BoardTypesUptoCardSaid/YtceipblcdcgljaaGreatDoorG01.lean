/-
  Words of our own for all layers: a slice that reads as a list of values, nil and empty ones included; bytes as values; frames behind draws; the last step of a law's row out of the frame 'Below'. A row of the call's own, said cell by cell, whatever of its block may be frozen behind its room: made, made of a string, appended to from any source (nil and empty ones too, and strings), stored into. Layer 2's mathematics: code points and their bytes; the first one of a list of bytes; all of them.
-/
import Derived.Test.YtceipblcdcgljaaGreatDoorProg
import Derived.WalkKit
import Derived.WalkSpells
import Derived.WalkLawsBesides
import Derived.ProofKit
import Derived.OpenShut
import Derived.Lib.Hide
import Derived.Lib.OthersKept
import Derived.Lib.ItoaNum
import Derived.Sort.Grow
import Derived.Deep.Draws
import Derived.Laws.BytesArg
import Derived.Laws.IdiomStrings
import Derived.Lib.AppendStr
import Derived.ArgAppend
namespace Go.Proofs.YtceipblcdcgljaaGreatDoor
open Go.RowKit Go.WideShapes Go.ChangeShapes
section
def B8 (c : UInt8) : Value := .int .u8 (c.toNat : Int)
def bs (l : List UInt8) : List Value := l.map B8
theorem bs_length (l : List UInt8) : (bs l).length = l.length := by simp [bs]
theorem bs_get (l : List UInt8) (k : Nat) (h : k < l.length) : (bs l)[k]? = some (B8 l[k]) := by simp [bs, h]
theorem bs_one (l : List UInt8) : ∀ v ∈ bs l, v.oneCell' = true := by
 intro v hv
 obtain ⟨c, _, rfl⟩ := List.mem_map.1 hv
 rfl
def Rd (w : World) (A : Option Addr) (xs : List Value) : Prop :=
 0 < xs.length → ∃ b o, A = some ⟨b, o, none⟩ ∧ b < w.heap.size ∧ ∀ k u, xs[k]? = some u → w.cell? ⟨b, o + k, none⟩ = some u
theorem Rd.nil (w : World) (A : Option Addr) : Rd w A [] := fun h => absurd h (by simp)
theorem Rd.keep {w w' : World} {A : Option Addr} {xs : List Value} (h : Rd w A xs) (hs : w.heap.size ≤ w'.heap.size) (hb : ∀ k, k < w.heap.size → w'.heap[k]? = w.heap[k]?) : Rd w' A xs := fun hp => by
 obtain ⟨b, o, rfl, hlt, hc⟩ := h hp
 exact ⟨b, o, rfl, by omega, fun k u hu => (World.cell?_of_block (w := w) (a := ⟨b, o + k, none⟩) (hb b hlt)).trans (hc k u hu)⟩
theorem Rd.below {w w' : World} {A : Option Addr} {xs : List Value} (h : Rd w A xs) (hb : Below w.heap.size w w') : Rd w' A xs := h.keep hb.size hb.block
theorem Rd.drew {w : World} {A : Option Addr} {xs : List Value} (h : Rd w A xs) : Rd w.drew A xs := h
theorem Rd.drewN {w : World} {A : Option Addr} {xs : List Value} (h : Rd w A xs) (n : Nat) : Rd (w.drewN n) A xs := h
theorem Rd.alloc {w : World} {A : Option Addr} {xs : List Value} (h : Rd w A xs) (o : Obj) : Rd (w.alloc o) A xs :=
 h.keep (by simp) fun k hk => Below.heap_alloc w o k hk
theorem Rd.own {w : World} {base : Nat} {e : TypeId} {A : Option Addr} {n c : Nat} {xs : List Value} (h : w.ownsRow base e 1 (.slice A n c) n xs) : Rd w A xs := fun hp => by
 rcases h.2 with ⟨_, h0⟩ | ⟨g, cap, cur, hv, hg, hh, hn, hm, hs, ht⟩
 ·have := h.1; omega
 ·injection hv with hA
  subst hA
  refine ⟨g, 0, rfl, (Array.getElem?_eq_some_iff.1 hh).1, fun k u hu => ?_⟩
  have := h.cells (g := g) rfl k u hu
  have e : (⟨g, 0, none⟩ : Addr).add k = ⟨g, 0 + k, none⟩ := by unfold Addr.add; split <;> simp_all
  rwa [e] at this
theorem own_form {w : World} {base : Nat} {e : TypeId} {v : Value} {n : Nat} {xs : List Value} (h : w.ownsRow base e 1 v n xs) : ∃ A c, v = .slice A n c ∧ Rd w A xs := by
 rcases h.2 with ⟨rfl, rfl⟩ | ⟨g, cap, cur, rfl, _⟩
 ·exact ⟨none, 0, rfl, Rd.own h⟩
 ·exact ⟨_, cap, rfl, Rd.own h⟩
theorem Rd.block {w : World} {g : Nat} {cs : Array Value} {t : TypeId} {fz : Nat × Nat} {xs : List Value} (h : w.heap[g]? = some (.cells cs t fz)) (hx : cs.toList.take xs.length = xs) : Rd w (some ⟨g, 0, none⟩) xs := fun _ => by
 refine ⟨g, 0, rfl, (Array.getElem?_eq_some_iff.1 h).1, fun k u hu => ?_⟩
 rw [cell_of_row w g (0 + k) cs t fz h, Nat.zero_add]
 rw [← hx, List.getElem?_take] at hu
 split at hu
 ·simpa using hu
 ·cases hu
theorem Rd.at_ {w : World} {A : Option Addr} {l : List UInt8} (h : Rd w A (bs l)) (hp : 0 < l.length) :
 ∃ b o, A = some ⟨b, o, none⟩ ∧ b < w.heap.size ∧ ∀ k (hk : k < l.length), w.cell? ⟨b, o + k, none⟩ = some (.int .u8 (l[k].toNat : Int)) := by
 obtain ⟨b, o, rfl, hb, hc⟩ := h (by rw [bs_length]; exact hp)
 exact ⟨b, o, rfl, hb, fun k hk => hc k _ (bs_get l k hk)⟩
theorem ints_one {k : IntKind} (L : List Int) : ∀ u ∈ L.map (Value.int k), u.oneCell' = true := fun u hu => by
 obtain ⟨c, _, rfl⟩ := List.mem_map.1 hu
 rfl
theorem byte_at (s : ByteArray) (k : Nat) (h : k < s.size) : s[k]'h = s.data.toList[k]'(by simpa using h) := rfl
theorem below_drewN {B : Nat} {a w : World} (h : Below B a w) (n : Nat) : Below B a (w.drewN n) := ⟨h.os, h.tape, h.output, h.size, h.block⟩
theorem below_grow {B : Nat} {a w : World} (h : Below B a w) (hB : B ≤ w.heap.size) (os : Array Obj) : Below B a (Go.Sort.grow w os) :=
 h.trans ⟨rfl, rfl, rfl, by simp [Go.Sort.grow], fun k hk => by
  show (w.heap ++ os)[k]? = w.heap[k]?
  rw [Array.getElem?_append_left (by omega)]⟩
theorem below_cells {W w1 : World} (hb : Below W.heap.size W w1) : (∀ b o, b < W.heap.size → w1.cell? ⟨b, o, none⟩ = W.cell? ⟨b, o, none⟩) ∧ (∀ b o, b < W.heap.size → w1.frozen? ⟨b, o, none⟩ = W.frozen? ⟨b, o, none⟩) :=
 ⟨fun b o h => hb.cell (p := ⟨b, o, none⟩) h, fun b o h => hb.frozen (p := ⟨b, o, none⟩) h⟩
theorem conv_str {P : Program} {w : World} {src e : TypeId} (hs : P.underlying src = some (.slice e)) (he : P.underlying e = some (.int .u8)) {A : Option Addr} {n c : Nat} {l : List UInt8} (hn : l.length = n) (h : Rd w A (bs l)) :
 ∀ dst, P.underlying dst = some .string → (convert src dst (.slice A n c)).run P w = .ok (.string ⟨l.toArray⟩) w := by
 intro dst hd
 by_cases hp : 0 < l.length
 ·obtain ⟨b, o, rfl, _, hc⟩ := h.at_ hp
  rw [run_convert_bytes_arg w src e hs he b o n c (l.map fun x => (x.toNat : Int)) (by simpa using hn) (fun i hi => by
   rw [hc i (by omega)]
   simp [List.getD, List.getElem?_eq_getElem (show i < l.length by omega)]) dst hd]
  congr 2
  unfold strOfNums
  congr 1
  congr 1
  rw [List.map_map]
  calc l.map ((fun n : Int => UInt8.ofNat n.toNat) ∘ fun x : UInt8 => (x.toNat : Int)) = l.map id := List.map_congr_left (fun x _ => by simp)
   _ = l := List.map_id l
 ·have h0 : l = [] := List.eq_nil_of_length_eq_zero (by omega)
  subst h0
  have h1 : n = 0 := by simpa using hn.symm
  subst h1
  rcases A with _ | a
  ·exact run_convert_bytes_nil w src e hs he 0 c dst hd
  ·rw [run_convert_bytes_string w src dst e _ 0 c hs he hd, run_bytesToString w a 0 c [] (by simp [loadCells, loadCellsFrom])]
   rfl
theorem conv_one {P : Program} {src e dst : TypeId} (hs : P.underlying src = some (.slice e)) (he : P.underlying e = some (.int .u8)) (hd : P.underlying dst = some .string) (x : Int) (h0 : 0 ≤ x) (h1 : x < 256) :
 ∀ (W : World) (g : Nat), W.cell? ⟨g, 0, none⟩ = some (.int .u8 x) → (convert src dst (.slice (some ⟨g, 0, none⟩) 1 1)).run P W = .ok (.string ⟨#[UInt8.ofNat x.toNat]⟩) W := by
 intro W g hc
 have hlt := World.block_lt_of_cell? W _ hc
 refine conv_str (l := [UInt8.ofNat x.toNat]) hs he rfl (fun _ => ⟨g, 0, rfl, hlt, fun k u hu => ?_⟩) dst hd
 match k, hu with
 | 0, hu =>
   rw [Nat.zero_add, hc]
   rw [← hu]
   have : ((UInt8.ofNat x.toNat).toNat : Int) = x := by rw [UInt8.toNat_ofNat_of_lt' (by show x.toNat < 256; omega)]; omega
   simp only [bs, B8, List.map_cons, List.map_nil, List.getElem?_cons_zero, this]
 | k + 1, hu => simp [bs] at hu
theorem ret_i {k : IntKind} {a b : Int} (h : a = b) : Ending.returned (.int k a) = .returned (.int k b) := by rw [h]
theorem ret_b {p q : Bool} (h : p = q) : Ending.returned (.bool p) = .returned (.bool q) := by rw [h]
theorem ret_s {p q : List UInt8} (h : p = q) : Ending.returned (.string ⟨p.toArray⟩) = .returned (.string ⟨q.toArray⟩) := by rw [h]
theorem ret_ib {k : IntKind} {a b : Int} {p q : Bool} (h : a = b) (j : p = q) : Ending.returned (.tuple #[.int k a, .bool p]) = .returned (.tuple #[.int k b, .bool q]) := by rw [h, j]
theorem ret_ii {k l : IntKind} {a b c d : Int} (h : a = b) (j : c = d) : Ending.returned (.tuple #[.int k a, .int l c]) = .returned (.tuple #[.int k b, .int l d]) := by rw [h, j]
section
variable {H : Type} {enc : TypeId × Value → H} {P : Program}
end
end
end Go.Proofs.YtceipblcdcgljaaGreatDoor
namespace Go.Proofs.YtceipblcdcgljaaGreatDoor
open Go.RowKit
section
def Own (w : World) (base : Nat) (e : TypeId) (sz : Nat) (v : Value) (n : Nat) (xs : List Value) : Prop :=
 xs.length = n * sz ∧ ((v = .slice none 0 0 ∧ n = 0) ∨ ∃ g cap, v = .slice (some ⟨g, 0, none⟩) n cap ∧ base ≤ g ∧ (∃ cur fz, w.heap[g]? = some (.cells cur e fz)) ∧ n ≤ cap ∧ cap ≤ maxLen ∧
  (∀ j u, xs[j]? = some u → w.cell? ⟨g, j, none⟩ = some u) ∧ (∀ j, j < cap * sz → (w.cell? ⟨g, j, none⟩).isSome = true ∧ w.frozen? ⟨g, j, none⟩ = false))
section
variable {w w' : World} {base : Nat} {e : TypeId} {sz : Nat} {v : Value} {n : Nat} {xs : List Value}
theorem addr_add (g j : Nat) : (⟨g, 0, none⟩ : Addr).add j = ⟨g, j, none⟩ := by unfold Addr.add; split <;> simp_all
theorem addr_add_at (g o j : Nat) : (⟨g, o, none⟩ : Addr).add j = ⟨g, o + j, none⟩ := by unfold Addr.add; split <;> simp_all
theorem Own.nil_ (w : World) (base : Nat) (e : TypeId) (sz : Nat) : Own w base e sz (.slice none 0 0) 0 [] := ⟨by simp, .inl ⟨rfl, rfl⟩⟩
theorem Own.of (h : w.ownsRow base e sz v n xs) : Own w base e sz v n xs := by
 refine ⟨h.1, ?_⟩
 rcases h.2 with hn | ⟨g, cap, cur, rfl, hb, hh, hnc, hcm, hcs, ht⟩
 ·exact .inl hn
 ·refine .inr ⟨g, cap, rfl, hb, ⟨cur, _, hh⟩, hnc, hcm, fun j u hu => ?_, fun j hj => ?_⟩
  ·have := h.cells (g := g) rfl j u hu
   rwa [addr_add] at this
  ·rw [cell_of_row w g j cur e (0, 0) hh]
   exact ⟨by simp; omega, frozen_of_row w g j cur e hh⟩
theorem Own.lt (h : Own w base e sz v n xs) : ∀ k, v.ownBlock = some k → base ≤ k ∧ k < w.heap.size := by
 intro k hk
 rcases h.2 with ⟨rfl, _⟩ | ⟨g, cap, rfl, hb, ⟨cur, fz, hh⟩, _⟩
 ·simp [Value.ownBlock] at hk
 ·simp [Value.ownBlock] at hk
  subst hk
  exact ⟨hb, (Array.getElem?_eq_some_iff.1 hh).1⟩
theorem Own.keep (h : Own w base e sz v n xs) (hk : ∀ k, v.ownBlock = some k → w'.heap[k]? = w.heap[k]?) : Own w' base e sz v n xs := by
 refine ⟨h.1, ?_⟩
 rcases h.2 with hn | ⟨g, cap, rfl, hb, ⟨cur, fz, hh⟩, hnc, hcm, hx, hc⟩
 ·exact .inl hn
 ·have hg : w'.heap[g]? = w.heap[g]? := hk g rfl
  refine .inr ⟨g, cap, rfl, hb, ⟨cur, fz, hg.trans hh⟩, hnc, hcm, fun j u hu => ?_, fun j hj => ?_⟩
  ·exact (World.cell?_of_block (w := w) (a := ⟨g, j, none⟩) hg).trans (hx j u hu)
  ·rw [World.cell?_of_block (w := w) (a := ⟨g, j, none⟩) hg, World.frozen?_of_block (w := w) (a := ⟨g, j, none⟩) hg]
   exact hc j hj
theorem Own.kept {row : Option Nat} (h : Own w base e sz v n xs) (hg : w.grownBy w' row) (hne : v.ownBlock = none ∨ v.ownBlock ≠ row) : Own w' base e sz v n xs :=
 h.keep fun k hk => hg.block k (h.lt k hk).2 (by
  rcases hne with hn | hn
  ·rw [hk] at hn; cases hn
  ·rwa [hk] at hn)
theorem Own.below {B : Nat} (h : Own w base e sz v n xs) (hb : Below B w w') (hB : ∀ k, v.ownBlock = some k → k < B) : Own w' base e sz v n xs := h.keep fun k hk => hb.block k (hB k hk)
theorem Own.behind (h : Own w base e sz v n xs) (hb : Below w.heap.size w w') : Own w' base e sz v n xs := h.below hb fun k hk => (h.lt k hk).2
theorem Own.alloc (h : Own w base e sz v n xs) (o : Obj) : Own (w.alloc o) base e sz v n xs := h.keep fun k hk => Below.heap_alloc w o k (h.lt k hk).2
theorem Own.drew (h : Own w base e sz v n xs) : Own w.drew base e sz v n xs := h
theorem Own.drewN (h : Own w base e sz v n xs) (m : Nat) : Own (w.drewN m) base e sz v n xs := h
theorem Own.mono {base' : Nat} (h : Own w base e sz v n xs) (hB : base' ≤ base) : Own w base' e sz v n xs := by
 refine ⟨h.1, ?_⟩
 rcases h.2 with hn | ⟨g, cap, rfl, hb, r⟩
 ·exact .inl hn
 ·exact .inr ⟨g, cap, rfl, by omega, r⟩
theorem Own.form (h : Own w base e sz v n xs) : ∃ A c, v = .slice A n c ∧ Rd w A xs := by
 rcases h.2 with ⟨rfl, rfl⟩ | ⟨g, cap, rfl, hb, ⟨cur, fz, hh⟩, hnc, hcm, hx, hc⟩
 ·refine ⟨none, 0, rfl, fun hp => ?_⟩
  have := h.1
  simp at this
  subst this
  simp at hp
 ·exact ⟨_, cap, rfl, fun _ => ⟨g, 0, rfl, (Array.getElem?_eq_some_iff.1 hh).1, fun k u hu => by rw [Nat.zero_add]; exact hx k u hu⟩⟩
theorem Own.rd {A : Option Addr} {c : Nat} (h : Own w base e sz (.slice A n c) n xs) : Rd w A xs := by
 obtain ⟨A', c', hv, hr⟩ := h.form
 injection hv with hA
 subst hA
 exact hr
theorem Own.no_cells (h : Own w base e sz v n xs) {I : Nat} {cs : Array Value} {t : TypeId} {fz : Nat × Nat} (hI : w.heap[I]? = some (.cells cs t fz)) (hne : e ≠ t) : v.ownBlock ≠ some I := by
 rcases h.2 with ⟨rfl, _⟩ | ⟨g, cap, rfl, _, ⟨cur, fz, hh⟩, _⟩
 ·simp [Value.ownBlock]
 ·intro he
  obtain rfl : g = I := by simpa [Value.ownBlock] using he
  rw [hh] at hI
  injection hI with hI
  injection hI with _ ht
  exact absurd ht hne
theorem tag_setCell {g : Nat} {cur : Array Value} {fz : Nat × Nat} (h : w.heap[g]? = some (.cells cur e fz)) (j : Nat) (u : Value) : ∃ cur', (w.setCell ⟨g, j, none⟩ u).heap[g]? = some (.cells cur' e fz) := by
 rw [setCell_eq_setRow w g j cur e fz u h]
 exact ⟨_, setRow_heap w g cur _ e fz h⟩
theorem tag_setCells {g : Nat} {fz : Nat × Nat} : ∀ (vs : List Value) (o : Nat) (w : World) (cur : Array Value), w.heap[g]? = some (.cells cur e fz) → ∃ cur', (w.setCells g o vs).heap[g]? = some (.cells cur' e fz)
 | [], _, _, cur, h => ⟨cur, h⟩
 | v :: r, o, w, cur, h => by
   obtain ⟨cur', h'⟩ := tag_setCell h o v
   exact tag_setCells r (o + 1) _ cur' h'
theorem grown_setCells (g : Nat) : ∀ (vs : List Value) (o : Nat) (w : World), w.grownBy (w.setCells g o vs) (some g)
 | [], _, w => ⟨rfl, rfl, rfl, Nat.le_refl _, fun _ _ _ => rfl⟩
 | v :: r, o, w => by
   have ih := grown_setCells g r (o + 1) (w.setCell ⟨g, o, none⟩ v)
   have hs : (w.setCell ⟨g, o, none⟩ v).heap.size = w.heap.size := by simp [World.setCell]
   exact ⟨ih.os, ih.tape, ih.output, by rw [← hs]; exact ih.size, fun k hk hne => (ih.block k (by omega) hne).trans (Below.heap_setCell w ⟨g, o, none⟩ v k (fun e => hne (by rw [e])))⟩
theorem grown_setCell (g j : Nat) (u : Value) (w : World) : w.grownBy (w.setCell ⟨g, j, none⟩ u) (some g) :=
 ⟨rfl, rfl, rfl, by simp [World.setCell], fun k _ hne => Below.heap_setCell w ⟨g, j, none⟩ u k (fun e => hne (by rw [e]))⟩
theorem Own.stored {g cap : Nat} (h : Own w base e sz (.slice (some ⟨g, 0, none⟩) n cap) n xs) (j : Nat) (u : Value) : Own (w.setCell ⟨g, j, none⟩ u) base e sz (.slice (some ⟨g, 0, none⟩) n cap) n (xs.set j u) := by
 refine ⟨by simpa using h.1, ?_⟩
 rcases h.2 with ⟨h', _⟩ | ⟨g', cap', hv, hb, ⟨cur, fz, hh⟩, hnc, hcm, hx, hc⟩
 ·simp at h'
 ·simp only [Value.slice.injEq, Option.some.injEq, Addr.mk.injEq, and_true, true_and] at hv
  obtain ⟨rfl, rfl⟩ := hv
  obtain ⟨cur', hh'⟩ := tag_setCell hh j u
  refine .inr ⟨g, cap, rfl, hb, ⟨cur', fz, hh'⟩, hnc, hcm, fun i x hi => ?_, fun i hi => ?_⟩
  ·by_cases e : j = i
   ·subst e
    have hj : j < xs.length := by have := (List.getElem?_eq_some_iff.1 hi).1; simpa using this
    rw [List.getElem?_set_self hj] at hi
    injection hi with hi
    subst hi
    exact World.cell?_setCell_same _ _ _ (hx j _ (List.getElem?_eq_getElem hj))
   ·rw [List.getElem?_set_ne e] at hi
    rw [World.cell?_setCell_other _ _ _ _ (fun he => e (congrArg Addr.off he))]
    exact hx i x hi
  ·refine ⟨?_, by rw [World.frozen?_setCell]; exact (hc i hi).2⟩
   by_cases e : j = i
   ·subst e
    obtain ⟨y, hy⟩ := Option.isSome_iff_exists.1 (hc j hi).1
    rw [World.cell?_setCell_same _ _ _ hy]; rfl
   ·rw [World.cell?_setCell_other _ _ _ _ (fun he => e (congrArg Addr.off he))]
    exact (hc i hi).1
theorem Own.cellAt {g cap : Nat} (h : Own w base e sz (.slice (some ⟨g, 0, none⟩) n cap) n xs) (j : Nat) (hj : j < xs.length) : w.cell? ⟨g, j, none⟩ = some xs[j] := by
 rcases h.2 with ⟨h', _⟩ | ⟨g', cap', hv, hb, _, hnc, hcm, hx, hc⟩
 ·simp at h'
 ·simp only [Value.slice.injEq, Option.some.injEq, Addr.mk.injEq, and_true, true_and] at hv
  obtain ⟨rfl, rfl⟩ := hv
  exact hx j _ (List.getElem?_eq_getElem hj)
theorem Own.frozenAt {g cap : Nat} (h : Own w base e sz (.slice (some ⟨g, 0, none⟩) n cap) n xs) (j : Nat) (hj : j < xs.length) : w.frozen? ⟨g, j, none⟩ = false := by
 rcases h.2 with ⟨h', _⟩ | ⟨g', cap', hv, hb, _, hnc, hcm, hx, hc⟩
 ·simp at h'
 ·simp only [Value.slice.injEq, Option.some.injEq, Addr.mk.injEq, and_true, true_and] at hv
  obtain ⟨rfl, rfl⟩ := hv
  have := h.1
  have h2 : n * sz ≤ cap * sz := Nat.mul_le_mul_right _ hnc
  exact (hc j (by omega)).2
end
section
variable {P : Program} (w : World)
theorem run_app (base : Nat) (t ty e : TypeId) (i : TypeInfo) (z : Value) (sz bytes : Nat) (ht : P.underlying t = some (.slice e)) (hi : P.info? e = some i) (hz : i.zero = some z) (hsize : i.size = sz) (hby : i.bytes = bytes) (hzs : z.cells.size = sz) (hsz : 0 < sz)
 (v : Value) (n : Nat) (xs : List Value) (hown : Own w base e sz v n xs) (A : Option Addr) (m c : Nat) (news : List Value) (hl : news.length = m * sz) (hr : Rd w A news) (h1 : ∀ u ∈ news, u.oneCell' = true)
 (h63 : n + m ≤ maxLen) (hlim : (n + m) * bytes ≤ 140737488355328) (hbase : base ≤ w.heap.size) :
 ∃ v' w', (Builtin.append_ #[t, t] ty #[v, .slice A m c]).run P w = .ok v' w' ∧ Own w' base e sz v' (n + m) (xs ++ news) ∧ w.grownBy w' v.ownBlock := by
 by_cases hm : m = 0
 ·subst hm
  have hn : news = [] := List.eq_nil_of_length_eq_zero (by simpa using hl)
  subst hn
  refine ⟨v, w, ?_, by simpa using hown, ⟨rfl, rfl, rfl, Nat.le_refl _, fun _ _ _ => rfl⟩⟩
  rcases hown.2 with ⟨rfl, rfl⟩ | ⟨g, cap, rfl, _, _, hnc, _⟩
  ·rcases A with _ | a
   ·simp [Builtin.append_, run_underlying ht, sizeOf, typeInfo, hi, Builtin.lenOf, Builtin.firstCells]
   ·simp [Builtin.append_, run_underlying ht, sizeOf, typeInfo, hi, Builtin.lenOf, Builtin.firstCells, loadCells, loadCellsFrom]
  ·rcases A with _ | a
   ·simp [Builtin.append_, run_underlying ht, sizeOf, typeInfo, hi, Builtin.lenOf, Builtin.firstCells, hnc, storeCells]
   ·simp [Builtin.append_, run_underlying ht, sizeOf, typeInfo, hi, Builtin.lenOf, Builtin.firstCells, hnc, storeCells, loadCells, loadCellsFrom]
 ·have hp : 0 < news.length := by rw [hl]; exact Nat.mul_pos (by omega) hsz
  obtain ⟨b, o, rfl, hb, hc⟩ := hr hp
  have hnews : ∀ j u, news[j]? = some u → w.cell? ((⟨b, o, none⟩ : Addr).add j) = some u := fun j u hu => by rw [addr_add_at]; exact hc j u hu
  rcases hown.2 with ⟨rfl, rfl⟩ | ⟨g, cap, rfl, hbg, ⟨cur, fz, hh⟩, hnc, hcm, hx, hcl⟩
  ·obtain ⟨v', w', r1, r2, r3, _⟩ := run_append_own (P := P) w base t ty e i z sz bytes ht hi hz hsize hby hzs hsz (.slice none 0 0) 0 xs ⟨hown.1, .inl ⟨rfl, rfl⟩⟩ ⟨b, o, none⟩ m c news hl hnews h1 h63 hlim hbase
   exact ⟨v', w', r1, Own.of r2, r3⟩
  ·have hxl : xs.length = n * sz := hown.1
   have hmul : (n + m) * sz = n * sz + m * sz := Nat.add_mul n m sz
   by_cases hroom : n + m ≤ cap
   ·have hcap : (n + m) * sz ≤ cap * sz := Nat.mul_le_mul_right _ hroom
    have hrun := run_append_room_cells (P := P) w t ty e i ht hi g 0 n cap ⟨b, o, none⟩ m c news (by rw [hsize]; exact hl) hnews h1 hroom
     (fun j hj => by rw [hsize, Nat.zero_add]; exact (hcl _ (by omega)).1) (fun j hj => by rw [hsize, Nat.zero_add]; exact (hcl _ (by omega)).2)
    rw [hsize, Nat.zero_add] at hrun
    obtain ⟨cur', hh'⟩ := tag_setCells news (n * sz) w cur hh
    refine ⟨_, _, hrun, ⟨by rw [List.length_append, hxl, hl, hmul], .inr ⟨g, cap, rfl, hbg, ⟨cur', fz, hh'⟩, hroom, hcm, fun j u hu => ?_, fun j hj => ?_⟩⟩, grown_setCells g news _ w⟩
    ·by_cases hj : j < xs.length
     ·rw [List.getElem?_append_left hj] at hu
      rw [World.cell?_setCells_out g news _ w ⟨g, j, none⟩ (fun _ _ => .inl (by show j < n * sz; omega))]
      exact hx j u hu
     ·rw [List.getElem?_append_right (by omega)] at hu
      obtain ⟨hj2, hu2⟩ := List.getElem?_eq_some_iff.1 hu
      have := World.cell?_setCells_in g news (n * sz) w (fun k hk => (hcl _ (by omega)).1) (j - xs.length) hj2
      rw [show n * sz + (j - xs.length) = j by omega] at this
      rw [this, hu2]
    ·refine ⟨?_, by rw [World.frozen?_setCells]; exact (hcl j hj).2⟩
     by_cases hin : n * sz ≤ j ∧ j < n * sz + news.length
     ·have := World.cell?_setCells_in g news (n * sz) w (fun k hk => (hcl _ (by omega)).1) (j - n * sz) (by omega)
      rw [show n * sz + (j - n * sz) = j by omega] at this
      rw [this]; rfl
     ·rw [World.cell?_setCells_out g news _ w ⟨g, j, none⟩ (fun _ _ => by show j < n * sz ∨ n * sz + news.length ≤ j; omega)]
      exact (hcl j hj).1
   ·have holds : ∀ j u, xs[j]? = some u → w.cell? ((⟨g, 0, none⟩ : Addr).add j) = some u := fun j u hu => by rw [addr_add]; exact hx j u hu
    have hsmall : n + m ≤ 9223372036854775807 := by simp only [maxLen] at h63; omega
    have hrun := run_append_grow (P := P) w t ty e i z ht hi hz ⟨g, 0, none⟩ n cap xs (by rw [hsize]; exact hxl) holds ⟨b, o, none⟩ m c news (by rw [hsize]; exact hl) hnews (by omega) (by omega) (by rw [hby]; exact growslice_fits (by omega) hlim)
    have hge := grownCap_ge w (n + m) cap e
    have hcm2 : grownCap w (n + m) cap e ≤ maxLen := grownCap_le_maxLen w (n + m) cap e h63
    have hrow : (w.drew.alloc (.cells (xs.toArray ++ news.toArray ++ Builtin.zeroCells z.cells (grownCap w (n + m) cap e - (n + m))) e)).ownsRow base e sz (.slice (some ⟨w.heap.size, 0, none⟩) (n + m) (grownCap w (n + m) cap e)) (n + m) (xs ++ news) := by
     have hlen : (xs ++ news).length = (n + m) * sz := by rw [List.length_append, hxl, hl, hmul]
     refine ⟨hlen, .inr ⟨w.heap.size, _, _, rfl, hbase, heap_alloc_new w.drew _, hge, hcm2, ?_, ?_⟩⟩
     ·simp only [Array.size_append, List.size_toArray, size_zeroCells, hzs, hxl, hl]
      rw [← hmul, ← Nat.add_mul]
      congr 1
      omega
     ·simp only [Array.toList_append, List.append_assoc]
      rw [← List.append_assoc, ← hlen]
      exact List.take_left
    exact ⟨_, _, hrun, Own.of hrow, ⟨rfl, rfl, rfl, by simp, fun k hk _ => Below.heap_alloc w.drew _ k hk⟩⟩
theorem wp_app {o : Oper} {a : Act} {K : Act → World → Prop} {Q : Exit → Act → World → Prop} (s x : Operand) (t : TypeId) (ho : o.op = .call { callee := .builtin .append, args := #[s, x], argTypes := #[t, t] })
 (base : Nat) (e : TypeId) (i : TypeInfo) (z : Value) (sz bytes : Nat) (ht : P.underlying t = some (.slice e)) (hi : P.info? e = some i) (hz : i.zero = some z) (hsize : i.size = sz) (hby : i.bytes = bytes) (hzs : z.cells.size = sz) (hsz : 0 < sz)
 (v : Value) (n : Nat) (xs : List Value) (hs : a.eval s = v) (hown : Own w base e sz v n xs) (A : Option Addr) (m c : Nat) (news : List Value) (hx : a.eval x = .slice A m c) (hl : news.length = m * sz) (hr : Rd w A news) (h1 : ∀ u ∈ news, u.oneCell' = true)
 (h63 : n + m ≤ maxLen) (hlim : (n + m) * bytes ≤ 140737488355328) (hbase : base ≤ w.heap.size)
 (h : ∀ v' w', Own w' base e sz v' (n + m) (xs ++ news) → w.grownBy w' v.ownBlock → K (a.put o.dst v') w') : o.wp P a w K Q := by
 obtain ⟨v', w', hrun, h2, h3⟩ := run_app (P := P) w base t o.type e i z sz bytes ht hi hz hsize hby hzs hsz v n xs hown A m c news hl hr h1 h63 hlim hbase
 unfold Oper.wp execOp
 simp only [ho, resolve, invoke, builtin, Sem.run_bind, Sem.run_pure, Result.andThen_ok, List.map_toArray, List.map_cons, List.map_nil, hs, hx, hrun]
 exact h v' w' h2 h3
theorem list_app {ops : Array Oper} {rest : List Oper} {o : Oper} {a : Act} {Q : Exit → Act → World → Prop} (hgd : o.guard = none) (s x : Operand) (t : TypeId) (ho : o.op = .call { callee := .builtin .append, args := #[s, x], argTypes := #[t, t] })
 (base : Nat) (e : TypeId) (i : TypeInfo) (z : Value) (sz bytes : Nat) (ht : P.underlying t = some (.slice e)) (hi : P.info? e = some i) (hz : i.zero = some z) (hsize : i.size = sz) (hby : i.bytes = bytes) (hzs : z.cells.size = sz) (hsz : 0 < sz)
 (v : Value) (n : Nat) (xs : List Value) (hs : a.eval s = v) (hown : Own w base e sz v n xs) (A : Option Addr) (m c : Nat) (news : List Value) (hx : a.eval x = .slice A m c) (hl : news.length = m * sz) (hr : Rd w A news) (h1 : ∀ u ∈ news, u.oneCell' = true)
 (h63 : n + m ≤ maxLen) (hlim : (n + m) * bytes ≤ 140737488355328) (hbase : base ≤ w.heap.size)
 (h : ∀ v' w', Own w' base e sz v' (n + m) (xs ++ news) → w.grownBy w' v.ownBlock → wpList P ops Q rest (a.put o.dst v') w') : wpList P ops Q (o :: rest) a w :=
 wpList_plain hgd fun _ hK => wp_app w s x t ho base e i z sz bytes ht hi hz hsize hby hzs hsz v n xs hs hown A m c news hx hl hr h1 h63 hlim hbase fun v' w' h2 h3 => hK _ _ (h v' w' h2 h3)
theorem step_app {ops : Array Oper} {o : Oper} {a : Act} {K : Act → World → Prop} {Q : Exit → Act → World → Prop} {E : Prop} (hgd : o.guard = none) (s x : Operand) (t : TypeId) (ho : o.op = .call { callee := .builtin .append, args := #[s, x], argTypes := #[t, t] })
 (base : Nat) (e : TypeId) (i : TypeInfo) (z : Value) (sz bytes : Nat) (ht : P.underlying t = some (.slice e)) (hi : P.info? e = some i) (hz : i.zero = some z) (hsize : i.size = sz) (hby : i.bytes = bytes) (hzs : z.cells.size = sz) (hsz : 0 < sz)
 (v : Value) (n : Nat) (xs : List Value) (hs : a.eval s = v) (hown : Own w base e sz v n xs) (A : Option Addr) (m c : Nat) (news : List Value) (hx : a.eval x = .slice A m c) (hl : news.length = m * sz) (hr : Rd w A news) (h1 : ∀ u ∈ news, u.oneCell' = true)
 (h63 : n + m ≤ maxLen) (hlim : (n + m) * bytes ≤ 140737488355328) (hbase : base ≤ w.heap.size)
 (h : ∀ v' w', Own w' base e sz v' (n + m) (xs ++ news) → w.grownBy w' v.ownBlock → K (a.put o.dst v') w') :
 if Region.wanted o (yielded ops a.tmps) = true then Oper.wp P o a w K Q else E := by
 have hw : Region.wanted o (yielded ops a.tmps) = true := by simp [Region.wanted, hgd]
 rw [if_pos hw]
 exact wp_app w s x t ho base e i z sz bytes ht hi hz hsize hby hzs hsz v n xs hs hown A m c news hx hl hr h1 h63 hlim hbase h
theorem run_conv (base : Nat) (src dst e : TypeId) (s : ByteArray) (hs : P.underlying src = some .string) (hd : P.underlying dst = some (.slice e)) (he : P.underlying e = some (.int .u8)) (hm : s.size ≤ maxLen) (hbase : base ≤ w.heap.size) :
 ∃ v' w', (convert src dst (.string s)).run P w = .ok v' w' ∧ Own w' base e 1 v' s.size (bs s.data.toList) ∧ w.grownBy w' none := by
 have hge := grownCap_ge w s.size 0 e
 have hle := grownCap_le_maxLen w s.size 0 e hm
 have hsz : (bytesRow s (grownCap w s.size 0 e)).size = grownCap w s.size 0 e := by
  simp only [bytesRow, Array.size_append, Array.size_map, Array.size_replicate]
  show s.size + _ = _
  omega
 refine ⟨_, _, run_bytes_of_string w src dst e s hs hd he, ⟨?_, .inr ⟨w.heap.size, grownCap w s.size 0 e, rfl, hbase, ⟨_, _, heap_alloc_new w.drew _⟩, hge, hle, fun j u hu => ?_, fun j hj => ?_⟩⟩, ⟨rfl, rfl, rfl, by simp, fun k hk _ => Below.heap_alloc w.drew _ k hk⟩⟩
 ·rw [bs_length, Array.length_toList]; exact (Nat.mul_one _).symm
 ·obtain ⟨hj, hu2⟩ := List.getElem?_eq_some_iff.1 hu
  have hj2 : j < s.data.size := by rw [bs_length, Array.length_toList] at hj; exact hj
  have hc := World.cell?_alloc_mark w.drew (bytesRow s (grownCap w s.size 0 e)) e ((bytesRow s (grownCap w s.size 0 e)).size, (bytesRow s (grownCap w s.size 0 e)).size + 1) j
  refine hc.trans ?_
  rw [bytesRow_at s _ j hj2, ← hu2]
  simp [bs, B8]
 ·have hc := World.cell?_alloc_mark w.drew (bytesRow s (grownCap w s.size 0 e)) e ((bytesRow s (grownCap w s.size 0 e)).size, (bytesRow s (grownCap w s.size 0 e)).size + 1) j
  have hf := World.frozen?_alloc_mark w.drew (bytesRow s (grownCap w s.size 0 e)) e (bytesRow s (grownCap w s.size 0 e)).size ((bytesRow s (grownCap w s.size 0 e)).size + 1) j
  refine ⟨?_, ?_⟩
  ·have h2 : ((bytesRow s (grownCap w s.size 0 e))[j]?).isSome = true := by simp; omega
   rw [← hc] at h2
   exact h2
  ·refine hf.trans ?_
   rw [Bool.and_eq_false_iff]
   left
   rw [decide_eq_false_iff_not]
   omega
theorem list_conv {ops : Array Oper} {rest : List Oper} {o : Oper} {a : Act} {Q : Exit → Act → World → Prop} (hgd : o.guard = none) (x : Operand) (src dst : TypeId) (ho : o.op = .convert src dst x)
 (base : Nat) (e : TypeId) (s : ByteArray) (hx : a.eval x = .string s) (hs : P.underlying src = some .string) (hd : P.underlying dst = some (.slice e)) (he : P.underlying e = some (.int .u8)) (hm : s.size ≤ maxLen) (hbase : base ≤ w.heap.size)
 (h : ∀ v' w', Own w' base e 1 v' s.size (bs s.data.toList) → w.grownBy w' none → wpList P ops Q rest (a.put o.dst v') w') : wpList P ops Q (o :: rest) a w := by
 refine wpList_plain hgd fun K hK => ?_
 obtain ⟨v', w', hrun, h2, h3⟩ := run_conv (P := P) w base src dst e s hs hd he hm hbase
 unfold Oper.wp execOp
 simp only [ho, hx, Sem.run_bind, hrun, Result.andThen_ok, Sem.run_pure]
 exact hK _ _ (h v' w' h2 h3)
end
end
end Go.Proofs.YtceipblcdcgljaaGreatDoor
namespace Go.Proofs.YtceipblcdcgljaaGreatDoor
def isPt (r : Int) : Bool := decide (0 ≤ r) && decide (r ≤ 1114111) && (decide (r < 55296) || decide (57343 < r))
theorem isPt_iff (r : Int) : isPt r = true ↔ (0 ≤ r ∧ r ≤ 1114111 ∧ (r < 55296 ∨ 57343 < r)) := by
 simp [isPt, and_assoc]
theorem isPt_no (r : Int) : isPt r = false ↔ ¬ (0 ≤ r ∧ r ≤ 1114111 ∧ (r < 55296 ∨ 57343 < r)) := by
 rw [← isPt_iff]; simp
def byt (k : Int) : UInt8 := UInt8.ofNat k.toNat
theorem byt_nat (k : Int) (h : 0 ≤ k) (h1 : k < 256) : ((byt k).toNat : Int) = k := by
 unfold byt
 rw [UInt8.toNat_ofNat_of_lt' (by show k.toNat < 256; omega)]; omega
theorem byt_of (c : UInt8) (k : Int) (h : (c.toNat : Int) = k) : byt k = c := by
 subst h
 unfold byt
 simp
def cnt (r : Int) : Nat := if r < 128 then 1 else if r < 2048 then 2 else if r < 65536 then 3 else 4
def putL (r : Int) : List UInt8 :=
 if isPt r = false then [] else if r < 128 then [byt r] else if r < 2048 then [byt (192 + r / 64), byt (128 + r % 64)]
 else if r < 65536 then [byt (224 + r / 4096), byt (128 + r / 64 % 64), byt (128 + r % 64)]
 else [byt (240 + r / 262144), byt (128 + r / 4096 % 64), byt (128 + r / 64 % 64), byt (128 + r % 64)]
theorem putL_no {r : Int} (h : isPt r = false) : putL r = [] := by unfold putL; rw [if_pos h]
theorem putL_1 {r : Int} (h : isPt r = true) (h1 : r < 128) : putL r = [byt r] := by unfold putL; rw [if_neg (by rw [h]; decide), if_pos h1]
theorem putL_2 {r : Int} (h : isPt r = true) (h1 : 128 ≤ r) (h2 : r < 2048) : putL r = [byt (192 + r / 64), byt (128 + r % 64)] := by unfold putL; rw [if_neg (by rw [h]; decide), if_neg (by omega), if_pos h2]
theorem putL_3 {r : Int} (h : isPt r = true) (h1 : 2048 ≤ r) (h2 : r < 65536) : putL r = [byt (224 + r / 4096), byt (128 + r / 64 % 64), byt (128 + r % 64)] := by unfold putL; rw [if_neg (by rw [h]; decide), if_neg (by omega), if_neg (by omega), if_pos h2]
theorem putL_4 {r : Int} (h : isPt r = true) (h1 : 65536 ≤ r) : putL r = [byt (240 + r / 262144), byt (128 + r / 4096 % 64), byt (128 + r / 64 % 64), byt (128 + r % 64)] := by unfold putL; rw [if_neg (by rw [h]; decide), if_neg (by omega), if_neg (by omega), if_neg (by omega)]
theorem putL_length {r : Int} (h : isPt r = true) : (putL r).length = cnt r := by
 unfold putL cnt
 rw [if_neg (by rw [h]; decide)]
 repeat' split
 all_goals rfl
theorem cnt_bd (r : Int) : 1 ≤ cnt r ∧ cnt r ≤ 4 := by unfold cnt; repeat' split
                                                       all_goals omega
theorem putL_le (r : Int) : (putL r).length ≤ 4 := by
 cases h : isPt r with
 | false => rw [putL_no h]; simp
 | true => rw [putL_length h]; exact (cnt_bd r).2
def fol (c : UInt8) : Bool := decide (128 ≤ c.toNat) && decide (c.toNat < 192)
theorem fol_iff (c : UInt8) : fol c = true ↔ 128 ≤ c.toNat ∧ c.toNat < 192 := by simp [fol]
def num1 (a : UInt8) : Int := a.toNat
def num2 (a b : UInt8) : Int := ((a.toNat : Int) - 192) * 64 + ((b.toNat : Int) - 128)
def num3 (a b c : UInt8) : Int := (((a.toNat : Int) - 224) * 64 + ((b.toNat : Int) - 128)) * 64 + ((c.toNat : Int) - 128)
def num4 (a b c d : UInt8) : Int := ((((a.toNat : Int) - 240) * 64 + ((b.toNat : Int) - 128)) * 64 + ((c.toNat : Int) - 128)) * 64 + ((d.toNat : Int) - 128)
def takeL : List UInt8 → Int × Nat
 | [] => (0, 0)
 | a :: l =>
   if a.toNat < 192 then (if a.toNat < 128 then (num1 a, 1) else (0, 0))
   else if a.toNat < 224 then (match l with
    | b :: _ => if fol b = true ∧ isPt (num2 a b) = true ∧ 128 ≤ num2 a b then (num2 a b, 2) else (0, 0)
    | _ => (0, 0))
   else if a.toNat < 240 then (match l with
    | b :: c :: _ => if fol b = true ∧ fol c = true ∧ isPt (num3 a b c) = true ∧ 2048 ≤ num3 a b c then (num3 a b c, 3) else (0, 0)
    | _ => (0, 0))
   else (match l with
    | b :: c :: d :: _ => if fol b = true ∧ fol c = true ∧ fol d = true ∧ isPt (num4 a b c d) = true ∧ 65536 ≤ num4 a b c d then (num4 a b c d, 4) else (0, 0)
    | _ => (0, 0))
theorem take_put {r : Int} (h : isPt r = true) (m : List UInt8) : takeL (putL r ++ m) = (r, cnt r) := by
 obtain ⟨h0, h1, h2⟩ := (isPt_iff r).1 h
 have hc : cnt r = if r < 128 then 1 else if r < 2048 then 2 else if r < 65536 then 3 else 4 := rfl
 by_cases a1 : r < 128
 ·rw [putL_1 h a1, hc, if_pos a1]
  have b0 := byt_nat r (by omega) (by omega)
  simp only [List.cons_append, List.nil_append, takeL]
  rw [if_pos (by omega), if_pos (by omega)]
  unfold num1
  rw [b0]
 ·by_cases a2 : r < 2048
  ·rw [putL_2 h (by omega) a2, hc, if_neg a1, if_pos a2]
   have b0 := byt_nat (192 + r / 64) (by omega) (by omega)
   have b1 := byt_nat (128 + r % 64) (by omega) (by omega)
   have e : num2 (byt (192 + r / 64)) (byt (128 + r % 64)) = r := by unfold num2; rw [b0, b1]; omega
   simp only [List.cons_append, List.nil_append, takeL]
   rw [if_neg (by omega), if_pos (by omega), e, if_pos ⟨(fol_iff _).2 (by omega), h, by omega⟩]
  ·by_cases a3 : r < 65536
   ·rw [putL_3 h (by omega) a3, hc, if_neg a1, if_neg a2, if_pos a3]
    have b0 := byt_nat (224 + r / 4096) (by omega) (by omega)
    have b1 := byt_nat (128 + r / 64 % 64) (by omega) (by omega)
    have b2 := byt_nat (128 + r % 64) (by omega) (by omega)
    have e : num3 (byt (224 + r / 4096)) (byt (128 + r / 64 % 64)) (byt (128 + r % 64)) = r := by unfold num3; rw [b0, b1, b2]; omega
    simp only [List.cons_append, List.nil_append, takeL]
    rw [if_neg (by omega), if_neg (by omega), if_pos (by omega), e, if_pos ⟨(fol_iff _).2 (by omega), (fol_iff _).2 (by omega), h, by omega⟩]
   ·rw [putL_4 h (by omega), hc, if_neg a1, if_neg a2, if_neg a3]
    have b0 := byt_nat (240 + r / 262144) (by omega) (by omega)
    have b1 := byt_nat (128 + r / 4096 % 64) (by omega) (by omega)
    have b2 := byt_nat (128 + r / 64 % 64) (by omega) (by omega)
    have b3 := byt_nat (128 + r % 64) (by omega) (by omega)
    have e : num4 (byt (240 + r / 262144)) (byt (128 + r / 4096 % 64)) (byt (128 + r / 64 % 64)) (byt (128 + r % 64)) = r := by unfold num4; rw [b0, b1, b2, b3]; omega
    simp only [List.cons_append, List.nil_append, takeL]
    rw [if_neg (by omega), if_neg (by omega), if_neg (by omega), e, if_pos ⟨(fol_iff _).2 (by omega), (fol_iff _).2 (by omega), (fol_iff _).2 (by omega), h, by omega⟩]
theorem take_is (l : List UInt8) : takeL l = (0, 0) ∨ ∃ r m, isPt r = true ∧ l = putL r ++ m ∧ takeL l = (r, cnt r) := by
 suffices key : takeL l = (0, 0) ∨ ∃ r m, isPt r = true ∧ l = putL r ++ m by
  rcases key with h | ⟨r, m, h, e⟩
  ·exact .inl h
  ·exact .inr ⟨r, m, h, e, by rw [e]; exact take_put h m⟩
 cases l with
 | nil => exact .inl rfl
 | cons a l =>
   have ha := a.toNat_lt
   simp only [takeL]
   by_cases a1 : a.toNat < 192
   ·rw [if_pos a1]
    by_cases a2 : a.toNat < 128
    ·refine .inr ⟨a.toNat, l, (isPt_iff _).2 (by omega), ?_⟩
     rw [putL_1 ((isPt_iff _).2 (by omega)) (by omega), byt_of a _ rfl]; rfl
    ·rw [if_neg a2]; exact .inl rfl
   ·rw [if_neg a1]
    by_cases a2 : a.toNat < 224
    ·rw [if_pos a2]
     match l with
     | [] => exact .inl rfl
     | b :: l =>
       dsimp only
       split
       ·rename_i hh
        obtain ⟨f1, hp, hge⟩ := hh
        have f1 := (fol_iff b).1 f1
        refine .inr ⟨num2 a b, l, hp, ?_⟩
        have e0 : num2 a b = ((a.toNat : Int) - 192) * 64 + ((b.toNat : Int) - 128) := rfl
        rw [putL_2 hp hge (by omega), byt_of a _ (by omega), byt_of b _ (by omega)]; rfl
       ·exact .inl rfl
    ·rw [if_neg a2]
     by_cases a3 : a.toNat < 240
     ·rw [if_pos a3]
      match l with
      | [] => exact .inl rfl
      | [_] => exact .inl rfl
      | b :: c :: l =>
        dsimp only
        split
        ·rename_i hh
         obtain ⟨f1, f2, hp, hge⟩ := hh
         have f1 := (fol_iff b).1 f1
         have f2 := (fol_iff c).1 f2
         refine .inr ⟨num3 a b c, l, hp, ?_⟩
         have e0 : num3 a b c = (((a.toNat : Int) - 224) * 64 + ((b.toNat : Int) - 128)) * 64 + ((c.toNat : Int) - 128) := rfl
         rw [putL_3 hp hge (by omega), byt_of a _ (by omega), byt_of b _ (by omega), byt_of c _ (by omega)]; rfl
        ·exact .inl rfl
     ·rw [if_neg a3]
      match l with
      | [] => exact .inl rfl
      | [_] => exact .inl rfl
      | [_, _] => exact .inl rfl
      | b :: c :: d :: l =>
        dsimp only
        split
        ·rename_i hh
         obtain ⟨f1, f2, f3, hp, hge⟩ := hh
         have f1 := (fol_iff b).1 f1
         have f2 := (fol_iff c).1 f2
         have f3 := (fol_iff d).1 f3
         refine .inr ⟨num4 a b c d, l, hp, ?_⟩
         have e0 : num4 a b c d = ((((a.toNat : Int) - 240) * 64 + ((b.toNat : Int) - 128)) * 64 + ((c.toNat : Int) - 128)) * 64 + ((d.toNat : Int) - 128) := rfl
         rw [putL_4 hp hge, byt_of a _ (by omega), byt_of b _ (by omega), byt_of c _ (by omega), byt_of d _ (by omega)]; rfl
        ·exact .inl rfl
theorem take_snd_le (l : List UInt8) : (takeL l).2 ≤ l.length ∧ (takeL l).2 ≤ 4 := by
 rcases take_is l with h | ⟨r, m, hp, e, h⟩
 ·rw [h]; simp
 ·have hl := putL_length hp
  have := (cnt_bd r).2
  rw [h]
  refine ⟨?_, this⟩
  rw [e, List.length_append, hl]; show cnt r ≤ _; omega
theorem take_zero {l : List UInt8} (h : (takeL l).2 = 0) : takeL l = (0, 0) := by
 rcases take_is l with h' | ⟨r, m, hp, e, h'⟩
 ·exact h'
 ·rw [h'] at h; have := (cnt_bd r).1; simp at h; omega
def ptsN : Nat → List UInt8 → List (Int × Bool)
 | _, [] => []
 | 0, _ => []
 | n + 1, a :: l => if (takeL (a :: l)).2 = 0 then [(0, false)] else ((takeL (a :: l)).1, true) :: ptsN n ((a :: l).drop (takeL (a :: l)).2)
def ptsL (l : List UInt8) : List (Int × Bool) := ptsN l.length l
theorem ptsN_eq : ∀ (n m : Nat) (l : List UInt8), l.length ≤ n → l.length ≤ m → ptsN n l = ptsN m l := by
 intro n
 induction n with
 | zero => intro m l h _; cases l with
   | nil => cases m <;> rfl
   | cons a l => simp at h
 | succ n ih =>
   intro m l h h'
   cases l with
   | nil => cases m <;> rfl
   | cons a l =>
     cases m with
     | zero => simp at h'
     | succ m =>
       simp only [List.length_cons] at h h'
       unfold ptsN
       by_cases hz : (takeL (a :: l)).2 = 0
       ·rw [if_pos hz, if_pos hz]
       ·rw [if_neg hz, if_neg hz, ih m _ (by rw [List.length_drop, List.length_cons]; omega) (by rw [List.length_drop, List.length_cons]; omega)]
theorem ptsL_no {l : List UInt8} (h : 0 < l.length) (hz : (takeL l).2 = 0) : ptsL l = [(0, false)] := by
 cases l with
 | nil => simp at h
 | cons a l => show ptsN (l.length + 1) (a :: l) = _; unfold ptsN; rw [if_pos hz]
theorem ptsL_yes {l : List UInt8} (hz : (takeL l).2 ≠ 0) : ptsL l = ((takeL l).1, true) :: ptsL (l.drop (takeL l).2) := by
 cases l with
 | nil => exact absurd rfl hz
 | cons a l =>
   show ptsN (l.length + 1) (a :: l) = _
   unfold ptsN
   rw [if_neg hz]
   exact congrArg (_ :: ·) (ptsN_eq _ _ _ (by rw [List.length_drop, List.length_cons]; omega) (Nat.le_refl _))
theorem ptsL_put {r : Int} (h : isPt r = true) (m : List UInt8) : ptsL (putL r ++ m) = (r, true) :: ptsL m := by
 have ht := take_put h m
 have hc := (cnt_bd r).1
 rw [ptsL_yes (by rw [ht]; show cnt r ≠ 0; omega), ht]
 congr 2
 show (putL r ++ m).drop (cnt r) = m
 rw [← putL_length h, List.drop_left]
theorem ptsL_length : ∀ (n : Nat) (l : List UInt8), l.length ≤ n → (ptsL l).length ≤ l.length := by
 intro n
 induction n with
 | zero => intro l h; obtain rfl := List.eq_nil_of_length_eq_zero (Nat.le_zero.1 h); exact Nat.le_refl _
 | succ n ih =>
   intro l h
   by_cases h0 : l.length = 0
   ·obtain rfl := List.eq_nil_of_length_eq_zero h0; exact Nat.le_refl _
   ·by_cases hz : (takeL l).2 = 0
    ·rw [ptsL_no (by omega) hz]; show 1 ≤ _; omega
    ·rw [ptsL_yes hz, List.length_cons]
     have := ih (l.drop (takeL l).2) (by rw [List.length_drop]; omega)
     rw [List.length_drop] at this
     omega
theorem ptsL_le (l : List UInt8) : (ptsL l).length ≤ l.length := ptsL_length l.length l (Nat.le_refl _)
def allOf (p : List (Int × Bool)) : Option (List Int) := if p.all (·.2) = true then some (p.map (·.1)) else none
def allL (l : List UInt8) : Option (List Int) := allOf (ptsL l)
theorem allOf_cons (r : Int) (p : List (Int × Bool)) : allOf ((r, true) :: p) = (allOf p).map (r :: ·) := by
 unfold allOf
 simp only [List.all_cons, Bool.true_and, List.map_cons]
 split <;> rfl
theorem allL_put {r : Int} (h : isPt r = true) (m : List UInt8) : allL (putL r ++ m) = (allL m).map (r :: ·) := by
 unfold allL; rw [ptsL_put h, allOf_cons]
theorem allL_no {l : List UInt8} (h : 0 < l.length) (hz : (takeL l).2 = 0) : allL l = none := by unfold allL; rw [ptsL_no h hz]; rfl
theorem allL_yes {l : List UInt8} (hz : (takeL l).2 ≠ 0) : allL l = (allL (l.drop (takeL l).2)).map ((takeL l).1 :: ·) := by unfold allL; rw [ptsL_yes hz, allOf_cons]
def catL (k : List Int) : List UInt8 := k.flatMap putL
theorem catL_length (k : List Int) : (catL k).length ≤ 4 * k.length := by
 induction k with
 | nil => simp [catL]
 | cons r k ih =>
   have := putL_le r
   have e : catL (r :: k) = putL r ++ catL k := rfl
   rw [e, List.length_append, List.length_cons]; omega
theorem all_cat : ∀ (k : List Int), k.all isPt = true → ∀ m, allL (catL k ++ m) = (allL m).map (k ++ ·) := by
 intro k
 induction k with
 | nil => intro _ m; show allL m = _; cases allL m <;> rfl
 | cons r k ih =>
   intro h m
   simp only [List.all_cons, Bool.and_eq_true] at h
   have e : catL (r :: k) ++ m = putL r ++ (catL k ++ m) := List.append_assoc _ _ _
   rw [e, allL_put h.1, ih h.2]
   cases allL m <;> rfl
theorem text_all_n : ∀ (n : Nat) (l : List UInt8), l.length ≤ n → ∀ k, allL l = some k → k.all isPt = true ∧ catL k = l := by
 intro n
 induction n with
 | zero =>
   intro l h k hk
   obtain rfl := List.eq_nil_of_length_eq_zero (Nat.le_zero.1 h)
   have : k = [] := by have : allL [] = some [] := rfl
                       rw [this] at hk; injection hk with hk; exact hk.symm
   subst this
   exact ⟨rfl, rfl⟩
 | succ n ih =>
   intro l h k hk
   by_cases h0 : l.length = 0
   ·obtain rfl := List.eq_nil_of_length_eq_zero h0
    have : k = [] := by have : allL [] = some [] := rfl
                        rw [this] at hk; injection hk with hk; exact hk.symm
    subst this
    exact ⟨rfl, rfl⟩
   ·rcases take_is l with hz | ⟨r, m, hp, e, ht⟩
    ·rw [allL_no (by omega) (by rw [hz])] at hk; cases hk
    ·rw [e, allL_put hp] at hk
     have hc := (cnt_bd r).1
     have hl := putL_length hp
     have hlen : l.length = cnt r + m.length := by rw [e, List.length_append, hl]
     cases hm : allL m with
     | none => rw [hm] at hk; cases hk
     | some k' =>
       rw [hm] at hk
       injection hk with hk
       subst hk
       obtain ⟨i1, i2⟩ := ih m (by omega) k' hm
       refine ⟨by rw [List.all_cons, hp, i1]; rfl, ?_⟩
       show putL r ++ catL k' = l
       rw [i2, e]
theorem all_append {a : List UInt8} {k : List Int} (h : allL a = some k) (b : List UInt8) : allL (a ++ b) = (allL b).map (k ++ ·) := by
 obtain ⟨h1, h2⟩ := text_all_n a.length a (Nat.le_refl _) k h
 rw [← h2]
 exact all_cat k h1 b
end Go.Proofs.YtceipblcdcgljaaGreatDoor
