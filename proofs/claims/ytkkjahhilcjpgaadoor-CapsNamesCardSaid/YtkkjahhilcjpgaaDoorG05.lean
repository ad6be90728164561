/-
  Rows of numbers, and rows of them, of the call's own. (For all layers; no function of any dump.)
-/
import Derived.Test.YtkkjahhilcjpgaaDoorG02
import Derived.Test.YtkkjahhilcjpgaaDoorG04
import Derived.Deep.Cut
namespace Go.Proofs.YtkkjahhilcjpgaaDoor
open Go.RowKit
def RowI (w : World) (B : Nat) (e : TypeId) (A : Option Addr) (p : List Int) : Prop :=
 0 < p.length → ∃ b, A = some ⟨b, 0, none⟩ ∧ b < B ∧ (∃ cur fz, w.heap[b]? = some (.cells cur e fz)) ∧ ∀ k u, (is_ p)[k]? = some u → w.cell? ⟨b, k, none⟩ = some u
theorem RowI.keep {w w' : World} {B B' : Nat} {e : TypeId} {A : Option Addr} {p : List Int} (h : RowI w B e A p) (hB : B ≤ B') (hk : ∀ k, k < B → (∃ cur fz, w.heap[k]? = some (.cells cur e fz)) → w'.heap[k]? = w.heap[k]?) : RowI w' B' e A p := fun hp => by
 obtain ⟨b, rfl, hb, ht, hc⟩ := h hp
 have hg := hk b hb ht
 exact ⟨b, rfl, by omega, by rw [hg]; exact ht, fun k u hu => (World.cell?_of_block (w := w) (a := ⟨b, k, none⟩) hg).trans (hc k u hu)⟩
theorem RowI.rd {w : World} {B : Nat} {e : TypeId} {A : Option Addr} {p : List Int} (h : RowI w B e A p) : Rd w A (is_ p) := fun hp => by
 obtain ⟨b, rfl, hb, ⟨cur, fz, ht⟩, hc⟩ := h (by rwa [is_length] at hp)
 exact ⟨b, 0, rfl, (Array.getElem?_eq_some_iff.1 ht).1, fun k u hu => by rw [Nat.zero_add]; exact hc k u hu⟩
theorem RowI.own {w : World} {base n : Nat} {e : TypeId} {v : Value} {p : List Int} (h : Own w base e 1 v n (is_ p)) : n = p.length ∧ ∃ A c, v = .slice A p.length c ∧ RowI w w.heap.size e A p := by
 have hl : n = p.length := by have := h.1; rw [is_length] at this; omega
 subst hl
 refine ⟨rfl, ?_⟩
 rcases h.2 with ⟨rfl, h0⟩ | ⟨g, cap, rfl, hb, ⟨cur, fz, hh⟩, hnc, hcm, hx, hc⟩
 ·exact ⟨none, 0, by rw [h0], fun hp => absurd hp (by omega)⟩
 ·exact ⟨_, cap, rfl, fun _ => ⟨g, rfl, (Array.getElem?_eq_some_iff.1 hh).1, ⟨cur, fz, hh⟩, hx⟩⟩
def Rows (w : World) (B : Nat) (e : TypeId) (xs : List Value) (ps : List (List Int)) : Prop :=
 xs.length = ps.length ∧ ∀ k (hk : k < ps.length), ∃ A c, xs[k]? = some (.slice A (ps[k]).length c) ∧ RowI w B e A ps[k]
theorem Rows.keep {w w' : World} {B B' : Nat} {e : TypeId} {xs : List Value} {ps : List (List Int)} (h : Rows w B e xs ps) (hB : B ≤ B') (hk : ∀ k, k < B → (∃ cur fz, w.heap[k]? = some (.cells cur e fz)) → w'.heap[k]? = w.heap[k]?) : Rows w' B' e xs ps :=
 ⟨h.1, fun k hlt => by
   obtain ⟨A, c, h1, h2⟩ := h.2 k hlt
   exact ⟨A, c, h1, h2.keep hB hk⟩⟩
theorem Rows.rdp {w : World} {B base : Nat} {e e2 : TypeId} {xs : List Value} {ps : List (List Int)} (h : Rows w B e xs ps) {v : Value} {n : Nat} (ho : Own w base e2 1 v n xs) : ∃ A c, v = .slice A ps.length c ∧ RdP w A ps := by
 obtain ⟨A, c, rfl, hr⟩ := ho.form
 have hn : n = ps.length := by have := ho.1; rw [h.1] at this; omega
 subst hn
 refine ⟨A, c, rfl, fun hp => ?_⟩
 obtain ⟨b, o, rfl, hb, hc⟩ := hr (by rw [h.1]; exact hp)
 refine ⟨b, o, rfl, hb, fun k hk => ?_⟩
 obtain ⟨A', c', h1, h2⟩ := h.2 k hk
 exact ⟨A', c', hc k _ h1, h2.rd⟩
def RdPN (g : Nat) (w : World) (A : Option Addr) (ps : List (List Int)) : Prop :=
 0 < ps.length → ∃ b o, A = some ⟨b, o, none⟩ ∧ b ≠ g ∧ (∃ cur fz, w.heap[b]? = some (.cells cur 45 fz)) ∧ ∀ k (hk : k < ps.length), ∃ A' c', w.cell? ⟨b, o + k, none⟩ = some (.slice A' (ps[k]).length c') ∧
   (0 < (ps[k]).length → ∃ b' o', A' = some ⟨b', o', none⟩ ∧ b' ≠ g ∧ (∃ cur fz, w.heap[b']? = some (.cells cur 3 fz)) ∧ ∀ j u, (is_ ps[k])[j]? = some u → w.cell? ⟨b', o' + j, none⟩ = some u)
theorem RdPN.nil (g : Nat) (w : World) (A : Option Addr) : RdPN g w A [] := fun h => absurd h (by simp)
theorem RdPN.rdp {g : Nat} {w : World} {A : Option Addr} {ps : List (List Int)} (h : RdPN g w A ps) : RdP w A ps := fun hp => by
 obtain ⟨b, o, rfl, _, ⟨cur, fz, hh⟩, hc⟩ := h hp
 refine ⟨b, o, rfl, (Array.getElem?_eq_some_iff.1 hh).1, fun k hk => ?_⟩
 obtain ⟨A', c', h1, h2⟩ := hc k hk
 refine ⟨A', c', h1, fun hp2 => ?_⟩
 obtain ⟨b', o', rfl, _, ⟨cur', fz', hh'⟩, hc'⟩ := h2 (by rwa [is_length] at hp2)
 exact ⟨b', o', rfl, (Array.getElem?_eq_some_iff.1 hh').1, hc'⟩
theorem RdPN.keep {g : Nat} {w w' : World} {A : Option Addr} {ps : List (List Int)} (h : RdPN g w A ps) (hbl : ∀ k, k ≠ g → (∃ cur fz, w.heap[k]? = some (.cells cur 45 fz) ∨ w.heap[k]? = some (.cells cur 3 fz)) → w'.heap[k]? = w.heap[k]?) : RdPN g w' A ps := fun hp => by
 obtain ⟨b, o, rfl, hne, ⟨cur, fz, hh⟩, hc⟩ := h hp
 have e1 := hbl b hne ⟨cur, fz, .inl hh⟩
 refine ⟨b, o, rfl, hne, ⟨cur, fz, e1.trans hh⟩, fun k hk => ?_⟩
 obtain ⟨A', c', h1, h2⟩ := hc k hk
 refine ⟨A', c', (World.cell?_of_block (w := w) (a := ⟨b, o + k, none⟩) e1).trans h1, fun hp2 => ?_⟩
 obtain ⟨b', o', rfl, hne', ⟨cur', fz', hh'⟩, hc'⟩ := h2 hp2
 have e2 := hbl b' hne' ⟨cur', fz', .inr hh'⟩
 exact ⟨b', o', rfl, hne', ⟨cur', fz', e2.trans hh'⟩, fun j u hu => (World.cell?_of_block (w := w) (a := ⟨b', o' + j, none⟩) e2).trans (hc' j u hu)⟩
theorem RdPN.grown {g : Nat} {w w' : World} {A : Option Addr} {ps : List (List Int)} (h : RdPN g w A ps) (hg : w.grownBy w' (some g)) : RdPN g w' A ps :=
 h.keep fun k hn ⟨cur, fz, hh⟩ => hg.block k (by rcases hh with hh | hh <;> exact (Array.getElem?_eq_some_iff.1 hh).1) (fun e => hn (by injection e))
theorem tag_ne {w : World} {g b : Nat} {t e : TypeId} {cs cur : Array Value} {fz : Nat × Nat} (h : Blk w g t cs) (hb : w.heap[b]? = some (.cells cur e fz)) (hne : e ≠ t) : b ≠ g := by
 rintro rfl
 unfold Blk at h
 rw [h] at hb
 injection hb with hb
 injection hb with _ h2
 exact hne h2.symm
theorem RdPN.other {g b : Nat} {w w' : World} {t : TypeId} {cs : Array Value} {A : Option Addr} {ps : List (List Int)} (h : RdPN g w A ps) (hb : Blk w b t cs) (h1 : 45 ≠ t) (h2 : 3 ≠ t) (hg : w.grownBy w' (some b)) : RdPN g w' A ps :=
 h.keep fun k _ ⟨cur, fz, hh⟩ => hg.block k (by rcases hh with hh | hh <;> exact (Array.getElem?_eq_some_iff.1 hh).1) (fun e => by
  injection e with e
  subst e
  rcases hh with hh | hh
  ·exact tag_ne hb hh h1 rfl
  ·exact tag_ne hb hh h2 rfl)
end Go.Proofs.YtkkjahhilcjpgaaDoor
