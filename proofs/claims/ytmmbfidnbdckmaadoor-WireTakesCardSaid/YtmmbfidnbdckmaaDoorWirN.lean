/-
  Layer 3, walked: the document's nums: parameters in bytes of figures, colons and semicolons.
-/
import Derived.Test.YtmmbfidnbdckmaaDoorWirR
namespace Go.Proofs.YtmmbfidnbdckmaaDoor
open Go.RowKit

/-- A row of numbers that lies below B, in a block of its own kind. -/
def RowI (w : World) (B : Nat) (e : TypeId) (A : Option Addr) (p : List Int) : Prop :=
  0 < p.length → ∃ b, A = some ⟨b, 0, none⟩ ∧ b < B ∧ (∃ cur fz, w.heap[b]? = some (.cells cur e fz)) ∧ ∀ k u, (is_ p)[k]? = some u → w.cell? ⟨b, k, none⟩ = some u
theorem RowI.keep {w w' : World} {B B' : Nat} {e : TypeId} {A : Option Addr} {p : List Int} (h : RowI w B e A p) (hB : B ≤ B') (hk : ∀ k, k < B → (∃ cur fz, w.heap[k]? = some (.cells cur e fz)) → w'.heap[k]? = w.heap[k]?) : RowI w' B' e A p := fun hp => by
  obtain ⟨b, rfl, hb, ht, hc⟩ := h hp
  have hg := hk b hb ht
  exact ⟨b, rfl, by omega, by rw [hg]; exact ht, fun k u hu => (World.cell?_of_block (w := w) (a := ⟨b, k, none⟩) hg).trans (hc k u hu)⟩
theorem RowI.rd {w : World} {B : Nat} {e : TypeId} {A : Option Addr} {p : List Int} (h : RowI w B e A p) : Rd w A (is_ p) := fun hp => by
  obtain ⟨b, rfl, hb, ⟨cur, fz, ht⟩, hc⟩ := h (by rwa [is_length] at hp)
  exact ⟨b, 0, rfl, (Array.getElem?_eq_some_iff.1 ht).1, fun k u hu => by rw [Nat.zero_add]; exact hc k u hu⟩
theorem RowI.own {w : World} {base n : Nat} {e : TypeId} {v : Value} {p : List Int} (h : Own w base e 1 v n (is_ p)) : n = p.length ∧ ∃ A c, v = .slice A p.length c ∧ RowI w w.heap.size e A p := by
  have hl : n = p.length := by have := h.1; rw [is_length] at this; omega
  subst hl
  refine ⟨rfl, ?_⟩
  rcases h.2 with ⟨rfl, h0⟩ | ⟨g, cap, rfl, hb, ⟨cur, fz, hh⟩, hnc, hcm, hx, hc⟩
  · exact ⟨none, 0, by rw [h0], fun hp => absurd hp (by omega)⟩
  · exact ⟨_, cap, rfl, fun _ => ⟨g, rfl, (Array.getElem?_eq_some_iff.1 hh).1, ⟨cur, fz, hh⟩, hx⟩⟩
/-- Rows as values. -/
def Rows (w : World) (B : Nat) (e : TypeId) (xs : List Value) (ps : List (List Int)) : Prop :=
  xs.length = ps.length ∧ ∀ k (hk : k < ps.length), ∃ A c, xs[k]? = some (.slice A (ps[k]).length c) ∧ RowI w B e A ps[k]
theorem Rows.keep {w w' : World} {B B' : Nat} {e : TypeId} {xs : List Value} {ps : List (List Int)} (h : Rows w B e xs ps) (hB : B ≤ B') (hk : ∀ k, k < B → (∃ cur fz, w.heap[k]? = some (.cells cur e fz)) → w'.heap[k]? = w.heap[k]?) : Rows w' B' e xs ps :=
  ⟨h.1, fun k hlt => by
    obtain ⟨A, c, h1, h2⟩ := h.2 k hlt
    exact ⟨A, c, h1, h2.keep hB hk⟩⟩
theorem Rows.snoc {w : World} {B : Nat} {e : TypeId} {xs : List Value} {ps : List (List Int)} (h : Rows w B e xs ps) {A : Option Addr} {c : Nat} {p : List Int} (hp : RowI w B e A p) : Rows w B e (xs ++ [.slice A p.length c]) (ps ++ [p]) := by
  refine ⟨by simp [h.1], fun k hlt => ?_⟩
  by_cases hk : k < ps.length
  · obtain ⟨A', c', h1, h2⟩ := h.2 k hk
    refine ⟨A', c', ?_, ?_⟩
    · rw [List.getElem?_append_left (by rw [h.1]; exact hk), List.getElem_append_left hk]; exact h1
    · rw [List.getElem_append_left hk]; exact h2
  · have e : k = ps.length := by simp at hlt; omega
    subst e
    refine ⟨A, c, ?_, ?_⟩
    · rw [List.getElem?_append_right (by rw [h.1]; exact Nat.le_refl _)]; simp [h.1]
    · simpa using hp
theorem Rows.rdp {w : World} {B base : Nat} {e e2 : TypeId} {xs : List Value} {ps : List (List Int)} (h : Rows w B e xs ps) {v : Value} {n : Nat} (ho : Own w base e2 1 v n xs) : ∃ A c, v = .slice A ps.length c ∧ RdP w A ps := by
  obtain ⟨A, c, rfl, hr⟩ := ho.form
  have hn : n = ps.length := by have := ho.1; rw [h.1] at this; omega
  subst hn
  refine ⟨A, c, rfl, fun hp => ?_⟩
  obtain ⟨b, o, rfl, hb, hc⟩ := hr (by rw [h.1]; exact hp)
  refine ⟨b, o, rfl, hb, fun k hk => ?_⟩
  obtain ⟨A', c', h1, h2⟩ := h.2 k hk
  exact ⟨A', c', hc k _ h1, h2.rd⟩

/-- Behind an append to the row of numbers; behind an append to the row of rows. -/
theorem keep_one {w w' : World} {base B n : Nat} {e : TypeId} {v : Value} {xs : List Value} (ho : Own w base e 1 v n xs) (hg : w.grownBy w' v.ownBlock) (hB : B ≤ base) (hs : B ≤ w.heap.size) : ∀ k, k < B → (∃ cur fz, w.heap[k]? = some (.cells cur e fz)) → w'.heap[k]? = w.heap[k]? :=
  fun k hk _ => hg.block k (by omega) (fun he => by have := (ho.lt k he.symm).1; omega)
theorem keep_out {w w' : World} {base B n : Nat} {e e2 : TypeId} {v : Value} {xs : List Value} (ho : Own w base e2 1 v n xs) (hne : e2 ≠ e) (hg : w.grownBy w' v.ownBlock) : ∀ k, k < B → (∃ cur fz, w.heap[k]? = some (.cells cur e fz)) → w'.heap[k]? = w.heap[k]? :=
  fun k _ ⟨_, _, hh⟩ => hg.block k (Array.getElem?_eq_some_iff.1 hh).1 (ho.no_cells hh hne).symm
theorem own_apart {w : World} {b1 b2 n1 n2 : Nat} {e1 e2 : TypeId} {v1 v2 : Value} {x1 x2 : List Value} (h1 : Own w b1 e1 1 v1 n1 x1) (h2 : Own w b2 e2 1 v2 n2 x2) (hne : e1 ≠ e2) : v1.ownBlock = none ∨ v1.ownBlock ≠ v2.ownBlock := by
  rcases h2.2 with ⟨rfl, _⟩ | ⟨g, cap, rfl, _, ⟨cur, fz, hh⟩, _⟩
  · by_cases h : v1.ownBlock = none
    · exact .inl h
    · exact .inr h
  · exact .inr (h1.no_cells hh hne)
theorem own_zero (w : World) (base : Nat) (e : TypeId) (sz g : Nat) (hb : base ≤ g) (h : ∃ fz, w.heap[g]? = some (.cells #[] e fz)) : Own w base e sz (.slice (some ⟨g, 0, none⟩) 0 0) 0 [] := by
  obtain ⟨fz, hh⟩ := h
  exact ⟨by simp, .inr ⟨g, 0, rfl, hb, ⟨_, fz, hh⟩, Nat.le_refl _, by simp [maxLen], fun j u hu => by simp at hu, fun j hj => by omega⟩⟩

theorem go_fig {l : List UInt8} {k : Nat} (h : k < l.length) (hd : isD l[k] = true) (n : Int) (one : List Int) : numsGo n one (l.drop k) = numsGo (rd 1114112 n l[k]) one (l.drop (k + 1)) := by
  rw [List.drop_eq_getElem_cons h]; show (if isD l[k] = true then _ else _) = _; rw [if_pos hd]
theorem go_semi {l : List UInt8} {k : Nat} (h : k < l.length) (hd : isD l[k] = false) (h9 : l[k] = 59) (n : Int) (one : List Int) : numsGo n one (l.drop k) = (one ++ [n]) :: numsGo (-1) [] (l.drop (k + 1)) := by
  rw [List.drop_eq_getElem_cons h]; show (if isD l[k] = true then _ else _) = _; rw [if_neg (by rw [hd]; simp), if_pos h9]
theorem go_colon {l : List UInt8} {k : Nat} (h : k < l.length) (hd : isD l[k] = false) (h9 : l[k] ≠ 59) (n : Int) (one : List Int) : numsGo n one (l.drop k) = numsGo (-1) (one ++ [n]) (l.drop (k + 1)) := by
  rw [List.drop_eq_getElem_cons h]; show (if isD l[k] = true then _ else _) = _; rw [if_neg (by rw [hd]; simp), if_neg h9]
theorem go_end {l : List UInt8} {k : Nat} (h : l.length ≤ k) (n : Int) (one : List Int) : numsGo n one (l.drop k) = [one ++ [n]] := by
  rw [List.drop_of_length_le h]; rfl
theorem is_snoc (l : List Int) (n : Int) : is_ (l ++ [n]) = is_ l ++ [.int .i64 n] := by simp [is_]
end Go.Proofs.YtmmbfidnbdckmaaDoor
