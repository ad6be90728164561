/-
  Rows of numbers, and rows of them, of the call's own. (For all layers; no function of any dump.) Cut out of RegH: what names no function of any dump. Layer 3, walked: the program's small functions: formOf, char, within, isNone. Layer 3, walked: the program's reader: skip, run, one, part.
  Cut out of RdA. Layer 3, walked: the document's nums: parameters in bytes of figures, colons and semicolons.
-/
import Derived.Test.YtjlhhelikiegdaaGreatDoorG02
import Derived.Test.YtjlhhelikiegdaaGreatDoorG03
import Derived.Test.YtjlhhelikiegdaaGreatDoorG06
import Derived.Test.YtjlhhelikiegdaaGreatDoorG11
import Derived.Test.YtjlhhelikiegdaaGreatDoorG13
import Derived.Test.YtjlhhelikiegdaaGreatDoorG14
import Derived.Deep.Cut
import Derived.Deep.RegionHeld
namespace Go.Proofs.YtjlhhelikiegdaaGreatDoor
open Go.RowKit
def RowI (w : World) (B : Nat) (e : TypeId) (A : Option Addr) (p : List Int) : Prop :=
 0 < p.length → ∃ b, A = some ⟨b, 0, none⟩ ∧ b < B ∧ (∃ cur fz, w.heap[b]? = some (.cells cur e fz)) ∧ ∀ k u, (is_ p)[k]? = some u → w.cell? ⟨b, k, none⟩ = some u
theorem RowI.keep {w w' : World} {B B' : Nat} {e : TypeId} {A : Option Addr} {p : List Int} (h : RowI w B e A p) (hB : B ≤ B') (hk : ∀ k, k < B → (∃ cur fz, w.heap[k]? = some (.cells cur e fz)) → w'.heap[k]? = w.heap[k]?) : RowI w' B' e A p := fun hp => by
 obtain ⟨b, rfl, hb, ht, hc⟩ := h hp
 have hg := hk b hb ht
 exact ⟨b, rfl, by omega, by rw [hg]; exact ht, fun k u hu => (World.cell?_of_block (w := w) (a := ⟨b, k, none⟩) hg).trans (hc k u hu)⟩
theorem RowI.rd {w : World} {B : Nat} {e : TypeId} {A : Option Addr} {p : List Int} (h : RowI w B e A p) : Rd w A (is_ p) := fun hp => by
 obtain ⟨b, rfl, hb, ⟨cur, fz, ht⟩, hc⟩ := h (by rwa [is_length] at hp)
 exact ⟨b, 0, rfl, (Array.getElem?_eq_some_iff.1 ht).1, fun k u hu => by rw [Nat.zero_add]; exact hc k u hu⟩
theorem RowI.own {w : World} {base n : Nat} {e : TypeId} {v : Value} {p : List Int} (h : Own w base e 1 v n (is_ p)) : n = p.length ∧ ∃ A c, v = .slice A p.length c ∧ RowI w w.heap.size e A p := by
 have hl : n = p.length := by have := h.1; rw [is_length] at this; omega
 subst hl
 refine ⟨rfl, ?_⟩
 rcases h.2 with ⟨rfl, h0⟩ | ⟨g, cap, rfl, hb, ⟨cur, fz, hh⟩, hnc, hcm, hx, hc⟩
 ·exact ⟨none, 0, by rw [h0], fun hp => absurd hp (by omega)⟩
 ·exact ⟨_, cap, rfl, fun _ => ⟨g, rfl, (Array.getElem?_eq_some_iff.1 hh).1, ⟨cur, fz, hh⟩, hx⟩⟩
def Rows (w : World) (B : Nat) (e : TypeId) (xs : List Value) (ps : List (List Int)) : Prop :=
 xs.length = ps.length ∧ ∀ k (hk : k < ps.length), ∃ A c, xs[k]? = some (.slice A (ps[k]).length c) ∧ RowI w B e A ps[k]
theorem Rows.keep {w w' : World} {B B' : Nat} {e : TypeId} {xs : List Value} {ps : List (List Int)} (h : Rows w B e xs ps) (hB : B ≤ B') (hk : ∀ k, k < B → (∃ cur fz, w.heap[k]? = some (.cells cur e fz)) → w'.heap[k]? = w.heap[k]?) : Rows w' B' e xs ps :=
 ⟨h.1, fun k hlt => by
   obtain ⟨A, c, h1, h2⟩ := h.2 k hlt
   exact ⟨A, c, h1, h2.keep hB hk⟩⟩
theorem Rows.snoc {w : World} {B : Nat} {e : TypeId} {xs : List Value} {ps : List (List Int)} (h : Rows w B e xs ps) {A : Option Addr} {c : Nat} {p : List Int} (hp : RowI w B e A p) : Rows w B e (xs ++ [.slice A p.length c]) (ps ++ [p]) := by
 refine ⟨by simp [h.1], fun k hlt => ?_⟩
 by_cases hk : k < ps.length
 ·obtain ⟨A', c', h1, h2⟩ := h.2 k hk
  refine ⟨A', c', ?_, ?_⟩
  ·rw [List.getElem?_append_left (by rw [h.1]; exact hk), List.getElem_append_left hk]; exact h1
  ·rw [List.getElem_append_left hk]; exact h2
 ·have e : k = ps.length := by simp at hlt; omega
  subst e
  refine ⟨A, c, ?_, ?_⟩
  ·rw [List.getElem?_append_right (by rw [h.1]; exact Nat.le_refl _)]; simp [h.1]
  ·simpa using hp
theorem Rows.rdp {w : World} {B base : Nat} {e e2 : TypeId} {xs : List Value} {ps : List (List Int)} (h : Rows w B e xs ps) {v : Value} {n : Nat} (ho : Own w base e2 1 v n xs) : ∃ A c, v = .slice A ps.length c ∧ RdP w A ps := by
 obtain ⟨A, c, rfl, hr⟩ := ho.form
 have hn : n = ps.length := by have := ho.1; rw [h.1] at this; omega
 subst hn
 refine ⟨A, c, rfl, fun hp => ?_⟩
 obtain ⟨b, o, rfl, hb, hc⟩ := hr (by rw [h.1]; exact hp)
 refine ⟨b, o, rfl, hb, fun k hk => ?_⟩
 obtain ⟨A', c', h1, h2⟩ := h.2 k hk
 exact ⟨A', c', hc k _ h1, h2.rd⟩
theorem keep_one {w w' : World} {base B n : Nat} {e : TypeId} {v : Value} {xs : List Value} (ho : Own w base e 1 v n xs) (hg : w.grownBy w' v.ownBlock) (hB : B ≤ base) (hs : B ≤ w.heap.size) : ∀ k, k < B → (∃ cur fz, w.heap[k]? = some (.cells cur e fz)) → w'.heap[k]? = w.heap[k]? :=
 fun k hk _ => hg.block k (by omega) (fun he => by have := (ho.lt k he.symm).1; omega)
theorem keep_out {w w' : World} {base B n : Nat} {e e2 : TypeId} {v : Value} {xs : List Value} (ho : Own w base e2 1 v n xs) (hne : e2 ≠ e) (hg : w.grownBy w' v.ownBlock) : ∀ k, k < B → (∃ cur fz, w.heap[k]? = some (.cells cur e fz)) → w'.heap[k]? = w.heap[k]? :=
 fun k _ ⟨_, _, hh⟩ => hg.block k (Array.getElem?_eq_some_iff.1 hh).1 (ho.no_cells hh hne).symm
theorem own_apart {w : World} {b1 b2 n1 n2 : Nat} {e1 e2 : TypeId} {v1 v2 : Value} {x1 x2 : List Value} (h1 : Own w b1 e1 1 v1 n1 x1) (h2 : Own w b2 e2 1 v2 n2 x2) (hne : e1 ≠ e2) : v1.ownBlock = none ∨ v1.ownBlock ≠ v2.ownBlock := by
 rcases h2.2 with ⟨rfl, _⟩ | ⟨g, cap, rfl, _, ⟨cur, fz, hh⟩, _⟩
 ·by_cases h : v1.ownBlock = none
  ·exact .inl h
  ·exact .inr h
 ·exact .inr (h1.no_cells hh hne)
theorem own_zero (w : World) (base : Nat) (e : TypeId) (sz g : Nat) (hb : base ≤ g) (h : ∃ fz, w.heap[g]? = some (.cells #[] e fz)) : Own w base e sz (.slice (some ⟨g, 0, none⟩) 0 0) 0 [] := by
 obtain ⟨fz, hh⟩ := h
 exact ⟨by simp, .inr ⟨g, 0, rfl, hb, ⟨_, fz, hh⟩, Nat.le_refl _, by simp [maxLen], fun j u hu => by simp at hu, fun j hj => by omega⟩⟩
theorem is_snoc (l : List Int) (n : Int) : is_ (l ++ [n]) = is_ l ++ [.int .i64 n] := by simp [is_]
theorem sl_one (A : Option Addr) (n c : Nat) : ∀ u ∈ [Value.slice A n c], u.oneCell' = true := fun u hu => by
 rw [List.mem_singleton] at hu; subst hu; rfl
theorem own_row {w : World} {base n : Nat} {e : TypeId} {v : Value} {p : List Int} (h : Own w base e 1 v n (is_ p)) : n = p.length ∧ ∃ A c, v = .slice A n c ∧ RowI w w.heap.size e A p := by
 obtain ⟨hn, A, c, hv, hr⟩ := RowI.own h
 exact ⟨hn, A, c, by rw [hn]; exact hv, hr⟩
theorem Rows.snoc2 {w : World} {B n : Nat} {e : TypeId} {xs : List Value} {ps : List (List Int)} (h : Rows w B e xs ps) {A : Option Addr} {c : Nat} {p : List Int} (hn : n = p.length) (hp : RowI w B e A p) : Rows w B e (xs ++ [.slice A n c]) (ps ++ [p]) := by
 subst hn
 exact h.snoc hp
theorem own_lit (w : World) (base : Nat) (e : TypeId) (g : Nat) (v : Value) (hb : base ≤ g) (h : w.heap[g]? = some (.cells #[v] e (0, 0))) : Own w base e 1 (.slice (some ⟨g, 0, none⟩) 1 1) 1 [v] := by
 refine ⟨rfl, .inr ⟨g, 1, rfl, hb, ⟨_, _, h⟩, Nat.le_refl _, by simp [maxLen], fun j u hu => ?_, fun j hj => ?_⟩⟩
 ·rw [cell_of_row w g j _ e _ h]
  simpa using hu
 ·have : j = 0 := by omega
  subst this
  rw [cell_of_row w g 0 _ e _ h]
  exact ⟨rfl, frozen_of_row w g 0 _ e h⟩
def RdPN (g : Nat) (w : World) (A : Option Addr) (ps : List (List Int)) : Prop :=
 0 < ps.length → ∃ b o, A = some ⟨b, o, none⟩ ∧ b ≠ g ∧ (∃ cur fz, w.heap[b]? = some (.cells cur 38 fz)) ∧ ∀ k (hk : k < ps.length), ∃ A' c', w.cell? ⟨b, o + k, none⟩ = some (.slice A' (ps[k]).length c') ∧
   (0 < (ps[k]).length → ∃ b' o', A' = some ⟨b', o', none⟩ ∧ b' ≠ g ∧ (∃ cur fz, w.heap[b']? = some (.cells cur 3 fz)) ∧ ∀ j u, (is_ ps[k])[j]? = some u → w.cell? ⟨b', o' + j, none⟩ = some u)
theorem RdPN.nil (g : Nat) (w : World) (A : Option Addr) : RdPN g w A [] := fun h => absurd h (by simp)
theorem RdPN.rdp {g : Nat} {w : World} {A : Option Addr} {ps : List (List Int)} (h : RdPN g w A ps) : RdP w A ps := fun hp => by
 obtain ⟨b, o, rfl, _, ⟨cur, fz, hh⟩, hc⟩ := h hp
 refine ⟨b, o, rfl, (Array.getElem?_eq_some_iff.1 hh).1, fun k hk => ?_⟩
 obtain ⟨A', c', h1, h2⟩ := hc k hk
 refine ⟨A', c', h1, fun hp2 => ?_⟩
 obtain ⟨b', o', rfl, _, ⟨cur', fz', hh'⟩, hc'⟩ := h2 (by rwa [is_length] at hp2)
 exact ⟨b', o', rfl, (Array.getElem?_eq_some_iff.1 hh').1, hc'⟩
theorem RdPN.keep {g : Nat} {w w' : World} {A : Option Addr} {ps : List (List Int)} (h : RdPN g w A ps) (hbl : ∀ k, k ≠ g → (∃ cur fz, w.heap[k]? = some (.cells cur 38 fz) ∨ w.heap[k]? = some (.cells cur 3 fz)) → w'.heap[k]? = w.heap[k]?) : RdPN g w' A ps := fun hp => by
 obtain ⟨b, o, rfl, hne, ⟨cur, fz, hh⟩, hc⟩ := h hp
 have e1 := hbl b hne ⟨cur, fz, .inl hh⟩
 refine ⟨b, o, rfl, hne, ⟨cur, fz, e1.trans hh⟩, fun k hk => ?_⟩
 obtain ⟨A', c', h1, h2⟩ := hc k hk
 refine ⟨A', c', (World.cell?_of_block (w := w) (a := ⟨b, o + k, none⟩) e1).trans h1, fun hp2 => ?_⟩
 obtain ⟨b', o', rfl, hne', ⟨cur', fz', hh'⟩, hc'⟩ := h2 hp2
 have e2 := hbl b' hne' ⟨cur', fz', .inr hh'⟩
 exact ⟨b', o', rfl, hne', ⟨cur', fz', e2.trans hh'⟩, fun j u hu => (World.cell?_of_block (w := w) (a := ⟨b', o' + j, none⟩) e2).trans (hc' j u hu)⟩
theorem RdPN.grown {g : Nat} {w w' : World} {A : Option Addr} {ps : List (List Int)} (h : RdPN g w A ps) (hg : w.grownBy w' (some g)) : RdPN g w' A ps :=
 h.keep fun k hn ⟨cur, fz, hh⟩ => hg.block k (by rcases hh with hh | hh <;> exact (Array.getElem?_eq_some_iff.1 hh).1) (fun e => hn (by injection e))
theorem tag_ne {w : World} {g b : Nat} {t e : TypeId} {cs cur : Array Value} {fz : Nat × Nat} (h : Blk w g t cs) (hb : w.heap[b]? = some (.cells cur e fz)) (hne : e ≠ t) : b ≠ g := by
 rintro rfl
 unfold Blk at h
 rw [h] at hb
 injection hb with hb
 injection hb with _ h2
 exact hne h2.symm
theorem RdPN.other {g b : Nat} {w w' : World} {t : TypeId} {cs : Array Value} {A : Option Addr} {ps : List (List Int)} (h : RdPN g w A ps) (hb : Blk w b t cs) (h1 : 38 ≠ t) (h2 : 3 ≠ t) (hg : w.grownBy w' (some b)) : RdPN g w' A ps :=
 h.keep fun k _ ⟨cur, fz, hh⟩ => hg.block k (by rcases hh with hh | hh <;> exact (Array.getElem?_eq_some_iff.1 hh).1) (fun e => by
  injection e with e
  subst e
  rcases hh with hh | hh
  ·exact tag_ne hb hh h1 rfl
  ·exact tag_ne hb hh h2 rfl)
theorem Rows.rdpn {w : World} {B base g : Nat} {t : TypeId} {cs : Array Value} {xs : List Value} {ps : List (List Int)} (h : Rows w B 3 xs ps) {v : Value} {n : Nat} (ho : Own w base 38 1 v n xs) (hg : Blk w g t cs) (h1 : 3 ≠ t) (h2 : 38 ≠ t) : ∃ A c, v = .slice A n c ∧ RdPN g w A ps := by
 have hn : n = ps.length := by have := ho.1; rw [h.1] at this; omega
 subst hn
 rcases ho.2 with ⟨rfl, h0⟩ | ⟨b, cap, rfl, hb, ⟨cur, fz, hh⟩, hnc, hcm, hx, hc⟩
 ·exact ⟨Option.none, 0, by rw [h0], fun hp => absurd hp (by omega)⟩
 ·refine ⟨_, cap, rfl, fun hp => ⟨b, 0, rfl, tag_ne hg hh h2, ⟨cur, fz, hh⟩, fun k hk => ?_⟩⟩
  obtain ⟨A', c', h3, h4⟩ := h.2 k hk
  refine ⟨A', c', by rw [Nat.zero_add]; exact hx k _ h3, fun hp2 => ?_⟩
  obtain ⟨b', rfl, hb', ⟨cur', fz', hh'⟩, hc'⟩ := h4 hp2
  exact ⟨b', 0, rfl, tag_ne hg hh' h1, ⟨cur', fz', hh'⟩, fun j u hu => by rw [Nat.zero_add]; exact hc' j u hu⟩
theorem below_set6 {B : Nat} {a w : World} (h : Below B a w) {b : Nat} (hb : B ≤ b) (x0 x1 x2 x3 x4 x5 : Value) : Below B a ((((((w.setCell ⟨b, 0, none⟩ x0).setCell ⟨b, 1, none⟩ x1).setCell ⟨b, 2, none⟩ x2).setCell ⟨b, 3, none⟩ x3).setCell ⟨b, 4, none⟩ x4).setCell ⟨b, 5, none⟩ x5) :=
 (((((h.setCell (p := ⟨b, 0, none⟩) hb x0).setCell (p := ⟨b, 1, none⟩) hb x1).setCell (p := ⟨b, 2, none⟩) hb x2).setCell (p := ⟨b, 3, none⟩) hb x3).setCell (p := ⟨b, 4, none⟩) hb x4).setCell (p := ⟨b, 5, none⟩) hb x5
theorem grown_set6 (w : World) (b : Nat) (x0 x1 x2 x3 x4 x5 : Value) : w.grownBy ((((((w.setCell ⟨b, 0, none⟩ x0).setCell ⟨b, 1, none⟩ x1).setCell ⟨b, 2, none⟩ x2).setCell ⟨b, 3, none⟩ x3).setCell ⟨b, 4, none⟩ x4).setCell ⟨b, 5, none⟩ x5) (some b) :=
 grown_trans (grown_trans (grown_trans (grown_trans (grown_trans (grown_setCell b 0 x0 w) (grown_setCell b 1 x1 _)) (grown_setCell b 2 x2 _)) (grown_setCell b 3 x3 _)) (grown_setCell b 4 x4 _)) (grown_setCell b 5 x5 _)
section
section
variable {P : Program} {ops : Array Oper} {md : Region.Mode} {w1 : World} {K : List Fact} {ix iz : Nat} {R0 R1 : (Tmp → Value) → World → World → Prop} {aF : (Tmp → Value) → Act} {i : Nat} {o : Oper}
theorem goesK_know (v : Value) (hst : ∀ f ∈ K, f.ok) (hah : Ahead md ops ix i) (hio : ops[i]? = some o) (hx : i ≠ ix) (hz : i ≠ iz) (hni : (K.all fun f => f.i != i) = true) (hw : ∀ g, Region.wanted o (yielded ops (aF g).tmps) = true) {d0 : Tmp} (h0 : o.dst = some d0) (hd : ∀ g, (aF g).tmps[d0]? = some v)
 (h : ∀ g w, Below w1.heap.size w1 w → (∀ (q : Nat) (f : Fact), K[q]? = some f → edgeB md ops i f.i = true → f.F (g f.d) w) → (execOp (aF g).eval o).run P w = .ok (.value v) w) :
 GoesM P md ops aF (SK md ops w1 K ix iz R0 R1) i o := fun l g w hsz hf hrd hS => by
 rw [if_pos (hw g)]
 have hfx := hah l hsz hS.shut hf
 obtain ⟨h1, h2⟩ := hS.pre hfx
 refine .inl ⟨v, w, .inl (h g w h1 fun q f' hf' he => h2 f' (List.mem_of_getElem? hf') ?_), g, .inl rfl, (fun d' h' => by rw [h0] at h'; cases h'; exact hd g), hS.quiet hst (hS.shut.step hio hrd) (Below.refl _ _) hx hz hni hfx⟩
 unfold edgeB at he
 rw [hio] at he
 obtain ⟨e, he, hb⟩ := Array.any_eq_true'.1 he
 simp only [Bool.and_eq_true, beq_iff_eq] at hb
 rw [← hb.2]
 exact hrd e he hb.1
end
end
def fmV (f : Fm) : Value := .agg #[.string ⟨f.letter.toArray⟩, .bool f.body, .bool f.inter, .int .u8 (f.first.toNat : Int), .string ⟨f.en.toArray⟩]
def kindB (k : Int) : Bool := decide (k = 1 ∨ k = 2 ∨ k = 3 ∨ k = 4 ∨ k = 5)
theorem fm_0 {k : Int} (h1 : k ≠ 1) (h2 : k ≠ 2) (h3 : k ≠ 3) (h4 : k ≠ 4) (h5 : k ≠ 5) : formF k = ⟨[], false, false, 0, []⟩ := by
 unfold formF; rw [if_neg h1, if_neg h2, if_neg h3, if_neg h4, if_neg h5]
set_option maxRecDepth 100000 in
set_option maxHeartbeats 2000000 in
theorem formOf_any (k : Int) (w : World) :
 Calls Tryz.prog 47 #[.int .i64 k] w fun e w' => e = .returned (.tuple #[fmV (formF k), .bool (kindB k)]) ∧ Below w.heap.size w w' := by
 by_cases h1 : k = 1
 ·subst h1
  go_enter Tryz.func47, Tryz.ntmps47
  go_wp2
  exact bodyPost_ret (v := .tuple #[fmV (formF 1), .bool (kindB 1)]) (by simp [results, Tryz.results47, go_sem, fmV, formF, kindB]) rfl ⟨rfl, (Below.refl _ _).alloc (Nat.le_refl _) _⟩
 ·by_cases h2 : k = 2
  ·subst h2
   go_enter Tryz.func47, Tryz.ntmps47
   go_wp2
   exact bodyPost_ret (v := .tuple #[fmV (formF 2), .bool (kindB 2)]) (by simp [results, Tryz.results47, go_sem, fmV, formF, kindB]) rfl ⟨rfl, (Below.refl _ _).alloc (Nat.le_refl _) _⟩
  ·by_cases h3 : k = 3
   ·subst h3
    go_enter Tryz.func47, Tryz.ntmps47
    go_wp2
    exact bodyPost_ret (v := .tuple #[fmV (formF 3), .bool (kindB 3)]) (by simp [results, Tryz.results47, go_sem, fmV, formF, kindB]) rfl ⟨rfl, (Below.refl _ _).alloc (Nat.le_refl _) _⟩
   ·by_cases h4 : k = 4
    ·subst h4
     go_enter Tryz.func47, Tryz.ntmps47
     go_wp2
     exact bodyPost_ret (v := .tuple #[fmV (formF 4), .bool (kindB 4)]) (by simp [results, Tryz.results47, go_sem, fmV, formF, kindB]) rfl ⟨rfl, (Below.refl _ _).alloc (Nat.le_refl _) _⟩
    ·by_cases h5 : k = 5
     ·subst h5
      go_enter Tryz.func47, Tryz.ntmps47
      go_wp2
      exact bodyPost_ret (v := .tuple #[fmV (formF 5), .bool (kindB 5)]) (by simp [results, Tryz.results47, go_sem, fmV, formF, kindB]) rfl ⟨rfl, (Below.refl _ _).alloc (Nat.le_refl _) _⟩
     ·have E := Lib.hid (fm_0 h1 h2 h3 h4 h5)
      have EB := Lib.hid (show kindB k = false by unfold kindB; exact decide_eq_false (by omega))
      have t1 : (k == 1) = false := beq_false_of_ne h1
      have t2 : (k == 2) = false := beq_false_of_ne h2
      have t3 : (k == 3) = false := beq_false_of_ne h3
      have t4 : (k == 4) = false := beq_false_of_ne h4
      have t5 : (k == 5) = false := beq_false_of_ne h5
      clear h1 h2 h3 h4 h5
      go_enter Tryz.func47, Tryz.ntmps47
      go_wp2
      rw [E.out, EB.out]
      exact bodyPost_ret (v := .tuple #[fmV ⟨[], false, false, 0, []⟩, .bool false]) (by simp [results, Tryz.results47, go_sem, fmV]) rfl ⟨rfl, (Below.refl _ _).alloc (Nat.le_refl _) _⟩
theorem char_str (c : UInt8) (h : c.toNat < 128) : Utf8.encode (c.toNat : Int) = ⟨[c].toArray⟩ := by
 have v : Utf8.valid (c.toNat : Int) = true := by simp [Utf8.valid]; omega
 simp [Utf8.encode, v, h]
set_option maxRecDepth 100000 in
set_option maxHeartbeats 2000000 in
theorem pwithin_str (s : ByteArray) (a b : Nat) (q : Bool) (w : World) (hl : s.size ≤ 4294967296) (hq : s.data.toList.all (btw a b) = q) :
 Calls Tryz.prog 67 #[.string s, .int .u8 a, .int .u8 b] w fun e w' => e = .returned (.bool q) ∧ w = w' := by
 have HQ := Lib.hid hq
 clear hq
 go_enter Tryz.func67, Tryz.ntmps67
 go_wp2
 go_loop [10] (fun i => ∃ k : Nat, k ≤ s.size ∧ i = .int .i64 k ∧ (s.data.toList.take k).all (btw a b) = true) (fun i => s.size - (intOf i).toNat)
 case atStart => exact ⟨0, Nat.zero_le _, rfl, rfl⟩
 case round =>
  obtain ⟨k, hk, rfl, hall⟩ := hrel
  have HA := Lib.hid hall
  clear hall
  by_cases hlt : k < s.size
  ·have hlt2 : k < s.data.toList.length := by simpa using hlt
   have hby := byte_at s k hlt
   have HB := Lib.hid hby
   have hd := (s[k]'hlt).toNat_lt
   have k0 : (0 : Int) ≤ (k : Int) := by omega
   have k1 : (k : Int) < (s.size : Int) := by omega
   clear hby
   by_cases h1 : (s[k]'hlt).toNat < a
   ·have E := Lib.hid (HQ.out.symm.trans (all_no (p := btw a b) hlt2 ((btw_no a b _).2 (by rw [← HB.out]; omega))))
    go_wp2
    go_ret
    exact ⟨ret_b E.out.symm, rfl⟩
   ·by_cases h2 : b < (s[k]'hlt).toNat
    ·have E := Lib.hid (HQ.out.symm.trans (all_no (p := btw a b) hlt2 ((btw_no a b _).2 (by rw [← HB.out]; omega))))
     go_wp2
     go_ret
     exact ⟨ret_b E.out.symm, rfl⟩
    ·have E := Lib.hid (show (s.data.toList.take (k + 1)).all (btw a b) = true by rw [List.take_succ_eq_append_getElem hlt2, List.all_append, HA.out, ← HB.out]; simp [(btw_iff a b _).2 ⟨Nat.le_of_not_lt h1, Nat.le_of_not_lt h2⟩])
     go_wp2
     go_round
     case rel => exact ⟨k + 1, by omega, by go_num, E.out⟩
     case measure => simp [intOf]; omega
  ·have E := Lib.hid (show q = true by have := HA.out; rw [List.take_of_length_le (by simp; omega)] at this; exact HQ.out.symm.trans this)
   go_wp2
   go_ret
   exact ⟨ret_b E.out.symm, rfl⟩
theorem pwithin_any (l : List UInt8) (a b : Nat) (q : Bool) (w : World) (hl : l.length ≤ 4294967296) (hq : l.all (btw a b) = q) :
 Calls Tryz.prog 67 #[.string ⟨l.toArray⟩, .int .u8 a, .int .u8 b] w fun e w' => e = .returned (.bool q) ∧ w = w' := by
 exact pwithin_str ⟨l.toArray⟩ a b q w hl hq
theorem conv_all (P : Program) (src dst e : TypeId) (t : List UInt8) (hs : P.underlying src = some .string) (hd : P.underlying dst = some (.slice e)) (he : P.underlying e = some (.int .u8)) (hm : t.length ≤ maxLen) :
 ∃ (C : World → Nat) (X : World → World), ∀ W, (convert src dst (.string ⟨t.toArray⟩)).run P W = .ok (.slice (some ⟨W.heap.size, 0, none⟩) t.length (C W)) (X W) ∧ t.length ≤ C W ∧
   Rd (X W) (some ⟨W.heap.size, 0, none⟩) (bs t) ∧ Below W.heap.size W (X W) := by
 refine ⟨fun W => grownCap W t.length 0 e, fun W => W.drew.alloc (.cells (bytesRow ⟨t.toArray⟩ (grownCap W t.length 0 e)) e ((bytesRow ⟨t.toArray⟩ (grownCap W t.length 0 e)).size, (bytesRow ⟨t.toArray⟩ (grownCap W t.length 0 e)).size + 1)), fun W => ⟨?_, grownCap_ge W t.length 0 e, ?_, ?_⟩⟩
 ·have := run_bytes_of_string (P := P) W src dst e ⟨t.toArray⟩ hs hd he
  rw [this]
  rfl
 ·obtain ⟨v', w', hr, ho, hg⟩ := run_conv (P := P) W 0 src dst e ⟨t.toArray⟩ hs hd he hm (Nat.zero_le _)
  rw [run_bytes_of_string (P := P) W src dst e ⟨t.toArray⟩ hs hd he] at hr
  injection hr with h1 h2
  subst h1
  subst h2
  exact ho.rd
 ·exact ((Below.refl _ W).drew).alloc (by simp) _
theorem conv_own (P : Program) (src dst e : TypeId) (t : List UInt8) (hs : P.underlying src = some .string) (hd : P.underlying dst = some (.slice e)) (he : P.underlying e = some (.int .u8)) (hm : t.length ≤ maxLen) :
 ∃ (C : World → Nat) (X : World → World), ∀ W, (convert src dst (.string ⟨t.toArray⟩)).run P W = .ok (.slice (some ⟨W.heap.size, 0, none⟩) t.length (C W)) (X W) ∧ t.length ≤ C W ∧
   Rd (X W) (some ⟨W.heap.size, 0, none⟩) (bs t) ∧ Below W.heap.size W (X W) ∧ Own (X W) W.heap.size e 1 (.slice (some ⟨W.heap.size, 0, none⟩) t.length (C W)) t.length (bs t) := by
 refine ⟨fun W => grownCap W t.length 0 e, fun W => W.drew.alloc (.cells (bytesRow ⟨t.toArray⟩ (grownCap W t.length 0 e)) e ((bytesRow ⟨t.toArray⟩ (grownCap W t.length 0 e)).size, (bytesRow ⟨t.toArray⟩ (grownCap W t.length 0 e)).size + 1)), fun W => ?_⟩
 obtain ⟨v', w', hr, ho, hg⟩ := run_conv (P := P) W W.heap.size src dst e ⟨t.toArray⟩ hs hd he hm (Nat.le_refl _)
 rw [run_bytes_of_string (P := P) W src dst e ⟨t.toArray⟩ hs hd he] at hr
 injection hr with h1 h2
 subst h1
 subst h2
 refine ⟨?_, grownCap_ge W t.length 0 e, ho.rd, ((Below.refl _ W).drew).alloc (by simp) _, ho⟩
 have := run_bytes_of_string (P := P) W src dst e ⟨t.toArray⟩ hs hd he
 rw [this]
 rfl
theorem go_fig {l : List UInt8} {k : Nat} (h : k < l.length) (hd : isD l[k] = true) (n : Int) (one : List Int) : numsGo n one (l.drop k) = numsGo (rd 1114112 n l[k]) one (l.drop (k + 1)) := by
 rw [List.drop_eq_getElem_cons h]; show (if isD l[k] = true then _ else _) = _; rw [if_pos hd]
theorem go_semi {l : List UInt8} {k : Nat} (h : k < l.length) (hd : isD l[k] = false) (h9 : l[k] = 59) (n : Int) (one : List Int) : numsGo n one (l.drop k) = (one ++ [n]) :: numsGo (-1) [] (l.drop (k + 1)) := by
 rw [List.drop_eq_getElem_cons h]; show (if isD l[k] = true then _ else _) = _; rw [if_neg (by rw [hd]; simp), if_pos h9]
theorem go_colon {l : List UInt8} {k : Nat} (h : k < l.length) (hd : isD l[k] = false) (h9 : l[k] ≠ 59) (n : Int) (one : List Int) : numsGo n one (l.drop k) = numsGo (-1) (one ++ [n]) (l.drop (k + 1)) := by
 rw [List.drop_eq_getElem_cons h]; show (if isD l[k] = true then _ else _) = _; rw [if_neg (by rw [hd]; simp), if_neg h9]
theorem go_end {l : List UInt8} {k : Nat} (h : l.length ≤ k) (n : Int) (one : List Int) : numsGo n one (l.drop k) = [one ++ [n]] := by
 rw [List.drop_of_length_le h]; rfl
end Go.Proofs.YtjlhhelikiegdaaGreatDoor
