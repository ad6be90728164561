/-
  Rows of numbers, and rows of them, of the call's own. (For all layers; no function of any dump.) Cut out of WirQ: what names no function of any dump. Layer 3's mathematics: a sequence's body, a parameter at a time; its length. Layer 10, the landed mods: Old and Shown. Layer 2, walked: the code points that a function tells, one after the other, for every loop that ranges over it. Layer 2: what the callers of the iterator share. The library's comparison of two lists of numbers, walked.
-/
import Derived.Test.YtceipblcdcgljaaGreatDoorG01
import Derived.Test.YtceipblcdcgljaaGreatDoorG02
import Derived.Test.YtceipblcdcgljaaGreatDoorG04
import Derived.Test.YtceipblcdcgljaaGreatDoorG07
import Derived.Test.YtceipblcdcgljaaGreatDoorG09
import Derived.Deep.Cut
import Derived.Laws.BitsLemmas
import Derived.RangeFuncNested
import Derived.RangeFuncBound
import Derived.RangeFuncCalls
import Derived.RangeFuncLeaves
import Derived.RangeFuncBox
import Derived.Shelf.Abstract
import Derived.Shelf.RegionOpen
import Derived.WalkKit
import Derived.OwnWalkIn
import Derived.TacticsInMore
import Derived.LoopNIn
import Derived.LoopIn
import Derived.Maps.AppendAt
import Derived.Deep.QuietTactic
import Derived.BigQuiet
namespace Go.Proofs.YtceipblcdcgljaaGreatDoor
open Go.RowKit
def RowI (w : World) (B : Nat) (e : TypeId) (A : Option Addr) (p : List Int) : Prop :=
 0 < p.length → ∃ b, A = some ⟨b, 0, none⟩ ∧ b < B ∧ (∃ cur fz, w.heap[b]? = some (.cells cur e fz)) ∧ ∀ k u, (is_ p)[k]? = some u → w.cell? ⟨b, k, none⟩ = some u
theorem RowI.keep {w w' : World} {B B' : Nat} {e : TypeId} {A : Option Addr} {p : List Int} (h : RowI w B e A p) (hB : B ≤ B') (hk : ∀ k, k < B → (∃ cur fz, w.heap[k]? = some (.cells cur e fz)) → w'.heap[k]? = w.heap[k]?) : RowI w' B' e A p := fun hp => by
 obtain ⟨b, rfl, hb, ht, hc⟩ := h hp
 have hg := hk b hb ht
 exact ⟨b, rfl, by omega, by rw [hg]; exact ht, fun k u hu => (World.cell?_of_block (w := w) (a := ⟨b, k, none⟩) hg).trans (hc k u hu)⟩
theorem RowI.rd {w : World} {B : Nat} {e : TypeId} {A : Option Addr} {p : List Int} (h : RowI w B e A p) : Rd w A (is_ p) := fun hp => by
 obtain ⟨b, rfl, hb, ⟨cur, fz, ht⟩, hc⟩ := h (by rwa [is_length] at hp)
 exact ⟨b, 0, rfl, (Array.getElem?_eq_some_iff.1 ht).1, fun k u hu => by rw [Nat.zero_add]; exact hc k u hu⟩
theorem RowI.own {w : World} {base n : Nat} {e : TypeId} {v : Value} {p : List Int} (h : Own w base e 1 v n (is_ p)) : n = p.length ∧ ∃ A c, v = .slice A p.length c ∧ RowI w w.heap.size e A p := by
 have hl : n = p.length := by have := h.1; rw [is_length] at this; omega
 subst hl
 refine ⟨rfl, ?_⟩
 rcases h.2 with ⟨rfl, h0⟩ | ⟨g, cap, rfl, hb, ⟨cur, fz, hh⟩, hnc, hcm, hx, hc⟩
 ·exact ⟨none, 0, by rw [h0], fun hp => absurd hp (by omega)⟩
 ·exact ⟨_, cap, rfl, fun _ => ⟨g, rfl, (Array.getElem?_eq_some_iff.1 hh).1, ⟨cur, fz, hh⟩, hx⟩⟩
def Rows (w : World) (B : Nat) (e : TypeId) (xs : List Value) (ps : List (List Int)) : Prop :=
 xs.length = ps.length ∧ ∀ k (hk : k < ps.length), ∃ A c, xs[k]? = some (.slice A (ps[k]).length c) ∧ RowI w B e A ps[k]
theorem Rows.keep {w w' : World} {B B' : Nat} {e : TypeId} {xs : List Value} {ps : List (List Int)} (h : Rows w B e xs ps) (hB : B ≤ B') (hk : ∀ k, k < B → (∃ cur fz, w.heap[k]? = some (.cells cur e fz)) → w'.heap[k]? = w.heap[k]?) : Rows w' B' e xs ps :=
 ⟨h.1, fun k hlt => by
   obtain ⟨A, c, h1, h2⟩ := h.2 k hlt
   exact ⟨A, c, h1, h2.keep hB hk⟩⟩
theorem Rows.snoc {w : World} {B : Nat} {e : TypeId} {xs : List Value} {ps : List (List Int)} (h : Rows w B e xs ps) {A : Option Addr} {c : Nat} {p : List Int} (hp : RowI w B e A p) : Rows w B e (xs ++ [.slice A p.length c]) (ps ++ [p]) := by
 refine ⟨by simp [h.1], fun k hlt => ?_⟩
 by_cases hk : k < ps.length
 ·obtain ⟨A', c', h1, h2⟩ := h.2 k hk
  refine ⟨A', c', ?_, ?_⟩
  ·rw [List.getElem?_append_left (by rw [h.1]; exact hk), List.getElem_append_left hk]; exact h1
  ·rw [List.getElem_append_left hk]; exact h2
 ·have e : k = ps.length := by simp at hlt; omega
  subst e
  refine ⟨A, c, ?_, ?_⟩
  ·rw [List.getElem?_append_right (by rw [h.1]; exact Nat.le_refl _)]; simp [h.1]
  ·simpa using hp
theorem Rows.rdp {w : World} {B base : Nat} {e e2 : TypeId} {xs : List Value} {ps : List (List Int)} (h : Rows w B e xs ps) {v : Value} {n : Nat} (ho : Own w base e2 1 v n xs) : ∃ A c, v = .slice A ps.length c ∧ RdP w A ps := by
 obtain ⟨A, c, rfl, hr⟩ := ho.form
 have hn : n = ps.length := by have := ho.1; rw [h.1] at this; omega
 subst hn
 refine ⟨A, c, rfl, fun hp => ?_⟩
 obtain ⟨b, o, rfl, hb, hc⟩ := hr (by rw [h.1]; exact hp)
 refine ⟨b, o, rfl, hb, fun k hk => ?_⟩
 obtain ⟨A', c', h1, h2⟩ := h.2 k hk
 exact ⟨A', c', hc k _ h1, h2.rd⟩
theorem keep_out {w w' : World} {base B n : Nat} {e e2 : TypeId} {v : Value} {xs : List Value} (ho : Own w base e2 1 v n xs) (hne : e2 ≠ e) (hg : w.grownBy w' v.ownBlock) : ∀ k, k < B → (∃ cur fz, w.heap[k]? = some (.cells cur e fz)) → w'.heap[k]? = w.heap[k]? :=
 fun k _ ⟨_, _, hh⟩ => hg.block k (Array.getElem?_eq_some_iff.1 hh).1 (ho.no_cells hh hne).symm
theorem is_snoc (l : List Int) (n : Int) : is_ (l ++ [n]) = is_ l ++ [.int .i64 n] := by simp [is_]
theorem sl_one (A : Option Addr) (n c : Nat) : ∀ u ∈ [Value.slice A n c], u.oneCell' = true := fun u hu => by
 rw [List.mem_singleton] at hu; subst hu; rfl
theorem own_row {w : World} {base n : Nat} {e : TypeId} {v : Value} {p : List Int} (h : Own w base e 1 v n (is_ p)) : n = p.length ∧ ∃ A c, v = .slice A n c ∧ RowI w w.heap.size e A p := by
 obtain ⟨hn, A, c, hv, hr⟩ := RowI.own h
 exact ⟨hn, A, c, by rw [hn]; exact hv, hr⟩
theorem Rows.snoc2 {w : World} {B n : Nat} {e : TypeId} {xs : List Value} {ps : List (List Int)} (h : Rows w B e xs ps) {A : Option Addr} {c : Nat} {p : List Int} (hn : n = p.length) (hp : RowI w B e A p) : Rows w B e (xs ++ [.slice A n c]) (ps ++ [p]) := by
 subst hn
 exact h.snoc hp
theorem own_lit (w : World) (base : Nat) (e : TypeId) (g : Nat) (v : Value) (hb : base ≤ g) (h : w.heap[g]? = some (.cells #[v] e (0, 0))) : Own w base e 1 (.slice (some ⟨g, 0, none⟩) 1 1) 1 [v] := by
 refine ⟨rfl, .inr ⟨g, 1, rfl, hb, ⟨_, _, h⟩, Nat.le_refl _, by simp [maxLen], fun j u hu => ?_, fun j hj => ?_⟩⟩
 ·rw [cell_of_row w g j _ e _ h]
  simpa using hu
 ·have : j = 0 := by omega
  subst this
  rw [cell_of_row w g 0 _ e _ h]
  exact ⟨rfl, frozen_of_row w g 0 _ e h⟩
def RdPN (g : Nat) (w : World) (A : Option Addr) (ps : List (List Int)) : Prop :=
 0 < ps.length → ∃ b o, A = some ⟨b, o, none⟩ ∧ b ≠ g ∧ (∃ cur fz, w.heap[b]? = some (.cells cur 57 fz)) ∧ ∀ k (hk : k < ps.length), ∃ A' c', w.cell? ⟨b, o + k, none⟩ = some (.slice A' (ps[k]).length c') ∧
   (0 < (ps[k]).length → ∃ b' o', A' = some ⟨b', o', none⟩ ∧ b' ≠ g ∧ (∃ cur fz, w.heap[b']? = some (.cells cur 3 fz)) ∧ ∀ j u, (is_ ps[k])[j]? = some u → w.cell? ⟨b', o' + j, none⟩ = some u)
theorem RdPN.nil (g : Nat) (w : World) (A : Option Addr) : RdPN g w A [] := fun h => absurd h (by simp)
theorem RdPN.rdp {g : Nat} {w : World} {A : Option Addr} {ps : List (List Int)} (h : RdPN g w A ps) : RdP w A ps := fun hp => by
 obtain ⟨b, o, rfl, _, ⟨cur, fz, hh⟩, hc⟩ := h hp
 refine ⟨b, o, rfl, (Array.getElem?_eq_some_iff.1 hh).1, fun k hk => ?_⟩
 obtain ⟨A', c', h1, h2⟩ := hc k hk
 refine ⟨A', c', h1, fun hp2 => ?_⟩
 obtain ⟨b', o', rfl, _, ⟨cur', fz', hh'⟩, hc'⟩ := h2 (by rwa [is_length] at hp2)
 exact ⟨b', o', rfl, (Array.getElem?_eq_some_iff.1 hh').1, hc'⟩
theorem RdPN.keep {g : Nat} {w w' : World} {A : Option Addr} {ps : List (List Int)} (h : RdPN g w A ps) (hbl : ∀ k, k ≠ g → (∃ cur fz, w.heap[k]? = some (.cells cur 57 fz) ∨ w.heap[k]? = some (.cells cur 3 fz)) → w'.heap[k]? = w.heap[k]?) : RdPN g w' A ps := fun hp => by
 obtain ⟨b, o, rfl, hne, ⟨cur, fz, hh⟩, hc⟩ := h hp
 have e1 := hbl b hne ⟨cur, fz, .inl hh⟩
 refine ⟨b, o, rfl, hne, ⟨cur, fz, e1.trans hh⟩, fun k hk => ?_⟩
 obtain ⟨A', c', h1, h2⟩ := hc k hk
 refine ⟨A', c', (World.cell?_of_block (w := w) (a := ⟨b, o + k, none⟩) e1).trans h1, fun hp2 => ?_⟩
 obtain ⟨b', o', rfl, hne', ⟨cur', fz', hh'⟩, hc'⟩ := h2 hp2
 have e2 := hbl b' hne' ⟨cur', fz', .inr hh'⟩
 exact ⟨b', o', rfl, hne', ⟨cur', fz', e2.trans hh'⟩, fun j u hu => (World.cell?_of_block (w := w) (a := ⟨b', o' + j, none⟩) e2).trans (hc' j u hu)⟩
theorem RdPN.grown {g : Nat} {w w' : World} {A : Option Addr} {ps : List (List Int)} (h : RdPN g w A ps) (hg : w.grownBy w' (some g)) : RdPN g w' A ps :=
 h.keep fun k hn ⟨cur, fz, hh⟩ => hg.block k (by rcases hh with hh | hh <;> exact (Array.getElem?_eq_some_iff.1 hh).1) (fun e => hn (by injection e))
theorem tag_ne {w : World} {g b : Nat} {t e : TypeId} {cs cur : Array Value} {fz : Nat × Nat} (h : Blk w g t cs) (hb : w.heap[b]? = some (.cells cur e fz)) (hne : e ≠ t) : b ≠ g := by
 rintro rfl
 unfold Blk at h
 rw [h] at hb
 injection hb with hb
 injection hb with _ h2
 exact hne h2.symm
theorem RdPN.other {g b : Nat} {w w' : World} {t : TypeId} {cs : Array Value} {A : Option Addr} {ps : List (List Int)} (h : RdPN g w A ps) (hb : Blk w b t cs) (h1 : 57 ≠ t) (h2 : 3 ≠ t) (hg : w.grownBy w' (some b)) : RdPN g w' A ps :=
 h.keep fun k _ ⟨cur, fz, hh⟩ => hg.block k (by rcases hh with hh | hh <;> exact (Array.getElem?_eq_some_iff.1 hh).1) (fun e => by
  injection e with e
  subst e
  rcases hh with hh | hh
  ·exact tag_ne hb hh h1 rfl
  ·exact tag_ne hb hh h2 rfl)
theorem Rows.rdpn {w : World} {B base g : Nat} {t : TypeId} {cs : Array Value} {xs : List Value} {ps : List (List Int)} (h : Rows w B 3 xs ps) {v : Value} {n : Nat} (ho : Own w base 57 1 v n xs) (hg : Blk w g t cs) (h1 : 3 ≠ t) (h2 : 57 ≠ t) : ∃ A c, v = .slice A n c ∧ RdPN g w A ps := by
 have hn : n = ps.length := by have := ho.1; rw [h.1] at this; omega
 subst hn
 rcases ho.2 with ⟨rfl, h0⟩ | ⟨b, cap, rfl, hb, ⟨cur, fz, hh⟩, hnc, hcm, hx, hc⟩
 ·exact ⟨Option.none, 0, by rw [h0], fun hp => absurd hp (by omega)⟩
 ·refine ⟨_, cap, rfl, fun hp => ⟨b, 0, rfl, tag_ne hg hh h2, ⟨cur, fz, hh⟩, fun k hk => ?_⟩⟩
  obtain ⟨A', c', h3, h4⟩ := h.2 k hk
  refine ⟨A', c', by rw [Nat.zero_add]; exact hx k _ h3, fun hp2 => ?_⟩
  obtain ⟨b', rfl, hb', ⟨cur', fz', hh'⟩, hc'⟩ := h4 hp2
  exact ⟨b', 0, rfl, tag_ne hg hh' h1, ⟨cur', fz', hh'⟩, fun j u hu => by rw [Nat.zero_add]; exact hc' j u hu⟩
theorem below_set6 {B : Nat} {a w : World} (h : Below B a w) {b : Nat} (hb : B ≤ b) (x0 x1 x2 x3 x4 x5 : Value) : Below B a ((((((w.setCell ⟨b, 0, none⟩ x0).setCell ⟨b, 1, none⟩ x1).setCell ⟨b, 2, none⟩ x2).setCell ⟨b, 3, none⟩ x3).setCell ⟨b, 4, none⟩ x4).setCell ⟨b, 5, none⟩ x5) :=
 (((((h.setCell (p := ⟨b, 0, none⟩) hb x0).setCell (p := ⟨b, 1, none⟩) hb x1).setCell (p := ⟨b, 2, none⟩) hb x2).setCell (p := ⟨b, 3, none⟩) hb x3).setCell (p := ⟨b, 4, none⟩) hb x4).setCell (p := ⟨b, 5, none⟩) hb x5
theorem grown_set6 (w : World) (b : Nat) (x0 x1 x2 x3 x4 x5 : Value) : w.grownBy ((((((w.setCell ⟨b, 0, none⟩ x0).setCell ⟨b, 1, none⟩ x1).setCell ⟨b, 2, none⟩ x2).setCell ⟨b, 3, none⟩ x3).setCell ⟨b, 4, none⟩ x4).setCell ⟨b, 5, none⟩ x5) (some b) :=
 grown_trans (grown_trans (grown_trans (grown_trans (grown_trans (grown_setCell b 0 x0 w) (grown_setCell b 1 x1 _)) (grown_setCell b 2 x2 _)) (grown_setCell b 3 x3 _)) (grown_setCell b 4 x4 _)) (grown_setCell b 5 x5 _)
def sqV (s : Sq) (A : Option Addr) (c : Nat) : Value := .agg #[.int .i64 s.kind, .int .u8 (s.priv.toNat : Int), .slice A s.params.length c, .string ⟨s.inter.toArray⟩, .int .u8 (s.final.toNat : Int), .string ⟨s.data.toArray⟩]
theorem last_q {s : Sq} {q : Bool} (hq : lastOk s = q) : (s.kind = 1 ∨ s.kind = 2 ∨ s.kind = 3 → q = (decide (64 ≤ s.final.toNat) && decide (s.final.toNat ≤ 126))) ∧
 (s.kind = 5 → (s.final.toNat < 48 ∨ 126 < s.final.toNat → q = false) ∧ (48 ≤ s.final.toNat → s.final.toNat ≤ 126 → (s.inter ≠ [] → q = true) ∧
   (s.inter = [] → q = !([79, 80, 88, 91, 93, 92, 94, 95] : List Nat).contains s.final.toNat))) ∧
 (s.kind = 4 → q = decide (s.final.toNat = 0)) ∧ (¬ (s.kind = 1 ∨ s.kind = 2 ∨ s.kind = 3 ∨ s.kind = 4 ∨ s.kind = 5) → q = false) := by
 subst hq
 refine ⟨fun h => ?_, fun h => ⟨fun h1 => ?_, fun h1 h2 => ⟨fun h3 => ?_, fun h3 => ?_⟩⟩, fun h => ?_, fun h => ?_⟩
 ·unfold lastOk; rw [if_pos h]; rfl
 ·unfold lastOk; rw [if_neg (by omega), if_pos h, (btw_no 48 126 _).2 (by omega), Bool.false_and]
 ·unfold lastOk; rw [if_neg (by omega), if_pos h, (btw_iff 48 126 _).2 ⟨h1, h2⟩, decide_eq_true h3]; rfl
 ·unfold lastOk; rw [if_neg (by omega), if_pos h, (btw_iff 48 126 _).2 ⟨h1, h2⟩, decide_eq_false (by simpa using h3), Bool.false_or, Bool.true_and]
  congr 1
  rw [Bool.eq_iff_iff]
  simp [← UInt8.toNat_inj]
 ·unfold lastOk; rw [if_neg (by omega), if_neg (by omega), decide_eq_true h, Bool.true_and]
  rw [Bool.eq_iff_iff]
  simp [← UInt8.toNat_inj]
 ·unfold lastOk; rw [if_neg (by omega), if_neg (by omega), decide_eq_false (by omega)]; rfl
theorem str_cat (a b c : List UInt8) (h : a ++ b = c) : (⟨a.toArray⟩ : ByteArray) ++ (⟨b.toArray⟩ : ByteArray) = ⟨c.toArray⟩ := by
 subst h
 apply ByteArray.ext
 simp [ByteArray.data_append]
theorem partL_snoc (p : List Int) (n : Int) : partL (p ++ [n]) = partL p ++ (if p = [] then [] else [58]) ++ textL n := by
 match p with
 | [] => simp [partL]
 | [m] => simp [partL]
 | m :: k :: p =>
   have ih := partL_snoc (k :: p) n
   show textL m ++ (58 :: partL (k :: p ++ [n])) = _
   rw [ih]
   simp [partL]
theorem parL_snoc (l : List (List Int)) (p : List Int) : parL (l ++ [p]) = parL l ++ (if l = [] then [] else [59]) ++ partL p := by
 match l with
 | [] => simp [parL]
 | [m] => simp [parL]
 | m :: k :: l =>
   have ih := parL_snoc (k :: l) p
   show partL m ++ (59 :: parL (k :: l ++ [p])) = _
   rw [ih]
   simp [parL]
theorem partL_len : ∀ (p : List Int), partOk p → (partL p).length ≤ 22 * p.length := by
 intro p ho
 match p with
 | [] => simp [partL]
 | [n] =>
   have := textL_length n (by have := ho n (List.mem_cons_self ..); omega)
   simp only [partL, List.length_cons, List.length_nil]; omega
 | n :: m :: p =>
   have h1 := textL_length n (by have := ho n (List.mem_cons_self ..); omega)
   have h2 := partL_len (m :: p) (fun x hx => ho x (List.mem_cons_of_mem _ hx))
   show (textL n ++ (58 :: partL (m :: p))).length ≤ _
   rw [List.length_append, List.length_cons]
   simp only [List.length_cons] at *
   omega
theorem partL_take {p : List Int} {k : Nat} (h : k < p.length) : partL (p.take (k + 1)) = partL (p.take k) ++ (if k = 0 then [] else [58]) ++ textL p[k] := by
 rw [List.take_succ_eq_append_getElem h, partL_snoc]
 congr 2
 by_cases hk : k = 0
 ·subst hk; simp
 ·rw [if_neg hk, if_neg]
  intro e
  have := congrArg List.length e
  rw [List.length_take, List.length_nil] at this
  omega
theorem parL_take {l : List (List Int)} {k : Nat} (h : k < l.length) : parL (l.take (k + 1)) = parL (l.take k) ++ (if k = 0 then [] else [59]) ++ partL l[k] := by
 rw [List.take_succ_eq_append_getElem h, parL_snoc]
 congr 2
 by_cases hk : k = 0
 ·subst hk; simp
 ·rw [if_neg hk, if_neg]
  intro e
  have := congrArg List.length e
  rw [List.length_take, List.length_nil] at this
  omega
theorem parL_len : ∀ (l : List (List Int)), (∀ p ∈ l, p.length ≤ 8 ∧ partOk p) → (parL l).length ≤ 177 * l.length := by
 intro l ho
 match l with
 | [] => simp [parL]
 | [p] =>
   have h := ho p (List.mem_cons_self ..)
   have := partL_len p h.2
   simp only [parL, List.length_cons, List.length_nil]; omega
 | p :: q :: l =>
   have h := ho p (List.mem_cons_self ..)
   have h1 := partL_len p h.2
   have h2 := parL_len (q :: l) (fun x hx => ho x (List.mem_cons_of_mem _ hx))
   show (partL p ++ (59 :: parL (q :: l))).length ≤ _
   rw [List.length_append, List.length_cons]
   simp only [List.length_cons] at *
   omega
theorem parOk_lens {l : List (List Int)} (h : parOk l = true) : l.length ≤ 16 ∧ ∀ p ∈ l, p.length ≤ 8 ∧ partOk p := by
 simp only [parOk, Bool.and_eq_true, decide_eq_true_eq, List.all_eq_true] at h
 refine ⟨h.1.1, fun p hp => ?_⟩
 obtain ⟨⟨_, h1⟩, h2⟩ := h.2 p hp
 exact ⟨h1, fun n hn => h2 n hn⟩
theorem mask7 {x : Int} (h0 : 0 ≤ x) (h1 : x ≤ 9223372036854775807) : bits .and .i64 x 7 = x % 8 :=
 bits_mask .i64 63 (by decide) (fun n a b => by rw [IntKind.wrap_i64]; omega) 3 (by decide) x h0 (by omega)
theorem mask1 {x : Int} (h0 : 0 ≤ x) (h1 : x ≤ 9223372036854775807) : bits .and .i64 x 1 = x % 2 :=
 bits_mask .i64 63 (by decide) (fun n a b => by rw [IntKind.wrap_i64]; omega) 1 (by decide) x h0 (by omega)
set_option maxRecDepth 100000 in
theorem pold_any (n : Int) (w : World) (hn : in10 n) : Calls Tryz.prog 77 #[.int .i64 n] w fun e w' => e = .returned (.int .i64 (oldN n)) ∧ Below w.heap.size w w' := by
 obtain ⟨N, hN⟩ : ∃ N, max n 0 = N := ⟨_, rfl⟩
 have hmax := max0 n N hN (P := Tryz.prog)
 obtain ⟨F, hF⟩ : ∃ F, oldN n = F := ⟨_, rfl⟩
 have hm : bits .and .i64 N 7 = F := by
  have h2 := hn.2
  rw [mask7 (by omega) (by omega), ← hF, ← hN]
  rfl
 rw [hF]
 clear hF hN hn
 go_enter Tryz.func77, Tryz.ntmps77
 go_wp2
 go_ret
 exact ⟨rfl, by first | exact Below.refl _ _ | exact below_drewN (Below.refl _ _) _⟩
set_option maxRecDepth 100000 in
set_option maxHeartbeats 4000000 in
theorem pshown_any (k : Ky) (hk : okK k) (w : World) : Calls Tryz.prog 104 #[kyV k] w fun e w' => e = .returned (.int .i64 (shownK k)) ∧ Below w.heap.size w w' := by
 have hB := ky_box w k
 have hold := pold_any k.mods (w.alloc (.cells (kyC k) 25)) hk.mods
 have k0 := Blk.new w 25 (kyC k)
 have hsh : shownK k = if hasN k.mods 1 = false then k.code else if k.shift ≠ 0 then k.shift else if 97 ≤ k.code ∧ k.code ≤ 122 then k.code - 32 else k.code := rfl
 obtain ⟨F, hF⟩ : ∃ F, oldN k.mods = F := ⟨_, rfl⟩
 have hr : 0 ≤ F ∧ F < 8 := by rw [← hF]; unfold oldN; omega
 obtain ⟨N, hN⟩ : ∃ N, bits .and .i64 F 1 = N := ⟨_, rfl⟩
 have hN2 : N = F % 2 := by rw [← hN]; exact mask1 hr.1 (by omega)
 obtain ⟨p, hp⟩ : ∃ p, hasN k.mods 1 = p := ⟨_, rfl⟩
 have hz : (N == 0) = !p := by
  rw [← hp]
  unfold hasN
  rw [Int.ediv_one, hN2, ← hF]
  unfold oldN
  have e : max k.mods 0 % 8 % 2 = max k.mods 0 % 2 := by omega
  rw [e]
  rcases Int.emod_two_eq (max k.mods 0) with h | h <;> rw [h] <;> rfl
 have hc := hk.code
 rw [hF] at hold
 rw [hp] at hsh
 clear hk hp hF hr hN2
 rw [kyV]
 rw [kyC] at hB hold k0
 obtain ⟨code, mods, typ, shift, base, text⟩ := k
 simp only at hB hold k0 hsh hc ⊢
 go_enter Tryz.func104, Tryz.ntmps104
 have a0 := k0.cell 0
 have a1 := k0.cell 1
 have a3 := k0.cell 3
 have HSH := Lib.hid hsh
 clear hsh
 go_wp2_with fail
 refine hold.mono ?_
 clear hold
 rintro e w1 ⟨rfl, hb1⟩
 have k1 := k0.below hb1 k0.lt
 have hB1 := hB.trans (hb1.mono hB.size)
 clear k0 hB hb1 a0 a1 a3
 have a0 := k1.cell 0
 have a3 := k1.cell 3
 cases p with
 | false =>
   have hz2 : (N == 0) = true := hz
   clear hz
   go_wp2_with fail
   go_ret
   exact ⟨ret_i (by rw [HSH.out]; rfl), hB1⟩
 | true =>
   have hz2 : (N == 0) = false := hz
   clear hz
   by_cases h3 : shift = 0
   ·subst h3
    by_cases h4 : 97 ≤ code
    ·by_cases h5 : code ≤ 122
     ·have e1 : IntKind.i64.wrap (code - 97) = code - 97 := by rw [IntKind.wrap_i64]; omega
      have e2 : IntKind.i64.wrap (code - 97 + 65) = code - 32 := by rw [IntKind.wrap_i64]; omega
      go_wp2_with fail
      go_ret
      exact ⟨ret_i (by rw [HSH.out, if_neg (by decide), if_neg (fun h => h rfl), if_pos ⟨h4, h5⟩]), hB1⟩
     ·have h6 : 122 < code := by omega
      go_wp2_with fail
      go_ret
      exact ⟨ret_i (by rw [HSH.out, if_neg (by decide), if_neg (fun h => h rfl), if_neg (by omega)]), hB1⟩
    ·have h6 : code < 97 := by omega
     go_wp2_with fail
     go_ret
     exact ⟨ret_i (by rw [HSH.out, if_neg (by decide), if_neg (fun h => h rfl), if_neg (by omega)]), hB1⟩
   ·have h5 : (shift == 0) = false := beq_false_of_ne h3
    have h6 : (shift != 0) = true := by simp [bne, h5]
    have H3 := Lib.hid h3
    clear h3
    go_wp2_with fail
    go_ret
    exact ⟨ret_i (by rw [HSH.out, if_neg (by decide), if_pos H3.out]), hB1⟩
end Go.Proofs.YtceipblcdcgljaaGreatDoor
namespace Go.Proofs.YtceipblcdcgljaaGreatDoor
open Go.RowKit Go.Shelf
section
attribute [local go_sem] Oper.semAt_some
theorem Siz.low {n₁ : Nat} {w w' : World} (h : Siz w) (h0 : 1 < n₁) (hb : Below n₁ w w') : Siz w' := by
 obtain ⟨t, fz, hh⟩ := h
 exact ⟨t, fz, (hb.block _ h0).trans hh⟩
def Kp2 (n₁ B : Nat) (w w' : World) : Prop := Below n₁ w w' ∧ w'.heap[B]? = w.heap[B]?
theorem take_tup (A : Option Addr) (n c : Nat) (l : List UInt8) (r : Int) (m : Nat) (w : World) (hn : l.length = n) (h : takeL l = (r, m)) (hs : Siz w) (hl : l.length ≤ 4294967296) (hlc : n ≤ c) (hr : Rd w A (bs l)) :
 Calls Tryz.prog 152 #[.slice A n c] w fun e w' => e = .returned (.tuple #[.int .i64 r, .int .i64 m]) ∧ Below w.heap.size w w' := by
 subst hn
 refine (take_any A c l w hs hl hlc hr).mono ?_
 rintro e w' ⟨rfl, hb⟩
 exact ⟨by unfold Tk; rw [h], hb⟩
theorem below_grown0 {w w' : World} (h : Below w.heap.size w w') : w.grownBy w' none := ⟨h.os, h.tape, h.output, h.size, fun k hk _ => h.block k hk⟩
set_option maxRecDepth 100000 in
set_option maxHeartbeats 2000000 in
theorem points_any (A : Option Addr) (n c : Nat) (w : World) : Calls Tryz.prog 143 #[.slice A n c] w fun e w' => e = .returned (.func (.func 151) #[] #[.pointer (some ⟨w.heap.size, 0, none⟩)]) ∧ w' = w.alloc (.cells #[.slice A n c] 27) := by
 go_enter Tryz.func143, Tryz.ntmps143
 go_wp2
 go_ret
 exact ⟨rfl, rfl⟩
set_option maxRecDepth 100000 in
set_option maxHeartbeats 2000000 in
theorem pts1_in (n : Nat) (hn : 1 ≤ n) (l Bs n₁ B0 c : Nat) (A : Option Addr) (t : List UInt8) (ht : t.length ≤ 4294967296) (htc : t.length ≤ c) (hg0 : 1 < n₁) (J Jx : List (Int × Bool) → World → Prop) (hJ : AbidesFrom B0 J)
 (hY : ∀ pre x W, J pre W → pre.length < (ptsL t).length → YieldAt Fence.wide (n - 1) Tryz.prog l #[.int .i64 x.1, .bool x.2] W fun e W' =>
   (e = .returned (.bool true) ∧ J (pre ++ [x]) W' ∧ Kp2 n₁ Bs W W') ∨ (e = .returned (.bool false) ∧ Jx (pre ++ [x]) W'))
 (W : World) (hbox : Blk W Bs 27 #[.slice A t.length c]) (hs : Siz W) (hr : RdIn n₁ W A (bs t)) (hn₁ : n₁ ≤ W.heap.size) (h0 : J [] W) :
 CallsIn Fence.wide n Tryz.prog 151 #[.func (.yield l) #[] #[], .pointer (some ⟨Bs, 0, none⟩)] W fun e W' => (∃ v, e = .returned v) ∧
  ((∃ ys, ys = ptsL t ∧ J ys W') ∨ (∃ pre, pre <+: ptsL t ∧ Jx pre W')) := by
 refine callsIn_of_wp Tryz.func151 rfl trivial ?_ rfl
 simp only [Tryz.ntmps151, List.size_toArray, List.length_cons, List.length_nil, Nat.reduceAdd, Nat.reduceSub, Array.replicate_succ, Array.replicate_zero, List.push_toArray, List.append_toArray, List.nil_append, List.cons_append]
 gi_wp2
 gi_loopw [3] (fun i wr => ∃ (k : Nat) (pre : List (Int × Bool)), k ≤ t.length ∧ i = .int .i64 k ∧ pre ++ ptsL (t.drop k) = ptsL t ∧ J pre wr ∧ Blk wr Bs 27 #[.slice A t.length c] ∧ Siz wr ∧ RdIn n₁ wr A (bs t) ∧ n₁ ≤ wr.heap.size) (fun i _ => t.length - (intOf i).toNat)
 case atStart => exact ⟨0, [], Nat.zero_le _, rfl, rfl, h0, hbox, hs, hr, hn₁⟩
 case round =>
  obtain ⟨k, pre, hk, rfl, hpre, hJs, hbx, hsz, hrd, hnw⟩ := hrel
  have HP := Lib.hid hpre
  clear hpre
  have hcb := hbx.cell 0
  by_cases hlt : k < t.length
  ·obtain ⟨b, o, rfl, hb, hcc⟩ := hrd (by rw [bs_length]; omega)
   have hdr := hrd.drop k hlt
   clear hcc
   have k0 : (0 : Int) ≤ (k : Int) := by omega
   have k1 : (k : Int) ≤ (t.length : Int) := by omega
   have hlen := Lib.hid (show (t.drop k).length = t.length - k from List.length_drop)
   have hld : (t.drop k).length ≤ 4294967296 := by rw [List.length_drop]; omega
   by_cases hz : (takeL (t.drop k)).2 = 0
   ·have E := Lib.hid (take_zero hz)
    have PN := Lib.hid (show ptsL (t.drop k) = [(0, false)] from ptsL_no (by rw [List.length_drop]; omega) hz)
    have hlt2 : pre.length < (ptsL t).length := by rw [← HP.out, PN.out]; simp
    have PE := Lib.hid (show pre ++ [(0, false)] = ptsL t by rw [← HP.out, PN.out])
    clear hz
    gi_wp2_with fail
    refine ⟨trivial, ?_⟩
    gi_at_call 152
    refine (callsIn_wide.2 (take_tup _ _ _ (t.drop k) 0 0 _ hlen.out E.out hsz hld (by omega) hdr)).mono ?_
    rintro e w2 ⟨rfl, hb2⟩
    have hJ2 : J pre w2 := hJ _ _ _ none hJs (below_grown0 hb2) (fun r e => by cases e)
    clear hb2
    obtain ⟨fn, tmps, assign, body, hy, hR⟩ := hY pre (0, false) w2 hJ2 hlt2
    dsimp only at hy
    gi_wp2
    refine hR.mono ?_
    rintro e W3 (⟨rfl, hJ3, hk3⟩ | ⟨rfl, hJx3⟩)
    ·gi_wp2
     refine bodyPost_ret (results_none rfl _ _ _) rfl ?_
     exact ⟨⟨_, rfl⟩, .inl ⟨_, PE.out, hJ3⟩⟩
    ·gi_wp2
     refine bodyPost_ret (results_none rfl _ _ _) rfl ?_
     exact ⟨⟨_, rfl⟩, .inr ⟨_, ⟨[], by rw [List.append_nil]; exact PE.out⟩, hJx3⟩⟩
   ·have PY := Lib.hid (ptsL_yes hz)
    have hle := (take_snd_le (t.drop k)).1
    obtain ⟨r, hr1⟩ : ∃ r, (takeL (t.drop k)).1 = r := ⟨_, rfl⟩
    obtain ⟨m, hm1⟩ : ∃ m, (takeL (t.drop k)).2 = m := ⟨_, rfl⟩
    have E := Lib.hid (show takeL (t.drop k) = (r, m) by rw [← hr1, ← hm1])
    rw [hm1, List.length_drop] at hle
    rw [hm1] at hz
    have m0 : (0 : Int) < (m : Int) := by omega
    have m2 : 0 < m := by omega
    have m3 : decide (0 < m) = true := decide_eq_true m2
    have m4 : decide ((0 : Int) < (m : Int)) = true := decide_eq_true m0
    have m1 : ((m : Int) == 0) = false := beq_false_of_ne (by omega)
    have PD := Lib.hid (show ptsL (t.drop k) = (r, true) :: ptsL (t.drop (k + m)) by rw [PY.out, hr1, hm1, List.drop_drop])
    have hlt2 : pre.length < (ptsL t).length := by rw [← HP.out, PD.out]; simp
    have PE := Lib.hid (show (pre ++ [(r, true)]) ++ ptsL (t.drop (k + m)) = ptsL t by rw [← HP.out, PD.out]; simp)
    clear hr1 hm1 PY
    gi_wp2_with fail
    refine ⟨trivial, ?_⟩
    gi_at_call 152
    refine (callsIn_wide.2 (take_tup _ _ _ (t.drop k) r m _ hlen.out E.out hsz hld (by omega) hdr)).mono ?_
    rintro e w2 ⟨rfl, hb2⟩
    have hJ2 : J pre w2 := hJ _ _ _ none hJs (below_grown0 hb2) (fun r e => by cases e)
    have hbx2 := hbx.below hb2 hbx.lt
    have hsz2 := hsz.below' hb2
    have hrd2 := hrd.below (hb2.mono hnw)
    have hnw2 := Nat.le_trans hnw hb2.size
    clear hb2
    obtain ⟨fn, tmps, assign, body, hy, hR⟩ := hY pre (r, true) w2 hJ2 hlt2
    dsimp only at hy
    gi_wp2
    refine hR.mono ?_
    rintro e W3 (⟨rfl, hJ3, hk3⟩ | ⟨rfl, hJx3⟩)
    ·gi_wp2
     go_roundw
     case rel => exact ⟨k + m, _, by omega, by go_num, PE.out, hJ3, hk3.2.trans hbx2, hsz2.low hg0 hk3.1, hrd2.below hk3.1, Nat.le_trans hnw2 hk3.1.size⟩
     case measure => simp [intOf]; omega
    ·gi_wp2
     refine bodyPost_ret (results_none rfl _ _ _) rfl ?_
     exact ⟨⟨_, rfl⟩, .inr ⟨_, ⟨_, PE.out⟩, hJx3⟩⟩
  ·have hke : k = t.length := by omega
   have PE := Lib.hid (show pre = ptsL t by
    have h1 := HP.out
    rw [hke, List.drop_length] at h1
    rw [← h1]; show pre = pre ++ []; simp)
   clear hke
   gi_wp2
   go_end0
   exact ⟨⟨_, rfl⟩, .inl ⟨_, PE.out, hJs⟩⟩
end
section
attribute [local go_sem] Oper.semAt_some
theorem kp2_t {n₁ B : Nat} {X Y Z : World} (h : Kp2 n₁ B X Y) (k : Kp2 n₁ B Y Z) : Kp2 n₁ B X Z := ⟨h.1.trans k.1, k.2.trans h.2⟩
theorem kp2_b {n₁ B : Nat} {w : World} (hn : n₁ ≤ w.heap.size) (hB : B < w.heap.size) (W : World) (l : Nat) (o o' : Obj) (hl : w.heap.size ≤ l) (h : W.heap[l]? = some o) (hc : o.isCells = false) (hw : o.isWalk = false) : Kp2 n₁ B W (W.putObj l o') :=
 ⟨belowK_b hn W l o o' hl h hc hw, World.putObj_heap_other (by omega)⟩
theorem pts_stops (n : Nat) (hn : 1 ≤ n) (Bs n₁ c : Nat) (A : Option Addr) (t : List UInt8) (ht : t.length ≤ 4294967296) (htc : t.length ≤ c) (hg0 : 1 < n₁) (w : World) (hn₁ : n₁ ≤ w.heap.size)
 (hbox : Blk w Bs 27 #[.slice A t.length c]) (hs : Siz w) (hr : RdIn n₁ w A (bs t)) :
 SeqStopsK Fence.wide n Tryz.prog 151 #[.pointer (some ⟨Bs, 0, none⟩)] (fun x : Int × Bool => #[.int .i64 x.1, .bool x.2]) (Kp2 n₁ Bs) (fun ys => ys = ptsL t) (fun pre => pre <+: ptsL t) (ptsL t).length w := fun l J Jx W hW hJ _ hY h0 =>
 pts1_in n hn l Bs n₁ W.heap.size c A t ht htc hg0 J Jx hJ hY W (hbox.below hW hbox.lt) (hs.below' hW) (hr.below (hW.mono hn₁)) (Nat.le_trans hn₁ hW.size) h0
theorem all_false {p q : List (Int × Bool)} (h : p <+: q) {y : Int × Bool} (hy : y ∈ p) (h2 : y.2 = false) : q.all (·.2) = false := by
 rw [List.all_eq_false]
 exact ⟨y, h.subset hy, by simp [h2]⟩
theorem allL_none {t : List UInt8} (h : (ptsL t).all (·.2) = false) : allL t = none := by unfold allL allOf; rw [h]; rfl
theorem allL_some {t : List UInt8} (h : ∀ y ∈ ptsL t, y.2 = true) : allL t = some ((ptsL t).map (·.1)) := by
 unfold allL allOf
 rw [if_pos (List.all_eq_true.2 h)]
end
end Go.Proofs.YtceipblcdcgljaaGreatDoor
namespace Go.Proofs.YtceipblcdcgljaaGreatDoor
open Go.RowKit
set_option maxRecDepth 100000 in
set_option maxHeartbeats 4000000 in
theorem eq_any (A B : Option Addr) (c d : Nat) (a b : List Int) (w : World) (hl : a.length ≤ 4294967296) (hl2 : b.length ≤ 4294967296) (hra : Rd w A (is_ a)) (hrb : Rd w B (is_ b)) :
 Calls Tryz.prog 132 #[.slice A a.length c, .slice B b.length d] w fun e w' => e = .returned (.bool (decide (a = b))) ∧ Below w.heap.size w w' := by
 by_cases hlen : a.length = b.length
 ·go_enter Tryz.func132, Tryz.ntmps132
  go_wp2
  go_loopw [13] (fun i wr => ∃ k : Nat, k ≤ a.length ∧ i = .int .i64 k ∧ a.take k = b.take k ∧ Below w.heap.size w wr) (fun i _ => a.length - (intOf i).toNat)
  case atStart => exact ⟨0, Nat.zero_le _, rfl, rfl, Below.refl _ _⟩
  case round =>
   obtain ⟨k, hk, rfl, hab, hbw⟩ := hrel
   have HAB := Lib.hid hab
   clear hab
   by_cases hlt : k < a.length
   ·have hltb : k < b.length := by omega
    obtain ⟨p, o, rfl, hp, hc⟩ := hra.int_at (by omega)
    obtain ⟨q, u, rfl, hq, hd⟩ := hrb.int_at (by omega)
    have hck := (hbw.cell (p := ⟨p, o + k, none⟩) hp).trans (hc k hlt)
    have hdk := (hbw.cell (p := ⟨q, u + k, none⟩) hq).trans (hd k hltb)
    clear hc hd
    have g0 : (0 : Int) ≤ (k : Int) := by omega
    have g1 : (k : Int) < (a.length : Int) := by omega
    have g2 : (k : Int) < (b.length : Int) := by omega
    by_cases he : a[k]'hlt = b[k]'hltb
    ·have H := Lib.hid (show a.take (k + 1) = b.take (k + 1) by rw [List.take_succ_eq_append_getElem hlt, List.take_succ_eq_append_getElem hltb, HAB.out, he])
     obtain ⟨x, hx⟩ : ∃ x, a[k]'hlt = x := ⟨_, rfl⟩
     obtain ⟨y, hy⟩ : ∃ y, b[k]'hltb = y := ⟨_, rfl⟩
     rw [hx] at hck he
     rw [hy] at hdk he
     subst he
     clear hx hy
     go_wp2
     go_quiet (fail)
     go_wp2
     go_roundw
     case rel => exact ⟨k + 1, by omega, by go_num, H.out, below_drewN hbw _⟩
     case measure => simp [intOf]; omega
    ·have E := Lib.hid (show decide (a = b) = false from decide_eq_false (fun e => he (by subst e; rfl)))
     have t1 : (a[k]'hlt == b[k]'hltb) = false := beq_false_of_ne he
     have t2 : (a[k]'hlt != b[k]'hltb) = true := by simp [bne, t1]
     clear he
     go_wp2
     go_quiet (fail)
     go_wp2
     go_ret
     exact ⟨ret_b E.out.symm, below_drewN hbw _⟩
   ·have E := Lib.hid (show decide (a = b) = true from decide_eq_true (by
     have h1 := HAB.out
     rw [List.take_of_length_le (by omega), List.take_of_length_le (by omega)] at h1
     exact h1))
    go_wp2
    go_ret
    exact ⟨ret_b E.out.symm, hbw⟩
 ·have E := Lib.hid (show decide (a = b) = false from decide_eq_false (fun e => hlen (by rw [e])))
  have t1 : ((a.length : Int) == (b.length : Int)) = false := beq_false_of_ne (by omega)
  have t2 : ((a.length : Int) != (b.length : Int)) = true := by simp [bne, t1]
  clear hlen
  go_enter Tryz.func132, Tryz.ntmps132
  go_wp2
  go_ret
  exact ⟨ret_b E.out.symm, Below.refl _ _⟩
theorem eq_at (A B : Option Addr) (n m c d : Nat) (a b : List Int) (q : Bool) (w : World) (hn : a.length = n) (hm : b.length = m) (hq : decide (a = b) = q) (hl : n ≤ 4294967296) (hl2 : m ≤ 4294967296) (hra : Rd w A (is_ a)) (hrb : Rd w B (is_ b)) :
 Calls Tryz.prog 132 #[.slice A n c, .slice B m d] w fun e w' => e = .returned (.bool q) ∧ Below w.heap.size w w' := by
 subst hn hm hq
 exact eq_any A B c d a b w hl hl2 hra hrb
end Go.Proofs.YtceipblcdcgljaaGreatDoor
