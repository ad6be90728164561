/-
  Layer 9, the landed keys, walked: a row's entry. Rows of numbers, and rows of them, of the call's own. (For all layers; no function of any dump.)
-/
import Derived.Test.YtdfojkbgdoiglaaDoorG03
import Derived.Test.YtdfojkbgdoiglaaDoorG07
import Derived.Test.YtdfojkbgdoiglaaDoorG19
import Derived.Deep.Cut
namespace Go.Proofs.YtdfojkbgdoiglaaDoor
open Go.RowKit
set_option maxRecDepth 100000 in
set_option maxHeartbeats 4000000 in
theorem entry_any (F L K : Int) (s : ByteArray) (ns : List Int) (m : Nat) (hm : ns.length = m) (u : ByteArray) (B : Bool) (A : Option Addr) (cp a : Nat) (ha : a ≤ 100000) (_hF : 0 ≤ F) (_hF2 : F ≤ 60000) (_hs : s.size ≤ 100) (hm2 : m ≤ 100) (_hu : u.size ≤ 100) (w : World) (hr : Rd w A (is_ ns)) :
 Calls Tryd.prog 25 #[.agg #[.int .i64 F, .int .i64 L, .int .i64 K, .string s, .slice A m cp, .string u, .bool B], .int .i64 (F + (a : Int))] w fun e w' => e = .returned (.agg #[.int .i64 K, .int .u8 (sbK s a), .int .i64 (ns.getD a 0), .int .i64 (sbK u a), .bool B]) ∧ Below w.heap.size w w' := by
 have hB : ∀ x y z, Below w.heap.size w (((w.alloc x).alloc y).alloc z) := fun x y z => (below_two x y).alloc (by simp; omega) _
 go_enter Tryd.func25, Tryd.ntmps25
 have e0 : F + (a : Int) - F = (a : Int) := by omega
 have k0 : (0 : Int) ≤ (a : Int) := by omega
 obtain HM : Hid (ns.length = m) := Lib.hid hm
 clear hm
 by_cases h1 : a < m
 ·have q1 : (a : Int) < (m : Int) := by omega
  obtain ⟨b, o, rfl, hb, hc⟩ := hr.int_at (by rw [HM.out]; omega)
  have hx := hc a (by rw [HM.out]; exact h1)
  have N1 := Lib.hid (getD_yes (l := ns) (a := a) (by rw [HM.out]; exact h1))
  obtain ⟨x, hx2⟩ : ∃ x, ns[a]'(by rw [HM.out]; exact h1) = x := ⟨_, rfl⟩
  rw [hx2] at hx N1
  have hxW : ∀ o1 o2 o3, (((w.alloc o1).alloc o2).alloc o3).cell? ⟨b, o + a, none⟩ = some (.int .i64 x) := fun o1 o2 o3 => ((hB o1 o2 o3).cell (p := ⟨b, o + a, none⟩) hb).trans hx
  clear hc hx2
  by_cases h2 : a < s.size
  ·have q2 : (a : Int) < (s.size : Int) := by omega
   have N2 := Lib.hid (sbK_yes h2)
   by_cases h3 : a < u.size
   ·have q3 : (a : Int) < (u.size : Int) := by omega
    have N3 := Lib.hid (sbK_yes h3)
    have hd := (u[a]'h3).toNat_lt
    have wd : wrap64 ((u[a]'h3).toNat : Int) = ((u[a]'h3).toNat : Int) := by unfold wrap64; omega
    go_wp2
    refine bodyPost_ret (v := .agg #[.int .i64 K, .int .u8 (sbK s a), .int .i64 (ns.getD a 0), .int .i64 (sbK u a), .bool B]) (by rw [N2.out, N1.out, N3.out]; simp [results, Tryd.results25, go_sem]) rfl ⟨rfl, hB _ _ _⟩
   ·have q3 : (u.size : Int) ≤ (a : Int) := by omega
    have N3 := Lib.hid (sbK_no h3)
    go_wp2
    refine bodyPost_ret (v := .agg #[.int .i64 K, .int .u8 (sbK s a), .int .i64 (ns.getD a 0), .int .i64 (sbK u a), .bool B]) (by rw [N2.out, N1.out, N3.out]; simp [results, Tryd.results25, go_sem]) rfl ⟨rfl, hB _ _ _⟩
  ·have q2 : (s.size : Int) ≤ (a : Int) := by omega
   have N2 := Lib.hid (sbK_no h2)
   by_cases h3 : a < u.size
   ·have q3 : (a : Int) < (u.size : Int) := by omega
    have N3 := Lib.hid (sbK_yes h3)
    have hd := (u[a]'h3).toNat_lt
    have wd : wrap64 ((u[a]'h3).toNat : Int) = ((u[a]'h3).toNat : Int) := by unfold wrap64; omega
    go_wp2
    refine bodyPost_ret (v := .agg #[.int .i64 K, .int .u8 (sbK s a), .int .i64 (ns.getD a 0), .int .i64 (sbK u a), .bool B]) (by rw [N2.out, N1.out, N3.out]; simp [results, Tryd.results25, go_sem]) rfl ⟨rfl, hB _ _ _⟩
   ·have q3 : (u.size : Int) ≤ (a : Int) := by omega
    have N3 := Lib.hid (sbK_no h3)
    go_wp2
    refine bodyPost_ret (v := .agg #[.int .i64 K, .int .u8 (sbK s a), .int .i64 (ns.getD a 0), .int .i64 (sbK u a), .bool B]) (by rw [N2.out, N1.out, N3.out]; simp [results, Tryd.results25, go_sem]) rfl ⟨rfl, hB _ _ _⟩
 ·have q1 : (m : Int) ≤ (a : Int) := by omega
  have N1 := Lib.hid (getD_no (l := ns) (a := a) (by rw [HM.out]; exact h1))
  by_cases h2 : a < s.size
  ·have q2 : (a : Int) < (s.size : Int) := by omega
   have N2 := Lib.hid (sbK_yes h2)
   by_cases h3 : a < u.size
   ·have q3 : (a : Int) < (u.size : Int) := by omega
    have N3 := Lib.hid (sbK_yes h3)
    have hd := (u[a]'h3).toNat_lt
    have wd : wrap64 ((u[a]'h3).toNat : Int) = ((u[a]'h3).toNat : Int) := by unfold wrap64; omega
    go_wp2
    refine bodyPost_ret (v := .agg #[.int .i64 K, .int .u8 (sbK s a), .int .i64 (ns.getD a 0), .int .i64 (sbK u a), .bool B]) (by rw [N2.out, N1.out, N3.out]; simp [results, Tryd.results25, go_sem]) rfl ⟨rfl, hB _ _ _⟩
   ·have q3 : (u.size : Int) ≤ (a : Int) := by omega
    have N3 := Lib.hid (sbK_no h3)
    go_wp2
    refine bodyPost_ret (v := .agg #[.int .i64 K, .int .u8 (sbK s a), .int .i64 (ns.getD a 0), .int .i64 (sbK u a), .bool B]) (by rw [N2.out, N1.out, N3.out]; simp [results, Tryd.results25, go_sem]) rfl ⟨rfl, hB _ _ _⟩
  ·have q2 : (s.size : Int) ≤ (a : Int) := by omega
   have N2 := Lib.hid (sbK_no h2)
   by_cases h3 : a < u.size
   ·have q3 : (a : Int) < (u.size : Int) := by omega
    have N3 := Lib.hid (sbK_yes h3)
    have hd := (u[a]'h3).toNat_lt
    have wd : wrap64 ((u[a]'h3).toNat : Int) = ((u[a]'h3).toNat : Int) := by unfold wrap64; omega
    go_wp2
    refine bodyPost_ret (v := .agg #[.int .i64 K, .int .u8 (sbK s a), .int .i64 (ns.getD a 0), .int .i64 (sbK u a), .bool B]) (by rw [N2.out, N1.out, N3.out]; simp [results, Tryd.results25, go_sem]) rfl ⟨rfl, hB _ _ _⟩
   ·have q3 : (u.size : Int) ≤ (a : Int) := by omega
    have N3 := Lib.hid (sbK_no h3)
    go_wp2
    refine bodyPost_ret (v := .agg #[.int .i64 K, .int .u8 (sbK s a), .int .i64 (ns.getD a 0), .int .i64 (sbK u a), .bool B]) (by rw [N2.out, N1.out, N3.out]; simp [results, Tryd.results25, go_sem]) rfl ⟨rfl, hB _ _ _⟩
end Go.Proofs.YtdfojkbgdoiglaaDoor
namespace Go.Proofs.YtdfojkbgdoiglaaDoor
open Go.RowKit
def RowI (w : World) (B : Nat) (e : TypeId) (A : Option Addr) (p : List Int) : Prop :=
 0 < p.length → ∃ b, A = some ⟨b, 0, none⟩ ∧ b < B ∧ (∃ cur fz, w.heap[b]? = some (.cells cur e fz)) ∧ ∀ k u, (is_ p)[k]? = some u → w.cell? ⟨b, k, none⟩ = some u
theorem RowI.keep {w w' : World} {B B' : Nat} {e : TypeId} {A : Option Addr} {p : List Int} (h : RowI w B e A p) (hB : B ≤ B') (hk : ∀ k, k < B → (∃ cur fz, w.heap[k]? = some (.cells cur e fz)) → w'.heap[k]? = w.heap[k]?) : RowI w' B' e A p := fun hp => by
 obtain ⟨b, rfl, hb, ht, hc⟩ := h hp
 have hg := hk b hb ht
 exact ⟨b, rfl, by omega, by rw [hg]; exact ht, fun k u hu => (World.cell?_of_block (w := w) (a := ⟨b, k, none⟩) hg).trans (hc k u hu)⟩
theorem RowI.rd {w : World} {B : Nat} {e : TypeId} {A : Option Addr} {p : List Int} (h : RowI w B e A p) : Rd w A (is_ p) := fun hp => by
 obtain ⟨b, rfl, hb, ⟨cur, fz, ht⟩, hc⟩ := h (by rwa [is_length] at hp)
 exact ⟨b, 0, rfl, (Array.getElem?_eq_some_iff.1 ht).1, fun k u hu => by rw [Nat.zero_add]; exact hc k u hu⟩
theorem RowI.own {w : World} {base n : Nat} {e : TypeId} {v : Value} {p : List Int} (h : Own w base e 1 v n (is_ p)) : n = p.length ∧ ∃ A c, v = .slice A p.length c ∧ RowI w w.heap.size e A p := by
 have hl : n = p.length := by have := h.1; rw [is_length] at this; omega
 subst hl
 refine ⟨rfl, ?_⟩
 rcases h.2 with ⟨rfl, h0⟩ | ⟨g, cap, rfl, hb, ⟨cur, fz, hh⟩, hnc, hcm, hx, hc⟩
 ·exact ⟨none, 0, by rw [h0], fun hp => absurd hp (by omega)⟩
 ·exact ⟨_, cap, rfl, fun _ => ⟨g, rfl, (Array.getElem?_eq_some_iff.1 hh).1, ⟨cur, fz, hh⟩, hx⟩⟩
def Rows (w : World) (B : Nat) (e : TypeId) (xs : List Value) (ps : List (List Int)) : Prop :=
 xs.length = ps.length ∧ ∀ k (hk : k < ps.length), ∃ A c, xs[k]? = some (.slice A (ps[k]).length c) ∧ RowI w B e A ps[k]
theorem Rows.keep {w w' : World} {B B' : Nat} {e : TypeId} {xs : List Value} {ps : List (List Int)} (h : Rows w B e xs ps) (hB : B ≤ B') (hk : ∀ k, k < B → (∃ cur fz, w.heap[k]? = some (.cells cur e fz)) → w'.heap[k]? = w.heap[k]?) : Rows w' B' e xs ps :=
 ⟨h.1, fun k hlt => by
   obtain ⟨A, c, h1, h2⟩ := h.2 k hlt
   exact ⟨A, c, h1, h2.keep hB hk⟩⟩
theorem own_lit (w : World) (base : Nat) (e : TypeId) (g : Nat) (v : Value) (hb : base ≤ g) (h : w.heap[g]? = some (.cells #[v] e (0, 0))) : Own w base e 1 (.slice (some ⟨g, 0, none⟩) 1 1) 1 [v] := by
 refine ⟨rfl, .inr ⟨g, 1, rfl, hb, ⟨_, _, h⟩, Nat.le_refl _, by simp [maxLen], fun j u hu => ?_, fun j hj => ?_⟩⟩
 ·rw [cell_of_row w g j _ e _ h]
  simpa using hu
 ·have : j = 0 := by omega
  subst this
  rw [cell_of_row w g 0 _ e _ h]
  exact ⟨rfl, frozen_of_row w g 0 _ e h⟩
def RdPN (g : Nat) (w : World) (A : Option Addr) (ps : List (List Int)) : Prop :=
 0 < ps.length → ∃ b o, A = some ⟨b, o, none⟩ ∧ b ≠ g ∧ (∃ cur fz, w.heap[b]? = some (.cells cur 51 fz)) ∧ ∀ k (hk : k < ps.length), ∃ A' c', w.cell? ⟨b, o + k, none⟩ = some (.slice A' (ps[k]).length c') ∧
   (0 < (ps[k]).length → ∃ b' o', A' = some ⟨b', o', none⟩ ∧ b' ≠ g ∧ (∃ cur fz, w.heap[b']? = some (.cells cur 3 fz)) ∧ ∀ j u, (is_ ps[k])[j]? = some u → w.cell? ⟨b', o' + j, none⟩ = some u)
theorem RdPN.nil (g : Nat) (w : World) (A : Option Addr) : RdPN g w A [] := fun h => absurd h (by simp)
theorem RdPN.keep {g : Nat} {w w' : World} {A : Option Addr} {ps : List (List Int)} (h : RdPN g w A ps) (hbl : ∀ k, k ≠ g → (∃ cur fz, w.heap[k]? = some (.cells cur 51 fz) ∨ w.heap[k]? = some (.cells cur 3 fz)) → w'.heap[k]? = w.heap[k]?) : RdPN g w' A ps := fun hp => by
 obtain ⟨b, o, rfl, hne, ⟨cur, fz, hh⟩, hc⟩ := h hp
 have e1 := hbl b hne ⟨cur, fz, .inl hh⟩
 refine ⟨b, o, rfl, hne, ⟨cur, fz, e1.trans hh⟩, fun k hk => ?_⟩
 obtain ⟨A', c', h1, h2⟩ := hc k hk
 refine ⟨A', c', (World.cell?_of_block (w := w) (a := ⟨b, o + k, none⟩) e1).trans h1, fun hp2 => ?_⟩
 obtain ⟨b', o', rfl, hne', ⟨cur', fz', hh'⟩, hc'⟩ := h2 hp2
 have e2 := hbl b' hne' ⟨cur', fz', .inr hh'⟩
 exact ⟨b', o', rfl, hne', ⟨cur', fz', e2.trans hh'⟩, fun j u hu => (World.cell?_of_block (w := w) (a := ⟨b', o' + j, none⟩) e2).trans (hc' j u hu)⟩
theorem RdPN.grown {g : Nat} {w w' : World} {A : Option Addr} {ps : List (List Int)} (h : RdPN g w A ps) (hg : w.grownBy w' (some g)) : RdPN g w' A ps :=
 h.keep fun k hn ⟨cur, fz, hh⟩ => hg.block k (by rcases hh with hh | hh <;> exact (Array.getElem?_eq_some_iff.1 hh).1) (fun e => hn (by injection e))
theorem tag_ne {w : World} {g b : Nat} {t e : TypeId} {cs cur : Array Value} {fz : Nat × Nat} (h : Blk w g t cs) (hb : w.heap[b]? = some (.cells cur e fz)) (hne : e ≠ t) : b ≠ g := by
 rintro rfl
 unfold Blk at h
 rw [h] at hb
 injection hb with hb
 injection hb with _ h2
 exact hne h2.symm
theorem RdPN.other {g b : Nat} {w w' : World} {t : TypeId} {cs : Array Value} {A : Option Addr} {ps : List (List Int)} (h : RdPN g w A ps) (hb : Blk w b t cs) (h1 : 51 ≠ t) (h2 : 3 ≠ t) (hg : w.grownBy w' (some b)) : RdPN g w' A ps :=
 h.keep fun k _ ⟨cur, fz, hh⟩ => hg.block k (by rcases hh with hh | hh <;> exact (Array.getElem?_eq_some_iff.1 hh).1) (fun e => by
  injection e with e
  subst e
  rcases hh with hh | hh
  ·exact tag_ne hb hh h1 rfl
  ·exact tag_ne hb hh h2 rfl)
end Go.Proofs.YtdfojkbgdoiglaaDoor
