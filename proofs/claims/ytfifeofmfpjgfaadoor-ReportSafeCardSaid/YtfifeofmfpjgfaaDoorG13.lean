/-
  Rows of numbers, and rows of them, of the call's own. (For all layers; no function of any dump.) Layer 3, walked: the document's May.
-/
import Derived.Test.YtfifeofmfpjgfaaDoorG03
import Derived.Test.YtfifeofmfpjgfaaDoorG08
import Derived.Test.YtfifeofmfpjgfaaDoorG11
import Derived.Deep.Cut
namespace Go.Proofs.YtfifeofmfpjgfaaDoor
open Go.RowKit
def RowI (w : World) (B : Nat) (e : TypeId) (A : Option Addr) (p : List Int) : Prop :=
 0 < p.length → ∃ b, A = some ⟨b, 0, none⟩ ∧ b < B ∧ (∃ cur fz, w.heap[b]? = some (.cells cur e fz)) ∧ ∀ k u, (is_ p)[k]? = some u → w.cell? ⟨b, k, none⟩ = some u
theorem RowI.keep {w w' : World} {B B' : Nat} {e : TypeId} {A : Option Addr} {p : List Int} (h : RowI w B e A p) (hB : B ≤ B') (hk : ∀ k, k < B → (∃ cur fz, w.heap[k]? = some (.cells cur e fz)) → w'.heap[k]? = w.heap[k]?) : RowI w' B' e A p := fun hp => by
 obtain ⟨b, rfl, hb, ht, hc⟩ := h hp
 have hg := hk b hb ht
 exact ⟨b, rfl, by omega, by rw [hg]; exact ht, fun k u hu => (World.cell?_of_block (w := w) (a := ⟨b, k, none⟩) hg).trans (hc k u hu)⟩
theorem RowI.rd {w : World} {B : Nat} {e : TypeId} {A : Option Addr} {p : List Int} (h : RowI w B e A p) : Rd w A (is_ p) := fun hp => by
 obtain ⟨b, rfl, hb, ⟨cur, fz, ht⟩, hc⟩ := h (by rwa [is_length] at hp)
 exact ⟨b, 0, rfl, (Array.getElem?_eq_some_iff.1 ht).1, fun k u hu => by rw [Nat.zero_add]; exact hc k u hu⟩
theorem RowI.own {w : World} {base n : Nat} {e : TypeId} {v : Value} {p : List Int} (h : Own w base e 1 v n (is_ p)) : n = p.length ∧ ∃ A c, v = .slice A p.length c ∧ RowI w w.heap.size e A p := by
 have hl : n = p.length := by have := h.1; rw [is_length] at this; omega
 subst hl
 refine ⟨rfl, ?_⟩
 rcases h.2 with ⟨rfl, h0⟩ | ⟨g, cap, rfl, hb, ⟨cur, fz, hh⟩, hnc, hcm, hx, hc⟩
 ·exact ⟨none, 0, by rw [h0], fun hp => absurd hp (by omega)⟩
 ·exact ⟨_, cap, rfl, fun _ => ⟨g, rfl, (Array.getElem?_eq_some_iff.1 hh).1, ⟨cur, fz, hh⟩, hx⟩⟩
def Rows (w : World) (B : Nat) (e : TypeId) (xs : List Value) (ps : List (List Int)) : Prop :=
 xs.length = ps.length ∧ ∀ k (hk : k < ps.length), ∃ A c, xs[k]? = some (.slice A (ps[k]).length c) ∧ RowI w B e A ps[k]
theorem Rows.keep {w w' : World} {B B' : Nat} {e : TypeId} {xs : List Value} {ps : List (List Int)} (h : Rows w B e xs ps) (hB : B ≤ B') (hk : ∀ k, k < B → (∃ cur fz, w.heap[k]? = some (.cells cur e fz)) → w'.heap[k]? = w.heap[k]?) : Rows w' B' e xs ps :=
 ⟨h.1, fun k hlt => by
   obtain ⟨A, c, h1, h2⟩ := h.2 k hlt
   exact ⟨A, c, h1, h2.keep hB hk⟩⟩
theorem Rows.snoc {w : World} {B : Nat} {e : TypeId} {xs : List Value} {ps : List (List Int)} (h : Rows w B e xs ps) {A : Option Addr} {c : Nat} {p : List Int} (hp : RowI w B e A p) : Rows w B e (xs ++ [.slice A p.length c]) (ps ++ [p]) := by
 refine ⟨by simp [h.1], fun k hlt => ?_⟩
 by_cases hk : k < ps.length
 ·obtain ⟨A', c', h1, h2⟩ := h.2 k hk
  refine ⟨A', c', ?_, ?_⟩
  ·rw [List.getElem?_append_left (by rw [h.1]; exact hk), List.getElem_append_left hk]; exact h1
  ·rw [List.getElem_append_left hk]; exact h2
 ·have e : k = ps.length := by simp at hlt; omega
  subst e
  refine ⟨A, c, ?_, ?_⟩
  ·rw [List.getElem?_append_right (by rw [h.1]; exact Nat.le_refl _)]; simp [h.1]
  ·simpa using hp
theorem Rows.rdp {w : World} {B base : Nat} {e e2 : TypeId} {xs : List Value} {ps : List (List Int)} (h : Rows w B e xs ps) {v : Value} {n : Nat} (ho : Own w base e2 1 v n xs) : ∃ A c, v = .slice A ps.length c ∧ RdP w A ps := by
 obtain ⟨A, c, rfl, hr⟩ := ho.form
 have hn : n = ps.length := by have := ho.1; rw [h.1] at this; omega
 subst hn
 refine ⟨A, c, rfl, fun hp => ?_⟩
 obtain ⟨b, o, rfl, hb, hc⟩ := hr (by rw [h.1]; exact hp)
 refine ⟨b, o, rfl, hb, fun k hk => ?_⟩
 obtain ⟨A', c', h1, h2⟩ := h.2 k hk
 exact ⟨A', c', hc k _ h1, h2.rd⟩
theorem keep_out {w w' : World} {base B n : Nat} {e e2 : TypeId} {v : Value} {xs : List Value} (ho : Own w base e2 1 v n xs) (hne : e2 ≠ e) (hg : w.grownBy w' v.ownBlock) : ∀ k, k < B → (∃ cur fz, w.heap[k]? = some (.cells cur e fz)) → w'.heap[k]? = w.heap[k]? :=
 fun k _ ⟨_, _, hh⟩ => hg.block k (Array.getElem?_eq_some_iff.1 hh).1 (ho.no_cells hh hne).symm
theorem sl_one (A : Option Addr) (n c : Nat) : ∀ u ∈ [Value.slice A n c], u.oneCell' = true := fun u hu => by
 rw [List.mem_singleton] at hu; subst hu; rfl
theorem own_row {w : World} {base n : Nat} {e : TypeId} {v : Value} {p : List Int} (h : Own w base e 1 v n (is_ p)) : n = p.length ∧ ∃ A c, v = .slice A n c ∧ RowI w w.heap.size e A p := by
 obtain ⟨hn, A, c, hv, hr⟩ := RowI.own h
 exact ⟨hn, A, c, by rw [hn]; exact hv, hr⟩
theorem Rows.snoc2 {w : World} {B n : Nat} {e : TypeId} {xs : List Value} {ps : List (List Int)} (h : Rows w B e xs ps) {A : Option Addr} {c : Nat} {p : List Int} (hn : n = p.length) (hp : RowI w B e A p) : Rows w B e (xs ++ [.slice A n c]) (ps ++ [p]) := by
 subst hn
 exact h.snoc hp
theorem own_lit (w : World) (base : Nat) (e : TypeId) (g : Nat) (v : Value) (hb : base ≤ g) (h : w.heap[g]? = some (.cells #[v] e (0, 0))) : Own w base e 1 (.slice (some ⟨g, 0, none⟩) 1 1) 1 [v] := by
 refine ⟨rfl, .inr ⟨g, 1, rfl, hb, ⟨_, _, h⟩, Nat.le_refl _, by simp [maxLen], fun j u hu => ?_, fun j hj => ?_⟩⟩
 ·rw [cell_of_row w g j _ e _ h]
  simpa using hu
 ·have : j = 0 := by omega
  subst this
  rw [cell_of_row w g 0 _ e _ h]
  exact ⟨rfl, frozen_of_row w g 0 _ e h⟩
def RdPN (g : Nat) (w : World) (A : Option Addr) (ps : List (List Int)) : Prop :=
 0 < ps.length → ∃ b o, A = some ⟨b, o, none⟩ ∧ b ≠ g ∧ (∃ cur fz, w.heap[b]? = some (.cells cur 52 fz)) ∧ ∀ k (hk : k < ps.length), ∃ A' c', w.cell? ⟨b, o + k, none⟩ = some (.slice A' (ps[k]).length c') ∧
   (0 < (ps[k]).length → ∃ b' o', A' = some ⟨b', o', none⟩ ∧ b' ≠ g ∧ (∃ cur fz, w.heap[b']? = some (.cells cur 3 fz)) ∧ ∀ j u, (is_ ps[k])[j]? = some u → w.cell? ⟨b', o' + j, none⟩ = some u)
theorem RdPN.nil (g : Nat) (w : World) (A : Option Addr) : RdPN g w A [] := fun h => absurd h (by simp)
theorem RdPN.rdp {g : Nat} {w : World} {A : Option Addr} {ps : List (List Int)} (h : RdPN g w A ps) : RdP w A ps := fun hp => by
 obtain ⟨b, o, rfl, _, ⟨cur, fz, hh⟩, hc⟩ := h hp
 refine ⟨b, o, rfl, (Array.getElem?_eq_some_iff.1 hh).1, fun k hk => ?_⟩
 obtain ⟨A', c', h1, h2⟩ := hc k hk
 refine ⟨A', c', h1, fun hp2 => ?_⟩
 obtain ⟨b', o', rfl, _, ⟨cur', fz', hh'⟩, hc'⟩ := h2 (by rwa [is_length] at hp2)
 exact ⟨b', o', rfl, (Array.getElem?_eq_some_iff.1 hh').1, hc'⟩
theorem RdPN.keep {g : Nat} {w w' : World} {A : Option Addr} {ps : List (List Int)} (h : RdPN g w A ps) (hbl : ∀ k, k ≠ g → (∃ cur fz, w.heap[k]? = some (.cells cur 52 fz) ∨ w.heap[k]? = some (.cells cur 3 fz)) → w'.heap[k]? = w.heap[k]?) : RdPN g w' A ps := fun hp => by
 obtain ⟨b, o, rfl, hne, ⟨cur, fz, hh⟩, hc⟩ := h hp
 have e1 := hbl b hne ⟨cur, fz, .inl hh⟩
 refine ⟨b, o, rfl, hne, ⟨cur, fz, e1.trans hh⟩, fun k hk => ?_⟩
 obtain ⟨A', c', h1, h2⟩ := hc k hk
 refine ⟨A', c', (World.cell?_of_block (w := w) (a := ⟨b, o + k, none⟩) e1).trans h1, fun hp2 => ?_⟩
 obtain ⟨b', o', rfl, hne', ⟨cur', fz', hh'⟩, hc'⟩ := h2 hp2
 have e2 := hbl b' hne' ⟨cur', fz', .inr hh'⟩
 exact ⟨b', o', rfl, hne', ⟨cur', fz', e2.trans hh'⟩, fun j u hu => (World.cell?_of_block (w := w) (a := ⟨b', o' + j, none⟩) e2).trans (hc' j u hu)⟩
theorem RdPN.grown {g : Nat} {w w' : World} {A : Option Addr} {ps : List (List Int)} (h : RdPN g w A ps) (hg : w.grownBy w' (some g)) : RdPN g w' A ps :=
 h.keep fun k hn ⟨cur, fz, hh⟩ => hg.block k (by rcases hh with hh | hh <;> exact (Array.getElem?_eq_some_iff.1 hh).1) (fun e => hn (by injection e))
theorem tag_ne {w : World} {g b : Nat} {t e : TypeId} {cs cur : Array Value} {fz : Nat × Nat} (h : Blk w g t cs) (hb : w.heap[b]? = some (.cells cur e fz)) (hne : e ≠ t) : b ≠ g := by
 rintro rfl
 unfold Blk at h
 rw [h] at hb
 injection hb with hb
 injection hb with _ h2
 exact hne h2.symm
theorem RdPN.other {g b : Nat} {w w' : World} {t : TypeId} {cs : Array Value} {A : Option Addr} {ps : List (List Int)} (h : RdPN g w A ps) (hb : Blk w b t cs) (h1 : 52 ≠ t) (h2 : 3 ≠ t) (hg : w.grownBy w' (some b)) : RdPN g w' A ps :=
 h.keep fun k _ ⟨cur, fz, hh⟩ => hg.block k (by rcases hh with hh | hh <;> exact (Array.getElem?_eq_some_iff.1 hh).1) (fun e => by
  injection e with e
  subst e
  rcases hh with hh | hh
  ·exact tag_ne hb hh h1 rfl
  ·exact tag_ne hb hh h2 rfl)
theorem Rows.rdpn {w : World} {B base g : Nat} {t : TypeId} {cs : Array Value} {xs : List Value} {ps : List (List Int)} (h : Rows w B 3 xs ps) {v : Value} {n : Nat} (ho : Own w base 52 1 v n xs) (hg : Blk w g t cs) (h1 : 3 ≠ t) (h2 : 52 ≠ t) : ∃ A c, v = .slice A n c ∧ RdPN g w A ps := by
 have hn : n = ps.length := by have := ho.1; rw [h.1] at this; omega
 subst hn
 rcases ho.2 with ⟨rfl, h0⟩ | ⟨b, cap, rfl, hb, ⟨cur, fz, hh⟩, hnc, hcm, hx, hc⟩
 ·exact ⟨Option.none, 0, by rw [h0], fun hp => absurd hp (by omega)⟩
 ·refine ⟨_, cap, rfl, fun hp => ⟨b, 0, rfl, tag_ne hg hh h2, ⟨cur, fz, hh⟩, fun k hk => ?_⟩⟩
  obtain ⟨A', c', h3, h4⟩ := h.2 k hk
  refine ⟨A', c', by rw [Nat.zero_add]; exact hx k _ h3, fun hp2 => ?_⟩
  obtain ⟨b', rfl, hb', ⟨cur', fz', hh'⟩, hc'⟩ := h4 hp2
  exact ⟨b', 0, rfl, tag_ne hg hh' h1, ⟨cur', fz', hh'⟩, fun j u hu => by rw [Nat.zero_add]; exact hc' j u hu⟩
theorem below_set6 {B : Nat} {a w : World} (h : Below B a w) {b : Nat} (hb : B ≤ b) (x0 x1 x2 x3 x4 x5 : Value) : Below B a ((((((w.setCell ⟨b, 0, none⟩ x0).setCell ⟨b, 1, none⟩ x1).setCell ⟨b, 2, none⟩ x2).setCell ⟨b, 3, none⟩ x3).setCell ⟨b, 4, none⟩ x4).setCell ⟨b, 5, none⟩ x5) :=
 (((((h.setCell (p := ⟨b, 0, none⟩) hb x0).setCell (p := ⟨b, 1, none⟩) hb x1).setCell (p := ⟨b, 2, none⟩) hb x2).setCell (p := ⟨b, 3, none⟩) hb x3).setCell (p := ⟨b, 4, none⟩) hb x4).setCell (p := ⟨b, 5, none⟩) hb x5
theorem grown_set6 (w : World) (b : Nat) (x0 x1 x2 x3 x4 x5 : Value) : w.grownBy ((((((w.setCell ⟨b, 0, none⟩ x0).setCell ⟨b, 1, none⟩ x1).setCell ⟨b, 2, none⟩ x2).setCell ⟨b, 3, none⟩ x3).setCell ⟨b, 4, none⟩ x4).setCell ⟨b, 5, none⟩ x5) (some b) :=
 grown_trans (grown_trans (grown_trans (grown_trans (grown_trans (grown_setCell b 0 x0 w) (grown_setCell b 1 x1 _)) (grown_setCell b 2 x2 _)) (grown_setCell b 3 x3 _)) (grown_setCell b 4 x4 _)) (grown_setCell b 5 x5 _)
set_option maxRecDepth 100000 in
set_option maxHeartbeats 8000000 in
theorem may_wide (s : Sq) (A : Option Addr) (c : Nat) (m : Int) (w : World) (hm : mayS s = m) (hp : s.params.length ≤ 4294967296) (hi : s.inter.length ≤ 9223372036854775807) (hr : RdP w A s.params) :
 Calls Tryd.prog 25 #[sqV s A c] w fun e w' => e = .returned (.int .i64 m) ∧ Below w.heap.size w w' := by
 by_cases hd : 4096 < s.data.length
 ·obtain rfl : 4 = m := (may_4 hd).symm.trans hm
  clear hm
  unfold sqV
  go_enter Tryd.func25, Tryd.ntmps25
  go_wp2_with fail
  go_ret
  exact ⟨rfl, (Below.refl _ _).alloc (Nat.le_refl _) _⟩
 ·have hd4 : s.data.length ≤ 4096 := by omega
  clear hd
  have hB : Below w.heap.size w (w.alloc (.cells #[.int .i64 s.kind, .int .u8 (s.priv.toNat : Int), .slice A s.params.length c, .string ⟨s.inter.toArray⟩, .int .u8 (s.final.toNat : Int), .string ⟨s.data.toArray⟩] 30)) := (Below.refl _ _).alloc (Nat.le_refl _) _
  cases h1 : privOk s.priv with
  | false =>
    obtain rfl : 1 = m := (may_1 hd4 (by unfold okS; rw [h1]; rfl)).symm.trans hm
    clear hm
    simp only [privOk, Bool.or_eq_false_iff, decide_eq_false_iff_not] at h1
    obtain ⟨p0, p1⟩ := h1
    have p2 := (btw_no _ _ _).1 p1
    have hn : s.priv.toNat ≠ 0 := fun e => p0 (UInt8.toNat_inj.1 e)
    have t1 : ((s.priv.toNat : Int) == 0) = false := beq_false_of_ne (by omega)
    have t2 : ((s.priv.toNat : Int) != 0) = true := by simp [bne, t1]
    clear p0 p1
    by_cases p3 : s.priv.toNat < 60
    all_goals
     unfold sqV
     go_enter Tryd.func25, Tryd.ntmps25
     go_wp2_with fail
     go_ret
     exact ⟨rfl, hB⟩
  | true =>
    have V1 := Lib.hid h1
    have key : ((s.priv.toNat : Int) == 0) = true ∧ ((s.priv.toNat : Int) != 0) = false ∨ ((s.priv.toNat : Int) == 0) = false ∧ ((s.priv.toNat : Int) != 0) = true ∧ 60 ≤ s.priv.toNat ∧ s.priv.toNat ≤ 63 := by
     simp only [privOk, Bool.or_eq_true, decide_eq_true_eq] at h1
     rcases h1 with h1 | h1
     ·left; rw [h1]; exact ⟨rfl, rfl⟩
     ·right
      have := (btw_iff _ _ _).1 h1
      have t1 : ((s.priv.toNat : Int) == 0) = false := beq_false_of_ne (by omega)
      exact ⟨t1, by simp [bne, t1], this⟩
    clear h1
    rcases key with ⟨t1, t2⟩ | ⟨t1, t2, p1, p2⟩
    all_goals
     cases h2 : parOk s.params with
     | false =>
       have V2 := Lib.hid h2
       clear h2
       obtain rfl : 1 = m := (may_1 hd4 (by simp [okS, V1.out, V2.out])).symm.trans hm
       clear hm
       unfold sqV
       go_enter Tryd.func25, Tryd.ntmps25
       go_wp2_with fail
       refine (params_any A c s.params false _ V2.out hp (hr.below hB)).mono ?_
       rintro e w1 ⟨rfl, rfl⟩
       go_wp2_with fail
       go_ret
       exact ⟨rfl, hB⟩
     | true =>
       have V2 := Lib.hid h2
       clear h2
       by_cases h3 : 2 < s.inter.length
       ·have V3 := Lib.hid (show ¬ s.inter.length ≤ 2 by omega)
        obtain rfl : 1 = m := (may_1 hd4 (by simp [okS, V1.out, V2.out, V3.out])).symm.trans hm
        clear hm
        unfold sqV
        go_enter Tryd.func25, Tryd.ntmps25
        go_wp2_with fail
        refine (params_any A c s.params true _ V2.out hp (hr.below hB)).mono ?_
        rintro e w1 ⟨rfl, rfl⟩
        go_wp2_with fail
        go_ret
        exact ⟨rfl, hB⟩
       ·have h3 : s.inter.length ≤ 2 := by omega
        have V3 := Lib.hid h3
        cases h4 : s.inter.all (btw 32 47) with
        | false =>
          have V4 := Lib.hid h4
          clear h4
          obtain rfl : 1 = m := (may_1 hd4 (by simp [okS, V1.out, V2.out, V3.out, V4.out])).symm.trans hm
          clear hm
          unfold sqV
          go_enter Tryd.func25, Tryd.ntmps25
          go_wp2_with fail
          refine (params_any A c s.params true _ V2.out hp (hr.below hB)).mono ?_
          rintro e w1 ⟨rfl, rfl⟩
          go_wp2_with fail
          refine (within_any s.inter 32 47 false _ (by omega) V4.out).mono ?_
          rintro e w1 ⟨rfl, rfl⟩
          go_wp2_with fail
          go_ret
          exact ⟨rfl, hB⟩
        | true =>
          have V4 := Lib.hid h4
          clear h4
          cases h5 : s.data.all (btw 32 126) with
          | false =>
            have V5 := Lib.hid h5
            clear h5
            obtain rfl : 1 = m := (may_1 hd4 (by simp [okS, V1.out, V2.out, V3.out, V4.out, V5.out])).symm.trans hm
            clear hm
            unfold sqV
            go_enter Tryd.func25, Tryd.ntmps25
            go_wp2_with fail
            refine (params_any A c s.params true _ V2.out hp (hr.below hB)).mono ?_
            rintro e w1 ⟨rfl, rfl⟩
            go_wp2_with fail
            refine (within_any s.inter 32 47 true _ (by omega) V4.out).mono ?_
            rintro e w1 ⟨rfl, rfl⟩
            go_wp2_with fail
            refine (within_any s.data 32 126 false _ (by omega) V5.out).mono ?_
            rintro e w1 ⟨rfl, rfl⟩
            go_wp2_with fail
            go_ret
            exact ⟨rfl, hB⟩
          | true =>
            have V5 := Lib.hid h5
            clear h5
            cases h6 : lastOk s with
            | false =>
              have V6 := Lib.hid h6
              clear h6
              obtain rfl : 1 = m := (may_1 hd4 (by simp [okS, V1.out, V2.out, V3.out, V4.out, V5.out, V6.out])).symm.trans hm
              clear hm
              unfold sqV
              go_enter Tryd.func25, Tryd.ntmps25
              go_wp2_with fail
              refine (params_any A c s.params true _ V2.out hp (hr.below hB)).mono ?_
              rintro e w1 ⟨rfl, rfl⟩
              go_wp2_with fail
              refine (within_any s.inter 32 47 true _ (by omega) V4.out).mono ?_
              rintro e w1 ⟨rfl, rfl⟩
              go_wp2_with fail
              refine (within_any s.data 32 126 true _ (by omega) V5.out).mono ?_
              rintro e w1 ⟨rfl, rfl⟩
              go_wp2_with fail
              refine (last_any s A c false _ V6.out).mono ?_
              rintro e w2 ⟨rfl, hb2⟩
              obtain ⟨hbc, hbf⟩ := below_cells hb2
              have hb2' := hB.trans (hb2.mono hB.size)
              go_wp2_with fail
              go_ret
              exact ⟨rfl, hb2'⟩
            | true =>
              have V6 := Lib.hid h6
              clear h6
              cases h7 : bareOk s with
              | false =>
                have V7 := Lib.hid h7
                clear h7
                obtain rfl : 1 = m := (may_1 hd4 (by simp [okS, V1.out, V2.out, V3.out, V4.out, V5.out, V6.out, V7.out])).symm.trans hm
                clear hm
                unfold sqV
                go_enter Tryd.func25, Tryd.ntmps25
                go_wp2_with fail
                refine (params_any A c s.params true _ V2.out hp (hr.below hB)).mono ?_
                rintro e w1 ⟨rfl, rfl⟩
                go_wp2_with fail
                refine (within_any s.inter 32 47 true _ (by omega) V4.out).mono ?_
                rintro e w1 ⟨rfl, rfl⟩
                go_wp2_with fail
                refine (within_any s.data 32 126 true _ (by omega) V5.out).mono ?_
                rintro e w1 ⟨rfl, rfl⟩
                go_wp2_with fail
                refine (last_any s A c true _ V6.out).mono ?_
                rintro e w2 ⟨rfl, hb2⟩
                obtain ⟨hbc, hbf⟩ := below_cells hb2
                have hb2' := hB.trans (hb2.mono hB.size)
                go_wp2_with fail
                refine (bare_any s A c false _ V7.out).mono ?_
                rintro e w3 ⟨rfl, hb3⟩
                have hb3' := hb2'.trans (hb3.mono hb2'.size)
                go_wp2_with fail
                go_ret
                exact ⟨rfl, hb3'⟩
              | true =>
                have V7 := Lib.hid h7
                clear h7
                obtain rfl : 0 = m := (may_0 hd4 (by simp [okS, V1.out, V2.out, V3.out, V4.out, V5.out, V6.out, V7.out])).symm.trans hm
                clear hm
                unfold sqV
                go_enter Tryd.func25, Tryd.ntmps25
                go_wp2_with fail
                refine (params_any A c s.params true _ V2.out hp (hr.below hB)).mono ?_
                rintro e w1 ⟨rfl, rfl⟩
                go_wp2_with fail
                refine (within_any s.inter 32 47 true _ (by omega) V4.out).mono ?_
                rintro e w1 ⟨rfl, rfl⟩
                go_wp2_with fail
                refine (within_any s.data 32 126 true _ (by omega) V5.out).mono ?_
                rintro e w1 ⟨rfl, rfl⟩
                go_wp2_with fail
                refine (last_any s A c true _ V6.out).mono ?_
                rintro e w2 ⟨rfl, hb2⟩
                obtain ⟨hbc, hbf⟩ := below_cells hb2
                have hb2' := hB.trans (hb2.mono hB.size)
                go_wp2_with fail
                refine (bare_any s A c true _ V7.out).mono ?_
                rintro e w3 ⟨rfl, hb3⟩
                have hb3' := hb2'.trans (hb3.mono hb2'.size)
                go_wp2_with fail
                go_ret
                exact ⟨rfl, hb3'⟩
theorem may_any (s : Sq) (A : Option Addr) (c : Nat) (m : Int) (w : World) (hm : mayS s = m) (hp : s.params.length ≤ 4294967296) (hi : s.inter.length ≤ 4294967296) (hr : RdP w A s.params) :
 Calls Tryd.prog 25 #[sqV s A c] w fun e w' => e = .returned (.int .i64 m) ∧ Below w.heap.size w w' :=
 may_wide s A c m w hm hp (by omega) hr
end Go.Proofs.YtfifeofmfpjgfaaDoor
