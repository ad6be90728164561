/-
  Layer 1, walked: Unhex, the program's and the document's.
-/
import Derived.Test.YtkkjahhilcjpgaaDoorG16
import Derived.Test.YtkkjahhilcjpgaaDoorG20
namespace Go.Proofs.YtkkjahhilcjpgaaDoor
open Go.RowKit
def Got (l : List UInt8) (w : World) (e : Ending) (w' : World) : Prop :=
 Below w.heap.size w w' ∧ match unhexL l with
  | some out => ∃ A c, e = .returned (.tuple #[.slice A out.length c, .bool true]) ∧ Rd w' A (bs out)
  | none => e = .returned (.tuple #[.slice none 0 0, .bool false])
theorem got_none {l : List UInt8} {w w' : World} (h : unhexL l = none) (hb : Below w.heap.size w w') : Got l w (.returned (.tuple #[.slice none 0 0, .bool false])) w' := by
 unfold Got; rw [h]; exact ⟨hb, rfl⟩
theorem got_some {l out : List UInt8} {w w' : World} {A : Option Addr} {n c : Nat} (h : unhexL l = some out) (hn : n = out.length) (hb : Below w.heap.size w w') (hr : Rd w' A (bs out)) : Got l w (.returned (.tuple #[.slice A n c, .bool true])) w' := by
 unfold Got; rw [h]; subst hn; exact ⟨hb, A, c, rfl, hr⟩
theorem byte_mk (p q : Nat) (h1 : p < 16) (h2 : q < 16) : Value.int .u8 ((p : Int) * 16 + q) = B8 (UInt8.ofNat (16 * p + q)) := by
 unfold B8
 rw [UInt8.toNat_ofNat_of_lt' (by show 16 * p + q < 256; omega)]
 congr 1
 omega
def worth (l : List UInt8) : List Value := l.map fun c => .int .u8 (xv c : Int)
theorem worth_length (l : List UInt8) : (worth l).length = l.length := by simp [worth]
theorem worth_get (l : List UInt8) (k : Nat) (h : k < l.length) : (worth l)[k]? = some (.int .u8 (xv l[k] : Int)) := by simp [worth, h]
theorem worth_snoc (l : List UInt8) (k : Nat) (h : k < l.length) : worth (l.take (k + 1)) = worth (l.take k) ++ [.int .u8 (xv l[k] : Int)] := by
 unfold worth; rw [List.take_succ_eq_append_getElem h, List.map_append]; rfl
set_option maxRecDepth 100000 in
set_option maxHeartbeats 8000000 in
theorem unhex_any (s : ByteArray) (w : World) (hs : s.size ≤ 4294967296) :
 Calls Tryd.prog 39 #[.string s] w (Got s.data.toList w) := by
 obtain ⟨i0, hi, hz0, hz1, hz2⟩ := info_parts Tryd.u8info
 by_cases hodd : s.size % 2 = 0
 ·have hodd' : (s.size : Int) % 2 = 0 := by omega
  go_enter Tryd.func39, Tryd.ntmps39
  go_wp2_with (first
   | (go_at_call 49; refine (figures_any 16 _).mono ?_; rintro e w' ⟨rfl, rfl⟩)
   | (at_make; refine wpList_make_own _ rfl _ _ 33 rfl w.heap.size 5 i0 _ 1 Tryd.underlying33 hi hz0 hz1 _ _ _ s.size rfl rfl ?c0 ?c1 ?c2 ?c3 ?_))
  case c0 => rfl
  case c1 => rw [hz2]; omega
  case c2 => simp only [maxLen]; omega
  case c3 => simp
  intro w1 hown hg
  have hX1 : w1.heap[w.heap.size]? = some (.cells #[.int .i64 16] 3 (0, 0)) := (hg.block _ (by simp) (by simp)).trans (heap_alloc_new w _)
  have hb1 : Below w.heap.size w w1 := ((Below.refl _ w).alloc (Nat.le_refl _) _).grown hg (by simp) (by simp)
  have hs1 : w.heap.size < w1.heap.size := (Array.getElem?_eq_some_iff.1 hX1).1
  clear hg
  go_wp2
  go_loopw [5] (fun v wr => ∃ k : Nat, k ≤ s.size ∧ wr.ownsRow w.heap.size 5 1 v k (worth (s.data.toList.take k)) ∧ wr.heap[w1.heap.size]? = some (.stringIter s k) ∧ wr.heap[w.heap.size]? = some (.cells #[.int .i64 16] 3 (0, 0)) ∧ Below w.heap.size w wr ∧ Hid (∀ j (hj : j < s.data.toList.length), j < k → isX s.data.toList[j] = true)) (fun _ wr => s.size - wr.iterPos w1.heap.size)
  case atStart =>
   refine ⟨0, Nat.zero_le _, hown.alloc _, World.iter_heap w1 s 0, (Below.heap_alloc w1 _ _ hs1).trans hX1, hb1.alloc (Nat.le_of_lt hs1) _, fun j _ h => absurd h (by omega)⟩
  case round =>
   obtain ⟨k, hk, hown, hit, hX, hbw, hall⟩ := hrel
   have hI1 : w1.heap.size < wr.heap.size := (Array.getElem?_eq_some_iff.1 hit).1
   by_cases hlt : k < s.size
   ·have hltl : k < s.data.toList.length := by simpa using hlt
    by_cases ha : (s[k]'hlt).toNat < 128
    ·have hnx : ∀ ty, (Instr.next (.pointer (some ⟨w1.heap.size, 0, none⟩)) true ty).run Tryd.prog wr = _ := fun ty => Lib.run_next_ascii_at wr w1.heap.size s k ty hit hlt ha
     have hown2 := own_iterAt hown hit (k + 1)
     have hit2 := Lib.iterAt_heap wr w1.heap.size s k (k + 1) hit
     have hX2 : (wr.iterAt w1.heap.size s (k + 1)).heap[w.heap.size]? = some (.cells #[.int .i64 16] 3 (0, 0)) := (Lib.iterAt_other wr _ _ s _ (by omega)).trans hX
     have hbw2 : Below w.heap.size w (wr.iterAt w1.heap.size s (k + 1)) := hbw.grown (iterAt_grown wr _ s _) hbw.size (fun g hg => by injection hg with hg; omega)
     have hxc : (wr.iterAt w1.heap.size s (k + 1)).cell? ⟨w.heap.size, 0, none⟩ = some (.int .i64 16) := by rw [cell_of_row _ _ 0 _ _ _ hX2]; rfl
     have hbs2 : w.heap.size ≤ (wr.iterAt w1.heap.size s (k + 1)).heap.size := hbw2.size
     have hc255 := (s[k]'hlt).toNat_lt
     have hI2 : w1.heap.size < (wr.iterAt w1.heap.size s (k + 1)).heap.size := by rw [Lib.iterAt_size]; exact hI1
     have hbs3 : ∀ o, w.heap.size ≤ ((wr.iterAt w1.heap.size s (k + 1)).alloc o).heap.size := fun o => Nat.le_trans hbs2 (by simp)
     have hlim : k + 1 ≤ 140737488355328 := by omega
     have one1 : ∀ x : Int, ∀ u ∈ [Value.int .u8 x], u.oneCell' = true := fun x => ints_one [x]
     cases hx : isX (s[k]'hlt) with
     | true =>
       obtain ⟨f1, f2, f3⟩ := isX_fig _ hx
       have H1 := Lib.hid f1
       have H2 := Lib.hid f2
       have HX := Lib.hid hx
       have HW := Lib.hid (show worth (s.data.toList.take (k + 1)) = worth (s.data.toList.take k) ++ [.int .u8 (xv (s[k]'hlt) : Int)] from worth_snoc s.data.toList k hltl)
       clear f1 f2 hx
       go_wp2_with (first
        | (go_at_call 57; refine (figure_any _ 16 _ _ (by omega) (by omega) (by omega) (by omega) hxc).mono ?_; rintro e w' ⟨rfl, rfl⟩; rw [H1.out, H2.out])
        | (at_builtin; refine list_own rfl (.tmp 33) (.tmp 36) 33 rfl w.heap.size 5 i0 _ Tryd.underlying33 hi hz0 hz1 hz2 rfl u5 k _ rfl (hown2.alloc _) _ 1 1 _ rfl rfl (lit_cells _ _ _) (one1 _) hlim (hbs3 _) ?_; intro v' w' hown' hg'))
       have hbv : Below w.heap.size w w' := (hbw2.alloc hbs2 _).grown hg' (hbs3 _) (fun g hg => (hown2.lt g hg).1)
       have hI3 : w'.heap[w1.heap.size]? = some (.stringIter s (k + 1)) := (hg'.block _ (by rw [World.size_alloc]; omega) (fun e => own_no_iter hown2 hit2 e.symm)).trans ((Below.heap_alloc _ _ _ hI2).trans hit2)
       have hX3 : w'.heap[w.heap.size]? = some (.cells #[.int .i64 16] 3 (0, 0)) := (hg'.block _ (by rw [World.size_alloc]; omega) (fun e => own_no_cells hown2 hX2 (by decide) e.symm)).trans ((Below.heap_alloc _ _ _ (by omega)).trans hX2)
       clear hg'
       rw [← HW.out] at hown'
       go_wp2
       go_roundw
       case rel =>
        refine ⟨k + 1, by omega, hown', hI3, hX3, hbv, ?_⟩
        intro j h hj
        by_cases e : j = k
        ·subst e; exact HX.out
        ·exact hall.out j h (by omega)
       case measure =>
        simp only [World.iterPos, hI3, hit]
        omega
     | false =>
       have H1 := Lib.hid (isX_not _ hx)
       have HE := Lib.hid (unhexL_none_of s.data.toList k hltl hx)
       clear hx
       go_wp2_with (first
        | (go_at_call 57; refine (figure_any _ 16 _ _ (by omega) (by omega) (by omega) (by omega) hxc).mono ?_; rintro e w' ⟨rfl, rfl⟩; rw [H1.out]))
       go_ret2
       exact got_none HE.out hbw2
    ·have hnx : ∀ ty, (Instr.next (.pointer (some ⟨w1.heap.size, 0, none⟩)) true ty).run Tryd.prog wr = _ := fun ty => Lib.run_next_any_at wr w1.heap.size s k ty hit hlt
     obtain ⟨hh1, hh2⟩ := decode_high s k hlt (by omega)
     have hh3 := decode_le s k
     have hX2 : (wr.iterAt w1.heap.size s (k + (Utf8.decode s k).2)).heap[w.heap.size]? = some (.cells #[.int .i64 16] 3 (0, 0)) := (Lib.iterAt_other wr _ _ s _ (by omega)).trans hX
     have hbw2 : Below w.heap.size w (wr.iterAt w1.heap.size s (k + (Utf8.decode s k).2)) := hbw.grown (iterAt_grown wr _ s _) hbw.size (fun g hg => by injection hg with hg; omega)
     have hxc : (wr.iterAt w1.heap.size s (k + (Utf8.decode s k).2)).cell? ⟨w.heap.size, 0, none⟩ = some (.int .i64 16) := by rw [cell_of_row _ _ 0 _ _ _ hX2]; rfl
     have hx : isX (s[k]'hlt) = false := by
      cases hx : isX (s[k]'hlt) with
      | false => rfl
      | true => have := isX_low _ hx; omega
     have H1 := Lib.hid (figB_high ((Utf8.decode s k).1 : Int) (by omega))
     have HE := Lib.hid (unhexL_none_of s.data.toList k hltl hx)
     clear hx
     go_wp2_with (first
      | (go_at_call 57; refine (figure_any _ 16 _ _ (by omega) (by omega) (by omega) (by omega) hxc).mono ?_; rintro e w' ⟨rfl, rfl⟩; rw [H1.out]))
     go_ret2
     exact got_none HE.out hbw2
   ·have hnx : ∀ ty, (Instr.next (.pointer (some ⟨w1.heap.size, 0, none⟩)) true ty).run Tryd.prog wr = _ := fun ty => Lib.run_next_end_at wr w1.heap.size s k ty hit hlt
    obtain rfl : k = s.size := by omega
    obtain ⟨A', c', rfl, hrd⟩ := own_form hown
    have HP := Lib.hid (unhexL_all s.data.toList hodd fun j hj => hall.out j hj (by simpa using hj))
    go_wp2_with (first
     | (at_make; refine wpList_make_full _ rfl _ _ 33 rfl wr.heap.size 5 i0 _ 1 Tryd.underlying33 hi hz0 hz1 _ _ _ _ (s.size / 2) rfl rfl ?d0 ?d1 ?d2 ?d3 ?d4 ?_))
    case d0 => omega
    case d1 => omega
    case d2 => rw [hz2]; omega
    case d3 => simp only [maxLen]; omega
    case d4 => exact Nat.le_refl _
    intro w2 hown2 hg2
    have hb2 : Below wr.heap.size wr w2 := (Below.refl _ _).grown hg2 (Nat.le_refl _) (by simp)
    clear hg2
    have hlen : s.data.toList.length = s.size := Array.length_toList
    have HT := Lib.hid (show s.data.toList.take s.size = s.data.toList from List.take_of_length_le (by omega))
    have hxs := hall.out
    clear hlen
    obtain ⟨wo, rfl⟩ : ∃ wo : World, wo = wr := ⟨_, rfl⟩
    go_wp2
    go_loopw [11, 44] (fun _ i wr => ∃ (i' : Nat) (xs : List Value), i' ≤ s.size / 2 ∧ i = .int .i64 i' ∧ wr.ownsRow wo.heap.size 5 1 (.slice (some ⟨wo.heap.size, 0, none⟩) (s.size / 2) (s.size / 2)) (s.size / 2) xs ∧ Below wo.heap.size wo wr ∧ Hid (∀ j, j < i' → xs[j]? = (bs (pairs s.data.toList))[j]?)) (fun _ i _ => s.size - (intOf i).toNat)
    case atStart => exact ⟨0, _, Nat.zero_le _, rfl, hown2, hb2, fun j h => absurd h (by omega)⟩
    case round =>
     obtain ⟨i, xs, hi', rfl, hown3, hb3, hdone⟩ := hrel
     by_cases hlt2 : i < s.size / 2
     ·have hcell := hrd.below hb3
      rw [HT.out] at hcell
      have hl1 : s.size ≤ s.data.toList.length := Nat.le_of_eq Array.length_toList.symm
      have hl2 : s.data.toList.length ≤ s.size := Nat.le_of_eq Array.length_toList
      obtain ⟨b, o, rfl, hb, hcl⟩ := hcell (by rw [worth_length]; omega)
      have hc1 := hcl (2 * i) (.int .u8 (xv (s.data.toList[2 * i]'(by omega)) : Int)) (worth_get _ _ _)
      have hc2 := hcl (2 * i + 1) (.int .u8 (xv (s.data.toList[2 * i + 1]'(by omega)) : Int)) (worth_get _ _ _)
      have f1 := (isX_fig _ (hxs (2 * i) (by omega) (by omega))).2.2
      have f2 := (isX_fig _ (hxs (2 * i + 1) (by omega) (by omega))).2.2
      have HG := Lib.hid (pairs_get s.data.toList i (by omega))
      have hd1 := hown3.cellAt i (by omega)
      have hd2 := hown3.frozenAt i
      have hd3 : i < xs.length := by have := hown3.1; omega
      rw [List.getElem?_eq_getElem hd3] at hd1
      obtain ⟨p, hp⟩ : ∃ p : Nat, xv (s.data.toList[2 * i]'(by omega)) = p := ⟨_, rfl⟩
      obtain ⟨q, hq⟩ : ∃ q : Nat, xv (s.data.toList[2 * i + 1]'(by omega)) = q := ⟨_, rfl⟩
      have HP2 := Lib.hid hp
      have HQ2 := Lib.hid hq
      rw [hp] at hc1 f1
      rw [hq] at hc2 f2
      clear hp hq hcl hcell
      have e1 : IntKind.i64.wrap (2 * (i : Int)) = 2 * (i : Int) := IntWalk.i64_in _ (by omega)
      have e2 : IntKind.i64.wrap (2 * (i : Int) + 1) = 2 * (i : Int) + 1 := IntWalk.i64_in _ (by omega)
      have e3 : (2 * (i : Int)).toNat = 2 * i := by omega
      have e4 : (2 * (i : Int) + 1).toNat = 2 * i + 1 := by omega
      have g1 : (0 : Int) ≤ 2 * (i : Int) := by omega
      have g2 : 2 * (i : Int) < (s.size : Int) := by omega
      have g3 : (0 : Int) ≤ 2 * (i : Int) + 1 := by omega
      have g4 : 2 * (i : Int) + 1 < (s.size : Int) := by omega
      have g5 : (i : Int) < (s.size : Int) / 2 := by omega
      go_wp2_with fail
      go_region
      clear e1 e2 e3 e4
      go_wp2
      go_roundw
      case rel =>
       refine ⟨i + 1, _, by omega, by go_num, own_drew (hown3.stored i _).1, (hb3.setCell (p := ⟨wo.heap.size, i, none⟩) (Nat.le_refl _) _).drew, fun j hj => ?_⟩
       by_cases e : j = i
       ·subst e
        rw [List.getElem?_set_self hd3, bs, List.getElem?_map, HG.out, HP2.out, HQ2.out, bits_join .u8 8 (by decide) wraps_u8 4 _ _ (by omega) (by omega) (by omega) (by omega) (by omega) (by omega)]
        exact congrArg some (byte_mk p q f1 f2)
       ·rw [List.getElem?_set_ne (fun h => e h.symm)]
        exact hdone.out j (by omega)
      case measure => simp [intOf]; omega
     ·have hx : xs = bs (pairs s.data.toList) := by
       have hl1 := hown3.1
       have hl2 : s.data.toList.length = s.size := Array.length_toList
       refine List.ext_getElem? fun j => ?_
       by_cases hj : j < i
       ·exact hdone.out j hj
       ·rw [List.getElem?_eq_none (by omega), List.getElem?_eq_none (by rw [bs_length, pairs_length]; omega)]
      subst hx
      have HL := Lib.hid (show s.size / 2 = (pairs s.data.toList).length by rw [pairs_length, Array.length_toList]; rfl)
      go_wp2
      go_ret2
      exact got_some HP.out HL.out (hbw.trans (hb3.mono hbw.size)) (Rd.own hown3)
 ·have hodd' : ¬ (s.size : Int) % 2 = 0 := by omega
  have HE := Lib.hid (unhexL_odd s.data.toList hodd)
  go_enter Tryd.func39, Tryd.ntmps39
  go_wp2_with fail
  go_ret2
  exact got_none HE.out (Below.refl _ _)
end Go.Proofs.YtkkjahhilcjpgaaDoor
