/-
  Layer 13's mathematics: what goes as text. Cut out of WirF: what names no function of any dump. Numbers in figures, walked: the program's Text and Take. (For layers that don't load layer 1's own texts.)
  Cut out of FigT. Layer 3, walked: the program's join, and its parameters as a text. Cut out of KitO: what names no function of any dump.
-/
import Derived.Test.YtdfojkbgdoiglaaDoorG01
import Derived.Test.YtdfojkbgdoiglaaDoorG03
import Derived.Test.YtdfojkbgdoiglaaDoorG07
import Derived.Test.YtdfojkbgdoiglaaDoorG09
import Derived.Test.YtdfojkbgdoiglaaDoorG14
import Derived.Test.YtdfojkbgdoiglaaDoorShelf
import Derived.Deep.QuietTactic
import Derived.BigQuiet
import Derived.Lib.AppendIntMem
import Derived.Laws.OwnMore
import Derived.Laws.BitsLemmas
namespace Go.Proofs.YtdfojkbgdoiglaaDoor
theorem byt_ne27 {n : Int} (h0 : 28 ≤ n) (h1 : n < 256) : byt n ≠ 27 := fun e => by
 have h := byt_nat n (by omega) h1
 rw [e] at h
 have : ((27 : UInt8).toNat : Int) = 27 := rfl
 omega
theorem put_head {r : Int} (h : isPt r = true) (h2 : 32 ≤ r) : ∃ b t, putL r = b :: t ∧ b ≠ 27 := by
 have hp := (isPt_iff r).1 h
 by_cases h3 : r < 128
 ·exact ⟨_, _, putL_1 h h3, byt_ne27 (by omega) (by omega)⟩
 ·by_cases h4 : r < 2048
  ·exact ⟨_, _, putL_2 h (by omega) h4, byt_ne27 (by omega) (by omega)⟩
  ·by_cases h5 : r < 65536
   ·exact ⟨_, _, putL_3 h (by omega) h5, byt_ne27 (by omega) (by omega)⟩
   ·exact ⟨_, _, putL_4 h (by omega), byt_ne27 (by omega) (by omega)⟩
theorem text_low {c : Int} (h : (lookE c).kind = 1) : 32 ≤ c ∧ keyedK c = false := by
 by_cases ho : c < 57344 ∨ 57455 ≤ c
 ·rw [look_out ho] at h
  simp only at h
  unfold restN at h
  by_cases h1 : c = 9 ∨ c = 13 ∨ c = 27 ∨ c = 127
  ·rw [if_pos h1] at h; cases h
  ·rw [if_neg h1, if_neg (by omega), if_neg (by omega)] at h
   by_cases h2 : isPtK c = false ∨ c < 32 ∨ 127 ≤ c ∧ c ≤ 159 ∨ 57344 ≤ c ∧ c ≤ 63743
   ·rw [if_pos h2] at h; cases h
   ·refine ⟨by omega, ?_⟩
    unfold keyedK
    simp only [Bool.or_eq_false_iff, beq_eq_false_iff_ne]
    omega
 ·exfalso
  obtain ⟨k, rfl⟩ : ∃ k : Fin 111, c = 57344 + k.1 := ⟨⟨(c - 57344).toNat, by omega⟩, by simp; omega⟩
  have := code_all k
  omega
theorem shown_low {k : Ky} (h : (lookE k.code).kind = 1) (hs : k.shift = 0 ∨ textK k.shift = true) : 32 ≤ shownK k ∧ isPt (shownK k) = true := by
 refine ⟨?_, by rw [shownK_eq]; exact shown_pt h hs _⟩
 have h1 := (text_low h).1
 unfold shownK
 split
 ·exact h1
 ·split
  next h2 =>
   rcases hs with hs | hs
   ·exact absurd hs h2
   ·exact (text_low (eq_of_beq hs)).1
  next =>
   split
   ·omega
   ·exact h1
theorem clean_head {s : ByteArray} (h : cleanB s = true) (hn : s.data.toList ≠ []) : ∃ b t, s.data.toList = b :: t ∧ b ≠ 27 := by
 unfold cleanB cleanL at h
 cases ho : allL s.data.toList with
 | none => rw [ho] at h; cases h
 | some ks =>
   rw [ho] at h
   have h2 : (decide (ks.length ≤ 8) && cleanP ks) = true := h
   simp only [Bool.and_eq_true, decide_eq_true_eq] at h2
   obtain ⟨g1, g2⟩ := text_all_n _ _ (Nat.le_refl _) ks ho
   cases ks with
   | nil => exact absurd g2.symm hn
   | cons r l =>
     have hr : 32 ≤ r := by
      have := List.all_eq_true.1 h2.2 r (List.mem_cons_self ..)
      simp only [Bool.not_eq_true', Bool.or_eq_false_iff, decide_eq_false_iff_not] at this
      omega
     obtain ⟨b, t, e, hb⟩ := put_head (List.all_eq_true.1 g1 r (List.mem_cons_self ..)) hr
     refine ⟨b, t ++ catL l, ?_, hb⟩
     rw [← g2]
     show (List.flatMap putL (r :: l)) = _
     rw [List.flatMap_cons, e]
     rfl
theorem flag_8 {f : Int} (h0 : 0 ≤ f) (h1 : f < 8) : flagK f 8 = false ∧ flagK (f + 8) 8 = true := by
 unfold flagK
 rw [flg_id ⟨h0, by omega⟩, flg_id ⟨by omega, by omega⟩]
 have e1 : f / 8 % 2 = 0 := by omega
 have e2 : (f + 8) / 8 % 2 = 1 := by omega
 rw [e1, e2]
 exact ⟨rfl, rfl⟩
theorem kit_text {k : Ky} (h : mayK k = true) (h1 : (lookE k.code).kind = 1) {f : Int} (f0 : 0 ≤ f) (f1 : f < 8) :
 (∃ b t, plainK { k with mods := k.mods % 2 + k.mods / 64 * 64 } = b :: t ∧ b ≠ 27) ∧ (k.text.data.toList ≠ [] → plainK { k with mods := k.mods % 2 + k.mods / 64 * 64 } = k.text.data.toList) ∧
 (∀ t, t = 1 ∨ t = 2 → kitL f { k with mods := k.mods % 2 + k.mods / 64 * 64, typ := t } = plainK { k with mods := k.mods % 2 + k.mods / 64 * 64 }) ∧
 kitL f { k with mods := k.mods % 2 + k.mods / 64 * 64, typ := 3 } = [] ∧ ∃ b l, kitL (f + 8) { k with mods := k.mods % 2 + k.mods / 64 * 64, typ := 1 } = 27 :: 91 :: b :: l := by
 obtain ⟨⟨_, m0, m1, _, _⟩, hs, _, hc⟩ := (may_parts k).1 h
 have hm : ∀ t, 1 ≤ t → t ≤ 3 → mayK { k with mods := k.mods % 2 + k.mods / 64 * 64, typ := t } = true := fun t a b => may_typ (may_mods h (n := k.mods % 2 + k.mods / 64 * 64) (by omega) (by omega)) a b
 obtain ⟨hf, hf8⟩ := flag_8 f0 f1
 have hk := (text_low h1).2
 have hpl : plainK { k with mods := k.mods % 2 + k.mods / 64 * 64 } = if k.text.data.toList ≠ [] then k.text.data.toList else putL (shownK { k with mods := k.mods % 2 + k.mods / 64 * 64 }) := by
  unfold plainK
  rw [if_neg (by rw [hk]; decide)]
 have hsh := shown_low (k := { k with mods := k.mods % 2 + k.mods / 64 * 64 }) h1 hs
 have has : ∀ t, astextK { k with mods := k.mods % 2 + k.mods / 64 * 64, typ := t } = true := fun t => by
  unfold astextK
  rw [if_pos h1]
  exact decide_eq_true (by show k.mods % 2 + k.mods / 64 * 64 - (k.mods % 2 + k.mods / 64 * 64) / 64 * 64 ≤ 1; omega)
 refine ⟨?_, ?_, ?_, ?_, ?_⟩
 ·rw [hpl]
  split
  next hn => exact clean_head hc hn
  next => exact put_head hsh.2 hsh.1
 ·intro hn
  rw [hpl, if_pos hn]
 ·intro t ht
  have hse : sentK f { k with mods := k.mods % 2 + k.mods / 64 * 64, typ := t } = true := by
   unfold sentK
   rw [if_neg (by rw [hm t (by omega) (by omega)]; decide), if_neg (fun e => by have := e.1; simp only at this; omega)]
   simp [h1]
  unfold kitL
  rw [if_neg (by rw [hse]; decide), if_pos ⟨hf, by show t ≠ 3; omega, has t⟩]
  rfl
 ·have hse : sentK f { k with mods := k.mods % 2 + k.mods / 64 * 64, typ := 3 } = false := by
   unfold sentK
   rw [if_neg (by rw [hm 3 (by decide) (by decide)]; decide), if_pos ⟨rfl, .inr ⟨hf, .inl h1⟩⟩]
  unfold kitL
  rw [if_pos hse]
 ·have hse : sentK (f + 8) { k with mods := k.mods % 2 + k.mods / 64 * 64, typ := 1 } = true := by
   unfold sentK
   rw [if_neg (by rw [hm 1 (by decide) (by decide)]; decide), if_neg (fun e => by have := e.1; simp only at this; omega)]
   simp [h1]
  unfold kitL
  rw [if_neg (by rw [hse]; decide), if_neg (by rw [hf8]; simp), putK_is _ (hm 1 (by decide) (by decide))]
  unfold putS
  rw [if_pos (show (sqK (f + 8) { k with mods := k.mods % 2 + k.mods / 64 * 64, typ := 1 }).kind = 1 from rfl)]
  cases hb : bodyL (sqK (f + 8) { k with mods := k.mods % 2 + k.mods / 64 * 64, typ := 1 }) with
  | nil => exact ⟨_, _, rfl⟩
  | cons x y => exact ⟨_, _, rfl⟩
end Go.Proofs.YtdfojkbgdoiglaaDoor
namespace Go.Proofs.YtdfojkbgdoiglaaDoor
open Go.RowKit
def WYes (T : List UInt8) (w : World) (e : Ending) (w' : World) : Prop := (∃ A c, e = .returned (.tuple #[.slice A T.length c, .int .i64 0]) ∧ T.length ≤ c ∧ Rd w' A (bs T)) ∧ Below w.heap.size w w'
theorem body_len {s : Sq} (hp : parOk s.params = true) (hi : s.inter.length ≤ 2) : (bodyL s).length ≤ 3000 := by
 obtain ⟨h1, h2⟩ := parOk_lens hp
 have h3 := parL_len s.params h2
 have h4 : (privL s.priv).length ≤ 1 := by unfold privL; split <;> simp
 unfold bodyL
 rw [List.length_append, List.length_append]
 omega
end Go.Proofs.YtdfojkbgdoiglaaDoor
namespace Go.Proofs.YtdfojkbgdoiglaaDoor
open Go.RowKit
set_option maxHeartbeats 400000 in
theorem text_any (n : Int) (w : World) (h0 : -9223372036854775808 ≤ n) (h1 : n ≤ 9223372036854775807) (htab : Lib.TabIs Tryd.prog w "internal/strconv.uint64pow10" .u64 Lib.pow10Tab) :
 Calls Tryd.prog 72 #[.int .i64 n] w fun e w' => e = .returned (.string ⟨(textL n).toArray⟩) ∧ Below w.heap.size w w' := by
 by_cases hn : n < 0
 ·have HE := Lib.hid (show textL n = [] from if_pos hn)
  go_enter Tryd.func72, Tryd.ntmps72
  go_wp2
  go_ret
  exact ⟨ret_s HE.out.symm, Below.refl _ _⟩
 ·have HE := Lib.hid (show textL n = Lib.itoa n by unfold textL Lib.itoa; rw [if_neg hn, if_neg hn])
  go_enter Tryd.func72, Tryd.ntmps72
  go_wp2_with (go_at_call 81; refine (Tryd.strconv_Itoa n h0 h1 w htab).mono ?_; rintro e w' ⟨rfl, k, os, rfl⟩)
  go_ret
  exact ⟨ret_s HE.out.symm, below_grow (below_drewN (Below.refl _ _) k) (by simp) os⟩
def Tab (w : World) : Prop := Lib.TabIs Tryd.prog w "internal/strconv.uint64pow10" .u64 Lib.pow10Tab
theorem Tab.below {w w' : World} (h : Tab w) (hb : Below w.heap.size w w') : Tab w' := Lib.tabBelow_of_tabIs h w' hb
end Go.Proofs.YtdfojkbgdoiglaaDoor
namespace Go.Proofs.YtdfojkbgdoiglaaDoor
open Go.RowKit
def ss_ (l : List (List UInt8)) : List Value := l.map fun t => .string ⟨t.toArray⟩
theorem join_cons2 (sep p q : List UInt8) (l : List (List UInt8)) : Lib.join (p :: q :: l) sep = p ++ sep ++ Lib.join (q :: l) sep := by
 simp [Lib.join, List.intercalate_cons_cons]
theorem join_part (p : List Int) : Lib.join (p.map textL) [58] = partL p := by
 match p with
 | [] => rfl
 | [n] => simp [Lib.join, partL]
 | n :: m :: p =>
   rw [List.map_cons, List.map_cons, join_cons2, ← List.map_cons, join_part (m :: p)]
   simp [partL]
theorem join_par (l : List (List Int)) : Lib.join (l.map partL) [59] = parL l := by
 match l with
 | [] => rfl
 | [n] => simp [Lib.join, parL]
 | n :: m :: p =>
   rw [List.map_cons, List.map_cons, join_cons2, ← List.map_cons, join_par (m :: p)]
   simp [parL]
set_option maxRecDepth 100000 in
set_option maxHeartbeats 4000000 in
theorem join_any (A : Option Addr) (n c : Nat) (l : List (List UInt8)) (sep T : List UInt8) (w : World) (hn : l.length = n) (hT : Lib.join l sep = T) (hl : n ≤ 4294967296) (hc : n ≤ c) (hlen : T.length ≤ 140737488355328) (hr : Rd w A (ss_ l)) :
 Calls Tryd.prog 62 #[.string ⟨sep.toArray⟩, .slice A n c] w fun e w' => e = .returned (.string ⟨T.toArray⟩) ∧ Below w.heap.size w w' := by
 have hm : (l.map fun t : List UInt8 => (⟨t.toArray⟩ : ByteArray)).map (·.data.toList) = l := by
  rw [List.map_map]
  calc l.map _ = l.map id := List.map_congr_left (fun x _ => by simp)
   _ = l := List.map_id l
 by_cases h0 : n = 0
 ·subst h0
  have e0 : l = [] := List.eq_nil_of_length_eq_zero hn
  subst e0
  obtain rfl : [] = T := hT
  go_enter Tryd.func62, Tryd.ntmps62
  go_wp2_with fail
  refine (Tryd.strings_Join_none A c _ _).mono ?_
  rintro e w1 ⟨rfl, rfl⟩
  go_wp2_with fail
  go_ret
  exact ⟨rfl, Below.refl _ _⟩
 ·obtain ⟨b, o, rfl, hb, hcc⟩ := hr (by simp [ss_]; omega)
  have HJ := Lib.hid (show Lib.join ((l.map fun t : List UInt8 => (⟨t.toArray⟩ : ByteArray)).map (·.data.toList)) (⟨sep.toArray⟩ : ByteArray).data.toList = T by rw [hm]; exact hT)
  have hcells : Hid (∀ (j : Nat) (x : ByteArray), (l.map fun t : List UInt8 => (⟨t.toArray⟩ : ByteArray))[j]? = some x → w.cell? ⟨b, o + j, none⟩ = some (.string x)) := Lib.hid fun j x hx => hcc j _ (by
   unfold ss_
   rw [List.getElem?_map] at hx ⊢
   cases hj : l[j]? with
   | none => rw [hj] at hx; cases hx
   | some t => rw [hj] at hx; simp at hx; subst hx; rfl)
  have HLn := Lib.hid (show (l.map fun t : List UInt8 => (⟨t.toArray⟩ : ByteArray)).length = n by rw [List.length_map]; exact hn)
  clear hm hcc hT hn
  have hJ := Tryd.strings_Join b o c (l.map fun t : List UInt8 => (⟨t.toArray⟩ : ByteArray)) ⟨sep.toArray⟩ w hcells.out hb (by rw [HLn.out]; omega) (by rw [HLn.out]; exact hc) (by rw [HJ.out]; exact hlen)
  rw [HJ.out, HLn.out] at hJ
  go_enter Tryd.func62, Tryd.ntmps62
  go_wp2_with fail
  refine hJ.mono ?_
  rintro e w1 ⟨rfl, hb1⟩
  go_wp2_with fail
  go_ret
  exact ⟨rfl, hb1⟩
end Go.Proofs.YtdfojkbgdoiglaaDoor
namespace Go.Proofs.YtdfojkbgdoiglaaDoor
open Go.RowKit
theorem flags11 {a : Int} (h0 : 0 ≤ a) (h1 : a < 32) : (0 ≤ bits .or .i64 a 11 ∧ bits .or .i64 a 11 < 32) ∧ flagK (bits .or .i64 a 11) 2 = true ∧ flagK (bits .or .i64 a 11) 8 = true := by
 obtain ⟨n, rfl⟩ := Int.eq_ofNat_of_zero_le h0
 have : ∀ n : Fin 32, (0 ≤ bits .or .i64 ((n.1 : Nat) : Int) 11 ∧ bits .or .i64 ((n.1 : Nat) : Int) 11 < 32) ∧ flagK (bits .or .i64 ((n.1 : Nat) : Int) 11) 2 = true ∧ flagK (bits .or .i64 ((n.1 : Nat) : Int) 11) 8 = true := by decide +kernel
 exact this ⟨n, by omega⟩
end Go.Proofs.YtdfojkbgdoiglaaDoor
