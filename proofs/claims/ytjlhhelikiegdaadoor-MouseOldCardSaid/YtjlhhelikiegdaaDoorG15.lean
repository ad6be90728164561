/-
  The cells of a block of five, and of six. Numbers in figures, walked: the program's Text and Take. (For layers that don't load layer 1's own texts.)
  Cut out of FigT. Layer 3, walked: the program's join, and its parameters as a text. Numbers in figures, walked: the program's Text and Take. (For layers that don't load layer 1's own texts.) Cut out of LegV: what names no function of any dump.
-/
import Derived.Test.YtjlhhelikiegdaaDoorG01
import Derived.Test.YtjlhhelikiegdaaDoorG04
import Derived.Test.YtjlhhelikiegdaaDoorG10
import Derived.Test.YtjlhhelikiegdaaDoorG12
import Derived.Test.YtjlhhelikiegdaaDoorG13
import Derived.Test.YtjlhhelikiegdaaDoorShelf
import Derived.Deep.QuietTactic
import Derived.BigQuiet
import Derived.Lib.AppendIntMem
import Derived.Laws.OwnMore
namespace Go.Proofs.YtjlhhelikiegdaaDoor
open Go.RowKit
theorem Blk.cells5 {w : World} {g : Nat} {t : TypeId} {a b c d e : Value} (h : Blk w g t #[a, b, c, d, e]) :
 w.cell? ⟨g, 0, none⟩ = some a ∧ w.cell? ⟨g, 1, none⟩ = some b ∧ w.cell? ⟨g, 2, none⟩ = some c ∧ w.cell? ⟨g, 3, none⟩ = some d ∧ w.cell? ⟨g, 4, none⟩ = some e :=
 ⟨h.cell 0, h.cell 1, h.cell 2, h.cell 3, h.cell 4⟩
theorem Blk.cells6 {w : World} {g : Nat} {t : TypeId} {a b c d e f : Value} (h : Blk w g t #[a, b, c, d, e, f]) :
 w.cell? ⟨g, 0, none⟩ = some a ∧ w.cell? ⟨g, 1, none⟩ = some b ∧ w.cell? ⟨g, 2, none⟩ = some c ∧ w.cell? ⟨g, 3, none⟩ = some d ∧ w.cell? ⟨g, 4, none⟩ = some e ∧ w.cell? ⟨g, 5, none⟩ = some f :=
 ⟨h.cell 0, h.cell 1, h.cell 2, h.cell 3, h.cell 4, h.cell 5⟩
set_option maxHeartbeats 400000 in
theorem text_any (n : Int) (w : World) (h0 : -9223372036854775808 ≤ n) (h1 : n ≤ 9223372036854775807) (htab : Lib.TabIs Tryd.prog w "internal/strconv.uint64pow10" .u64 Lib.pow10Tab) :
 Calls Tryd.prog 64 #[.int .i64 n] w fun e w' => e = .returned (.string ⟨(textL n).toArray⟩) ∧ Below w.heap.size w w' := by
 by_cases hn : n < 0
 ·have HE := Lib.hid (show textL n = [] from if_pos hn)
  go_enter Tryd.func64, Tryd.ntmps64
  go_wp2
  go_ret
  exact ⟨ret_s HE.out.symm, Below.refl _ _⟩
 ·have HE := Lib.hid (show textL n = Lib.itoa n by unfold textL Lib.itoa; rw [if_neg hn, if_neg hn])
  go_enter Tryd.func64, Tryd.ntmps64
  go_wp2_with (go_at_call 70; refine (Tryd.strconv_Itoa n h0 h1 w htab).mono ?_; rintro e w' ⟨rfl, k, os, rfl⟩)
  go_ret
  exact ⟨ret_s HE.out.symm, below_grow (below_drewN (Below.refl _ _) k) (by simp) os⟩
def Tab (w : World) : Prop := Lib.TabIs Tryd.prog w "internal/strconv.uint64pow10" .u64 Lib.pow10Tab
theorem Tab.below {w w' : World} (h : Tab w) (hb : Below w.heap.size w w') : Tab w' := Lib.tabBelow_of_tabIs h w' hb
def ss_ (l : List (List UInt8)) : List Value := l.map fun t => .string ⟨t.toArray⟩
theorem join_cons2 (sep p q : List UInt8) (l : List (List UInt8)) : Lib.join (p :: q :: l) sep = p ++ sep ++ Lib.join (q :: l) sep := by
 simp [Lib.join, List.intercalate_cons_cons]
theorem join_part (p : List Int) : Lib.join (p.map textL) [58] = partL p := by
 match p with
 | [] => rfl
 | [n] => simp [Lib.join, partL]
 | n :: m :: p =>
   rw [List.map_cons, List.map_cons, join_cons2, ← List.map_cons, join_part (m :: p)]
   simp [partL]
theorem join_par (l : List (List Int)) : Lib.join (l.map partL) [59] = parL l := by
 match l with
 | [] => rfl
 | [n] => simp [Lib.join, parL]
 | n :: m :: p =>
   rw [List.map_cons, List.map_cons, join_cons2, ← List.map_cons, join_par (m :: p)]
   simp [parL]
set_option maxRecDepth 100000 in
set_option maxHeartbeats 4000000 in
theorem join_any (A : Option Addr) (n c : Nat) (l : List (List UInt8)) (sep T : List UInt8) (w : World) (hn : l.length = n) (hT : Lib.join l sep = T) (hl : n ≤ 4294967296) (hc : n ≤ c) (hlen : T.length ≤ 140737488355328) (hr : Rd w A (ss_ l)) :
 Calls Tryd.prog 54 #[.string ⟨sep.toArray⟩, .slice A n c] w fun e w' => e = .returned (.string ⟨T.toArray⟩) ∧ Below w.heap.size w w' := by
 have hm : (l.map fun t : List UInt8 => (⟨t.toArray⟩ : ByteArray)).map (·.data.toList) = l := by
  rw [List.map_map]
  calc l.map _ = l.map id := List.map_congr_left (fun x _ => by simp)
   _ = l := List.map_id l
 by_cases h0 : n = 0
 ·subst h0
  have e0 : l = [] := List.eq_nil_of_length_eq_zero hn
  subst e0
  obtain rfl : [] = T := hT
  go_enter Tryd.func54, Tryd.ntmps54
  go_wp2_with fail
  refine (Tryd.strings_Join_none A c _ _).mono ?_
  rintro e w1 ⟨rfl, rfl⟩
  go_wp2_with fail
  go_ret
  exact ⟨rfl, Below.refl _ _⟩
 ·obtain ⟨b, o, rfl, hb, hcc⟩ := hr (by simp [ss_]; omega)
  have HJ := Lib.hid (show Lib.join ((l.map fun t : List UInt8 => (⟨t.toArray⟩ : ByteArray)).map (·.data.toList)) (⟨sep.toArray⟩ : ByteArray).data.toList = T by rw [hm]; exact hT)
  have hcells : Hid (∀ (j : Nat) (x : ByteArray), (l.map fun t : List UInt8 => (⟨t.toArray⟩ : ByteArray))[j]? = some x → w.cell? ⟨b, o + j, none⟩ = some (.string x)) := Lib.hid fun j x hx => hcc j _ (by
   unfold ss_
   rw [List.getElem?_map] at hx ⊢
   cases hj : l[j]? with
   | none => rw [hj] at hx; cases hx
   | some t => rw [hj] at hx; simp at hx; subst hx; rfl)
  have HLn := Lib.hid (show (l.map fun t : List UInt8 => (⟨t.toArray⟩ : ByteArray)).length = n by rw [List.length_map]; exact hn)
  clear hm hcc hT hn
  have hJ := Tryd.strings_Join b o c (l.map fun t : List UInt8 => (⟨t.toArray⟩ : ByteArray)) ⟨sep.toArray⟩ w hcells.out hb (by rw [HLn.out]; omega) (by rw [HLn.out]; exact hc) (by rw [HJ.out]; exact hlen)
  rw [HJ.out, HLn.out] at hJ
  go_enter Tryd.func54, Tryd.ntmps54
  go_wp2_with fail
  refine hJ.mono ?_
  rintro e w1 ⟨rfl, hb1⟩
  go_wp2_with fail
  go_ret
  exact ⟨rfl, hb1⟩
def figV (c : Int) : Int := if 48 ≤ c ∧ c ≤ 57 then c - 48 else if 65 ≤ c ∧ c ≤ 70 then c - 55 else if 97 ≤ c ∧ c ≤ 102 then c - 87 else 99
set_option maxHeartbeats 400000 in
theorem figures_any (n : Int) (w : World) :
 Calls Tryd.prog 76 #[.int .i64 n] w fun e w' => e = .returned (.func (.func 80) #[] #[.pointer (some ⟨w.heap.size, 0, none⟩)]) ∧ w' = w.alloc (.cells #[.int .i64 n] 3) := by
 have hmf : ∀ (fn : Fn) (first cap : Array Value) (w : World), (Instr.makeFunc fn first cap).run Tryd.prog w = .ok (.func fn first cap) w := fun _ _ _ _ => rfl
 go_enter Tryd.func76, Tryd.ntmps76
 go_wp2
 go_ret
 exact ⟨rfl, rfl⟩
def figA (c n : Int) : Int := if figV c < n then figV c else 0
def figB (c n : Int) : Bool := decide (figV c < n)
set_option maxHeartbeats 1000000 in
theorem figure_any (c n : Int) (a : Addr) (w : World) (h0 : 0 ≤ c) (h1 : c ≤ 2147483647) (hn0 : 1 ≤ n) (hn1 : n ≤ 36) (hc : w.cell? a = some (.int .i64 n)) :
 Calls Tryd.prog 80 #[.int .i32 c, .pointer (some a)] w fun e w' =>
  e = .returned (.tuple #[.int .i64 (figA c n), .bool (figB c n)]) ∧ w' = w := by
 go_enter Tryd.func80, Tryd.ntmps80
 go_wp2
 all_goals go_ret2
 all_goals
  refine ⟨ret_ib ?_ ?_, rfl⟩
  ·unfold figA figV
   (repeat' split) <;> omega
  ·unfold figB figV
   (repeat' split) <;> first | (rw [eq_comm, decide_eq_true_eq]; omega) | (rw [eq_comm, decide_eq_false_iff_not]; omega)
def digs (l : List UInt8) : Nat := (l.takeWhile isD).length
def satk (l : List UInt8) (k : Nat) : Nat := (l.take k).foldl dstep 0
theorem take_snoc (l : List UInt8) (k : Nat) (h : k < l.length) : l.take (k + 1) = l.take k ++ [l[k]] := by
 rw [List.take_succ_eq_append_getElem h]
theorem satk_succ (l : List UInt8) (k : Nat) (h : k < l.length) : satk l (k + 1) = dstep (satk l k) l[k] := by
 unfold satk; rw [take_snoc l k h, List.foldl_append]; rfl
theorem satk_le (l : List UInt8) : ∀ k, satk l k ≤ 1114111 := by
 intro k
 unfold satk
 generalize l.take k = t
 cases ht : t.reverse with
 | nil => rw [List.reverse_eq_nil_iff] at ht; subst ht; simp
 | cons c r =>
   have : t = r.reverse ++ [c] := by rw [← List.reverse_reverse t, ht]; simp
   rw [this, List.foldl_append]
   exact dstep_le _ _
theorem takeWhile_of_all {p : UInt8 → Bool} : ∀ (l : List UInt8) (k : Nat), k ≤ l.length → (∀ j (h : j < l.length), j < k → p l[j] = true) → (∀ h : k < l.length, p l[k] = false) → l.takeWhile p = l.take k
 | [], k, hk, _, _ => by simp at hk; subst hk; rfl
 | c :: r, 0, _, _, hn => by
   have := hn (by simp)
   simp at this
   simp [this]
 | c :: r, k + 1, hk, ha, hn => by
   have h0 := ha 0 (by simp) (by omega)
   simp at h0
   rw [List.takeWhile_cons_of_pos h0, List.take_succ_cons]
   congr 1
   refine takeWhile_of_all r k (by simpa using hk) (fun j h hj => ?_) (fun h => ?_)
   ·exact ha (j + 1) (by rw [List.length_cons]; omega) (by omega)
   ·exact hn (by rw [List.length_cons]; omega)
theorem digs_at (l : List UInt8) (k : Nat) (hk : k ≤ l.length) (ha : ∀ j (h : j < l.length), j < k → isD l[j] = true) (hn : ∀ h : k < l.length, isD l[k] = false) : digs l = k ∧ satv l = satk l k := by
 unfold digs satv satk
 rw [takeWhile_of_all l k hk ha hn]
 exact ⟨by rw [List.length_take]; omega, rfl⟩
theorem fig_digit (c : UInt8) (h : isD c = true) : figB (c.toNat : Int) 10 = true ∧ figA (c.toNat : Int) 10 = (c.toNat : Int) - 48 := by
 have h' : 48 ≤ c.toNat ∧ c.toNat ≤ 57 := of_decide_eq_true h
 have hv : figV (c.toNat : Int) = (c.toNat : Int) - 48 := by unfold figV; rw [if_pos (by omega)]
 unfold figB figA
 rw [hv]
 exact ⟨decide_eq_true (by omega), if_pos (by omega)⟩
theorem fig_other (c : UInt8) (h : isD c = false) : figB (c.toNat : Int) 10 = false := by
 have h' : ¬ (48 ≤ c.toNat ∧ c.toNat ≤ 57) := of_decide_eq_false h
 unfold figB
 rw [decide_eq_false_iff_not]
 unfold figV
 rw [if_neg (by omega)]
 split
 ·omega
 ·split <;> omega
set_option maxHeartbeats 1000000 in
theorem figtake_any (A : Option Addr) (c : Nat) (l : List UInt8) (w : World) (hl : l.length ≤ 4294967296) (hr : Rd w A (bs l)) :
 Calls Tryd.prog 71 #[.slice A l.length c] w fun e w' => e = .returned (.tuple #[.int .i64 (satv l), .int .i64 (digs l)]) ∧ Below w.heap.size w w' := by
 have hr1 := hr.alloc (.cells #[.int .i64 10] 3)
 have hb1 : Below w.heap.size w (w.alloc (.cells #[.int .i64 10] 3)) := (Below.refl _ _).alloc (Nat.le_refl _) _
 have hbox : (w.alloc (.cells #[.int .i64 10] 3)).cell? ⟨w.heap.size, 0, none⟩ = some (.int .i64 10) := by
  rw [World.cell?_alloc_at _ _ _ _ rfl]; rfl
 go_enter Tryd.func71, Tryd.ntmps71
 go_wp2_with (go_at_call 76; refine (figures_any 10 _).mono ?_; rintro e w' ⟨rfl, rfl⟩)
 go_loop [5, 6, 14] (fun n u i => ∃ k : Nat, k ≤ l.length ∧ i = .int .i64 k ∧ u = .int .i64 k ∧ n = .int .i64 (satk l k) ∧ Hid (∀ j (h : j < l.length), j < k → isD l[j] = true)) (fun _ _ i => l.length - (intOf i).toNat)
 case atStart => exact ⟨0, Nat.zero_le _, rfl, rfl, rfl, fun j _ h => absurd h (by omega)⟩
 case round =>
  obtain ⟨k, hk, rfl, rfl, rfl, hall⟩ := hrel
  have hsk := satk_le l k
  by_cases hlt : k < l.length
  ·obtain ⟨b, o, rfl, hb, hcell⟩ := hr1.at_ (by omega)
   have hck := hcell k hlt
   have hlo := (l[k]).toNat_lt
   clear hcell
   cases hd : isD l[k] with
   | true =>
     obtain ⟨f1, f2⟩ := fig_digit _ hd
     have H1 := Lib.hid f1
     have H2 := Lib.hid f2
     have HS := Lib.hid (satk_succ l k hlt)
     have HD := Lib.hid hd
     have h5 : 48 ≤ (l[k]).toNat ∧ (l[k]).toNat ≤ 57 := of_decide_eq_true hd
     clear f1 f2 hd
     go_wp2_with (go_at_call 80; refine (figure_any _ 10 _ _ (by omega) (by omega) (by omega) (by omega) hbox).mono ?_; rintro e w' ⟨rfl, rfl⟩; rw [H1.out, H2.out])
     go_round
     case rel =>
      refine ⟨k + 1, by omega, by go_num, by go_num, ?_, ?_⟩
      ·rw [HS.out]
       unfold dstep
       congr 1
       first | omega | (split <;> omega)
      ·intro j h hj
       by_cases e : j = k
       ·subst e; exact HD.out
       ·exact hall.out j h (by omega)
     case measure => simp [intOf]; omega
   | false =>
     have H1 := Lib.hid (fig_other _ hd)
     have HE := Lib.hid (digs_at l k hk hall.out fun _ => hd)
     clear hd
     go_wp2_with (go_at_call 80; refine (figure_any _ 10 _ _ (by omega) (by omega) (by omega) (by omega) hbox).mono ?_; rintro e w' ⟨rfl, rfl⟩; rw [H1.out])
     go_ret2
     exact ⟨ret_ii (by rw [HE.out.2]) (by rw [HE.out.1]), hb1⟩
  ·have HE := Lib.hid (digs_at l k hk hall.out fun h => absurd h hlt)
   go_wp2
   go_ret2
   exact ⟨ret_ii (by rw [HE.out.2]) (by rw [HE.out.1]), hb1⟩
theorem take_at (A : Option Addr) (c : Nat) (l : List UInt8) (n : Nat) (w : World) (hn : l.length = n) (hl : l.length ≤ 4294967296) (hr : Rd w A (bs l)) :
 Calls Tryd.prog 71 #[.slice A n c] w fun e w' => e = .returned (.tuple #[.int .i64 (satv l), .int .i64 (digs l)]) ∧ Below w.heap.size w w' := by
 subst hn
 exact figtake_any A c l w hl hr
def notU8 : Value → Bool
 | .int .u8 _ => false
 | _ => true
theorem Rd.off_key {w : World} {A : Option Addr} {L : List UInt8} {g : Nat} {t : TypeId} {cs : Array Value} (h : Rd w A (bs L)) (hk : Blk w g t cs) (hc : cs.toList.all notU8 = true) : RdOff w (fun k => k = g) A (bs L) := fun hp => by
 obtain ⟨b, o, rfl, hb, hx⟩ := h hp
 refine ⟨b, o, rfl, hb, fun e => ?_, hx⟩
 subst e
 have h0 := hx 0 _ (List.getElem?_eq_getElem hp)
 rw [Nat.add_zero, hk.cell o] at h0
 obtain ⟨c, _, hcv⟩ := List.mem_map.1 (List.getElem_mem (l := bs L) hp)
 rw [← hcv] at h0
 have := List.all_eq_true.1 hc _ (Array.mem_def.1 (Array.mem_of_getElem? h0))
 cases this
end Go.Proofs.YtjlhhelikiegdaaDoor
