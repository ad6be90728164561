/-
  Layer 6: words for modes in memory: as a value, as a box's cells; what calls tell. Numbers in figures, walked: the program's Text and Take. (For layers that don't load layer 1's own texts.)
  Cut out of FigT. Layer 3, walked: the program's join, and its parameters as a text. Layer 3, walked: the program's parameters as a text. Numbers in figures, walked: the program's Text and Take. (For layers that don't load layer 1's own texts.) Layer 10, the landed mods: Param and Of.
-/
import Derived.Test.YtmagokkegadmiaaDoorG01
import Derived.Test.YtmagokkegadmiaaDoorG03
import Derived.Test.YtmagokkegadmiaaDoorG04
import Derived.Test.YtmagokkegadmiaaDoorG06
import Derived.Test.YtmagokkegadmiaaDoorG07
import Derived.Test.YtmagokkegadmiaaDoorG13
import Derived.Test.YtmagokkegadmiaaDoorG14
import Derived.Test.YtmagokkegadmiaaDoorG16
import Derived.BigQuiet
import Derived.Deep.QuietTactic
import Derived.Laws.StructEq
import Derived.Test.YtmagokkegadmiaaDoorShelf
import Derived.Lib.AppendIntMem
import Derived.Laws.OwnMore
namespace Go.Proofs.YtmagokkegadmiaaDoor
open Go.RowKit

section
variable {w w' : World} {g : Nat} {t : TypeId} {p0 p1 p2 p3 p4 p5 p6 p7 p8 p9 : Value}
theorem Blk.cells10 (h : Blk w g t #[p0, p1, p2, p3, p4, p5, p6, p7, p8, p9]) :
    w.cell? ⟨g, 0, none⟩ = some p0 ∧ w.cell? ⟨g, 1, none⟩ = some p1 ∧ w.cell? ⟨g, 2, none⟩ = some p2 ∧ w.cell? ⟨g, 3, none⟩ = some p3 ∧ w.cell? ⟨g, 4, none⟩ = some p4 ∧ w.cell? ⟨g, 5, none⟩ = some p5 ∧ w.cell? ⟨g, 6, none⟩ = some p6 ∧ w.cell? ⟨g, 7, none⟩ = some p7 ∧ w.cell? ⟨g, 8, none⟩ = some p8 ∧ w.cell? ⟨g, 9, none⟩ = some p9 :=
  ⟨h.cell 0, h.cell 1, h.cell 2, h.cell 3, h.cell 4, h.cell 5, h.cell 6, h.cell 7, h.cell 8, h.cell 9⟩
theorem Blk.set10 (h : Blk w g t #[p0, p1, p2, p3, p4, p5, p6, p7, p8, p9]) (x0 x1 x2 x3 x4 x5 x6 x7 x8 x9 : Value) : Blk ((((((((((w.setCell ⟨g, 0, none⟩ x0).setCell ⟨g, 1, none⟩ x1).setCell ⟨g, 2, none⟩ x2).setCell ⟨g, 3, none⟩ x3).setCell ⟨g, 4, none⟩ x4).setCell ⟨g, 5, none⟩ x5).setCell ⟨g, 6, none⟩ x6).setCell ⟨g, 7, none⟩ x7).setCell ⟨g, 8, none⟩ x8).setCell ⟨g, 9, none⟩ x9) g t #[x0, x1, x2, x3, x4, x5, x6, x7, x8, x9] := by
  have h0 : Blk _ g t #[x0, p1, p2, p3, p4, p5, p6, p7, p8, p9] := h.set 0 x0
  have h1 : Blk _ g t #[x0, x1, p2, p3, p4, p5, p6, p7, p8, p9] := h0.set 1 x1
  have h2 : Blk _ g t #[x0, x1, x2, p3, p4, p5, p6, p7, p8, p9] := h1.set 2 x2
  have h3 : Blk _ g t #[x0, x1, x2, x3, p4, p5, p6, p7, p8, p9] := h2.set 3 x3
  have h4 : Blk _ g t #[x0, x1, x2, x3, x4, p5, p6, p7, p8, p9] := h3.set 4 x4
  have h5 : Blk _ g t #[x0, x1, x2, x3, x4, x5, p6, p7, p8, p9] := h4.set 5 x5
  have h6 : Blk _ g t #[x0, x1, x2, x3, x4, x5, x6, p7, p8, p9] := h5.set 6 x6
  have h7 : Blk _ g t #[x0, x1, x2, x3, x4, x5, x6, x7, p8, p9] := h6.set 7 x7
  have h8 : Blk _ g t #[x0, x1, x2, x3, x4, x5, x6, x7, x8, p9] := h7.set 8 x8
  exact h8.set 9 x9
theorem below_set10 {B : Nat} {a : World} (h : Below B a w) (hB : B ≤ g) (x0 x1 x2 x3 x4 x5 x6 x7 x8 x9 : Value) : Below B a ((((((((((w.setCell ⟨g, 0, none⟩ x0).setCell ⟨g, 1, none⟩ x1).setCell ⟨g, 2, none⟩ x2).setCell ⟨g, 3, none⟩ x3).setCell ⟨g, 4, none⟩ x4).setCell ⟨g, 5, none⟩ x5).setCell ⟨g, 6, none⟩ x6).setCell ⟨g, 7, none⟩ x7).setCell ⟨g, 8, none⟩ x8).setCell ⟨g, 9, none⟩ x9) :=
  ((((((((((h.setCell (p := ⟨g, 0, none⟩) hB x0).setCell (p := ⟨g, 1, none⟩) hB x1).setCell (p := ⟨g, 2, none⟩) hB x2).setCell (p := ⟨g, 3, none⟩) hB x3).setCell (p := ⟨g, 4, none⟩) hB x4).setCell (p := ⟨g, 5, none⟩) hB x5).setCell (p := ⟨g, 6, none⟩) hB x6).setCell (p := ⟨g, 7, none⟩) hB x7).setCell (p := ⟨g, 8, none⟩) hB x8).setCell (p := ⟨g, 9, none⟩) hB x9)
end
theorem Blk.far10 {w : World} {g b : Nat} {t : TypeId} {cs : Array Value} (h : Blk w g t cs) (hb : g ≠ b) (x0 x1 x2 x3 x4 x5 x6 x7 x8 x9 : Value) : Blk ((((((((((w.setCell ⟨b, 0, none⟩ x0).setCell ⟨b, 1, none⟩ x1).setCell ⟨b, 2, none⟩ x2).setCell ⟨b, 3, none⟩ x3).setCell ⟨b, 4, none⟩ x4).setCell ⟨b, 5, none⟩ x5).setCell ⟨b, 6, none⟩ x6).setCell ⟨b, 7, none⟩ x7).setCell ⟨b, 8, none⟩ x8).setCell ⟨b, 9, none⟩ x9) g t cs :=
  (((((((((h.far (a := ⟨b, 0, none⟩) hb x0).far (a := ⟨b, 1, none⟩) hb x1).far (a := ⟨b, 2, none⟩) hb x2).far (a := ⟨b, 3, none⟩) hb x3).far (a := ⟨b, 4, none⟩) hb x4).far (a := ⟨b, 5, none⟩) hb x5).far (a := ⟨b, 6, none⟩) hb x6).far (a := ⟨b, 7, none⟩) hb x7).far (a := ⟨b, 8, none⟩) hb x8).far (a := ⟨b, 9, none⟩) hb x9
/-- Blocks that are known whole, all at once. -/
def Bl (w : World) (L : List (Nat × TypeId × Array Value)) : Prop := ∀ x ∈ L, Blk w x.1 x.2.1 x.2.2
section
variable {w w' : World} {L : List (Nat × TypeId × Array Value)}
theorem Bl.nil (w : World) : Bl w [] := fun _ h => by cases h
theorem Bl.below (h : Bl w L) (hb : Below w.heap.size w w') : Bl w' L := fun x hx => (h x hx).below hb (h x hx).lt
theorem Bl.alloc (h : Bl w L) (o : Obj) : Bl (w.alloc o) L := fun x hx => (h x hx).alloc o
theorem Bl.add (h : Bl w L) (t : TypeId) (cs : Array Value) : Bl (w.alloc (.cells cs t)) ((w.heap.size, t, cs) :: L) := fun x hx => by
  rcases List.mem_cons.1 hx with rfl | hx
  · exact Blk.new w t cs
  · exact (h x hx).alloc _
theorem Bl.head {x : Nat × TypeId × Array Value} (h : Bl w (x :: L)) : Blk w x.1 x.2.1 x.2.2 := h x (List.mem_cons_self ..)
theorem Bl.tail {x : Nat × TypeId × Array Value} (h : Bl w (x :: L)) : Bl w L := fun y hy => h y (List.mem_cons_of_mem _ hy)
end
/-- Modes as a value. -/
def moV (m : Mo) : Value := .agg #[.bool m.cursor, .bool m.keypad, .bool m.back, .bool m.focus, .bool m.paste, .bool m.lock, .bool m.line, .int .i64 m.mouse, .int .i64 m.coding, .int .i64 m.other]
def moC (m : Mo) : Array Value := #[.bool m.cursor, .bool m.keypad, .bool m.back, .bool m.focus, .bool m.paste, .bool m.lock, .bool m.line, .int .i64 m.mouse, .int .i64 m.coding, .int .i64 m.other]
def MoE (m : Mo) (q : Bool) (w : World) (e : Ending) (w' : World) : Prop := e = .returned (.tuple #[moV m, .bool q]) ∧ Below w.heap.size w w'
theorem sameM_eq (a b : Mo) : sameM a b = decide (a.cursor = b.cursor ∧ a.keypad = b.keypad ∧ a.back = b.back ∧ a.focus = b.focus ∧ a.paste = b.paste ∧ a.lock = b.lock ∧ a.line = b.line ∧ a.mouse = b.mouse ∧ a.coding = b.coding ∧ a.other = b.other) := by
  rw [Bool.eq_iff_iff]
  simp [sameM]
def inI (n : Int) : Prop := -9223372036854775808 ≤ n ∧ n ≤ 9223372036854775807
def ValE (v : Value) (w : World) (e : Ending) (w' : World) : Prop := e = .returned v ∧ Below w.heap.size w w'
/-- Modes whose numbers are ints. -/
def okM (m : Mo) : Prop := inI m.mouse ∧ inI m.coding
theorem inI_zero : inI 0 := ⟨by decide, by decide⟩
theorem ok_set {m : Mo} (h : okM m) (p : Bool) {n : Int} (hn : inI n) (on : Bool) : okM (setM m p n on).1 := by
  unfold okM setM plainM oneM
  (repeat' split) <;> first | exact h | exact ⟨hn, h.2⟩ | exact ⟨h.1, hn⟩ | exact ⟨inI_zero, h.2⟩ | exact ⟨h.1, inI_zero⟩
def OwnE (w : World) (e : Ending) (w' : World) : Prop := ∃ A c, e = .returned (.slice A 12 c) ∧ 12 ≤ c ∧ Rd w' A (is_ ownM) ∧ Below w.heap.size w w'
theorem below_step {w w1 w2 : World} {n : Nat} (h : Below n w w1) (h' : Below w1.heap.size w1 w2) (hn : n ≤ w1.heap.size) : Below n w w2 := h.trans (h'.mono hn)
end Go.Proofs.YtmagokkegadmiaaDoor
namespace Go.Proofs.YtmagokkegadmiaaDoor
open Go.RowKit

set_option maxHeartbeats 400000 in
theorem text_any (n : Int) (w : World) (h0 : -9223372036854775808 ≤ n) (h1 : n ≤ 9223372036854775807) (htab : Lib.TabIs Tryd.prog w "internal/strconv.uint64pow10" .u64 Lib.pow10Tab) :
    Calls Tryd.prog 45 #[.int .i64 n] w fun e w' => e = .returned (.string ⟨(textL n).toArray⟩) ∧ Below w.heap.size w w' := by
  by_cases hn : n < 0
  · have HE := Lib.hid (show textL n = [] from if_pos hn)
    go_enter Tryd.func45, Tryd.ntmps45
    go_wp2
    go_ret
    exact ⟨ret_s HE.out.symm, Below.refl _ _⟩
  · have HE := Lib.hid (show textL n = Lib.itoa n by unfold textL Lib.itoa; rw [if_neg hn, if_neg hn])
    go_enter Tryd.func45, Tryd.ntmps45
    go_wp2_with (go_at_call 62; refine (Tryd.strconv_Itoa n h0 h1 w htab).mono ?_; rintro e w' ⟨rfl, k, os, rfl⟩)
    go_ret
    exact ⟨ret_s HE.out.symm, below_grow (below_drewN (Below.refl _ _) k) (by simp) os⟩
def Tab (w : World) : Prop := Lib.TabIs Tryd.prog w "internal/strconv.uint64pow10" .u64 Lib.pow10Tab
theorem Tab.below {w w' : World} (h : Tab w) (hb : Below w.heap.size w w') : Tab w' := Lib.tabBelow_of_tabIs h w' hb
end Go.Proofs.YtmagokkegadmiaaDoor
namespace Go.Proofs.YtmagokkegadmiaaDoor
open Go.RowKit

/-- Texts as values, in a row. -/
def ss_ (l : List (List UInt8)) : List Value := l.map fun t => .string ⟨t.toArray⟩
theorem join_cons2 (sep p q : List UInt8) (l : List (List UInt8)) : Lib.join (p :: q :: l) sep = p ++ sep ++ Lib.join (q :: l) sep := by
  simp [Lib.join, List.intercalate_cons_cons]
theorem join_part (p : List Int) : Lib.join (p.map textL) [58] = partL p := by
  match p with
  | [] => rfl
  | [n] => simp [Lib.join, partL]
  | n :: m :: p =>
    rw [List.map_cons, List.map_cons, join_cons2, ← List.map_cons, join_part (m :: p)]
    simp [partL]
theorem join_par (l : List (List Int)) : Lib.join (l.map partL) [59] = parL l := by
  match l with
  | [] => rfl
  | [n] => simp [Lib.join, parL]
  | n :: m :: p =>
    rw [List.map_cons, List.map_cons, join_cons2, ← List.map_cons, join_par (m :: p)]
    simp [parL]

set_option maxRecDepth 100000 in
set_option maxHeartbeats 4000000 in
theorem join_any (A : Option Addr) (n c : Nat) (l : List (List UInt8)) (sep T : List UInt8) (w : World) (hn : l.length = n) (hT : Lib.join l sep = T) (hl : n ≤ 4294967296) (hc : n ≤ c) (hlen : T.length ≤ 140737488355328) (hr : Rd w A (ss_ l)) :
    Calls Tryd.prog 23 #[.string ⟨sep.toArray⟩, .slice A n c] w fun e w' => e = .returned (.string ⟨T.toArray⟩) ∧ Below w.heap.size w w' := by
  have hm : (l.map fun t : List UInt8 => (⟨t.toArray⟩ : ByteArray)).map (·.data.toList) = l := by
    rw [List.map_map]
    calc l.map _ = l.map id := List.map_congr_left (fun x _ => by simp)
      _ = l := List.map_id l
  by_cases h0 : n = 0
  · subst h0
    have e0 : l = [] := List.eq_nil_of_length_eq_zero hn
    subst e0
    obtain rfl : [] = T := hT
    go_enter Tryd.func23, Tryd.ntmps23
    go_wp2_with fail
    refine (Tryd.strings_Join_none A c _ _).mono ?_
    rintro e w1 ⟨rfl, rfl⟩
    go_wp2_with fail
    go_ret
    exact ⟨rfl, Below.refl _ _⟩
  · obtain ⟨b, o, rfl, hb, hcc⟩ := hr (by simp [ss_]; omega)
    have HJ := Lib.hid (show Lib.join ((l.map fun t : List UInt8 => (⟨t.toArray⟩ : ByteArray)).map (·.data.toList)) (⟨sep.toArray⟩ : ByteArray).data.toList = T by rw [hm]; exact hT)
    have hcells : Hid (∀ (j : Nat) (x : ByteArray), (l.map fun t : List UInt8 => (⟨t.toArray⟩ : ByteArray))[j]? = some x → w.cell? ⟨b, o + j, none⟩ = some (.string x)) := Lib.hid fun j x hx => hcc j _ (by
      unfold ss_
      rw [List.getElem?_map] at hx ⊢
      cases hj : l[j]? with
      | none => rw [hj] at hx; cases hx
      | some t => rw [hj] at hx; simp at hx; subst hx; rfl)
    have HLn := Lib.hid (show (l.map fun t : List UInt8 => (⟨t.toArray⟩ : ByteArray)).length = n by rw [List.length_map]; exact hn)
    clear hm hcc hT hn
    have hJ := Tryd.strings_Join b o c (l.map fun t : List UInt8 => (⟨t.toArray⟩ : ByteArray)) ⟨sep.toArray⟩ w hcells.out hb (by rw [HLn.out]; omega) (by rw [HLn.out]; exact hc) (by rw [HJ.out]; exact hlen)
    rw [HJ.out, HLn.out] at hJ
    go_enter Tryd.func23, Tryd.ntmps23
    go_wp2_with fail
    refine hJ.mono ?_
    rintro e w1 ⟨rfl, hb1⟩
    go_wp2_with fail
    go_ret
    exact ⟨rfl, hb1⟩
end Go.Proofs.YtmagokkegadmiaaDoor
namespace Go.Proofs.YtmagokkegadmiaaDoor
open Go.RowKit

theorem part_len22 (p : List Int) (h : partOk p) : (partL p).length ≤ 22 * p.length := partL_len p h
theorem own_full {w : World} {base : Nat} {e : TypeId} {g n : Nat} {xs : List Value} {l : List Value} (h : Own w base e 1 (.slice (some ⟨g, 0, none⟩) n n) n xs) (hl : l.length = n) (hx : ∀ j, j < n → xs[j]? = l[j]?) : Rd w (some ⟨g, 0, none⟩) l := by
  have h1 := h.1
  have : xs = l := List.ext_getElem? fun j => by
    by_cases hj : j < n
    · exact hx j hj
    · rw [List.getElem?_eq_none (by omega), List.getElem?_eq_none (by omega)]
  subst this
  exact h.rd

set_option maxRecDepth 100000 in
set_option maxHeartbeats 8000000 in
theorem ptext_any (A : Option Addr) (c : Nat) (ps : List (List Int)) (w : World) (hp : parOk ps = true) (ht : Tab w) (hr : RdP w A ps) :
    Calls Tryd.prog 25 #[.slice A ps.length c] w fun e w' => e = .returned (.string ⟨(parL ps).toArray⟩) ∧ Below w.heap.size w w' := by
  obtain ⟨i0, hi, hz0, hz1, hz2⟩ : ∃ i, Tryd.prog.info? 9 = some i ∧ i.zero = some (.string ⟨#[]⟩) ∧ i.size = 1 ∧ i.bytes = 16 := ⟨_, rfl, rfl, rfl, rfl⟩
  obtain ⟨hl16, hp8⟩ := parOk_lens hp
  have HP8 := Lib.hid hp8
  obtain ⟨n, hn⟩ : ∃ n, ps.length = n := ⟨_, rfl⟩
  rw [hn] at hl16 ⊢
  have HN := Lib.hid hn
  have HP := Lib.hid hp
  clear hp hp8 hn
  go_enter Tryd.func25, Tryd.ntmps25
  go_wp2_with (first | (at_make; refine wpList_make_full _ rfl _ _ 85 rfl w.heap.size 9 i0 _ 1 Tryd.underlying85 hi hz0 hz1 _ _ _ _ n rfl rfl ?d0 ?d1 ?d2 ?d3 ?d4 ?_))
  case d0 => omega
  case d1 => omega
  case d2 => rw [hz2]; omega
  case d3 => simp only [maxLen]; omega
  case d4 => exact Nat.le_refl _
  intro w2 hown2 hg2
  have hb2 : Below w.heap.size w w2 := (Below.refl _ _).grown hg2 (Nat.le_refl _) (by simp)
  have ho2 := Own.of hown2
  have hlt2 : w.heap.size < w2.heap.size := (ho2.lt w.heap.size rfl).2
  clear hown2 hg2
  go_wp2_with fail
  go_loopw [14] (fun i wr => ∃ (k : Nat) (xs : List Value), k ≤ n ∧ i = .int .i64 k ∧ Own wr w.heap.size 9 1 (.slice (some ⟨w.heap.size, 0, none⟩) n n) n xs ∧ Below w.heap.size w wr ∧ Hid (∀ j, j < k → xs[j]? = (ss_ (ps.map partL))[j]?)) (fun i _ => n - (intOf i).toNat)
  case atStart => exact ⟨0, _, Nat.zero_le _, rfl, ho2, hb2, Lib.hid fun j h => absurd h (by omega)⟩
  case round =>
    obtain ⟨k, xs, hk, rfl, ho, hb, hdone⟩ := hrel
    clear ho2 hb2 hlt2
    have hltr : w.heap.size < wr.heap.size := (ho.lt w.heap.size rfl).2
    obtain ⟨wo, rfl⟩ : ∃ wo : World, wo = wr := ⟨_, rfl⟩
    by_cases hlt : k < n
    · have hkn : k < ps.length := by rw [HN.out]; exact hlt
      obtain ⟨b, o, hA, hbA, hcc⟩ := (hr.below hb) (by omega)
      cases hA
      obtain ⟨A', c', hck, hrk⟩ := hcc k hkn
      obtain ⟨p, hp'⟩ : ∃ p, (ps[k]'hkn) = p := ⟨_, rfl⟩
      have hpl := HP8.out _ (List.getElem_mem hkn)
      rw [hp'] at hck hrk hpl
      have HPP := Lib.hid hp'
      clear hp' hcc
      obtain ⟨m, hm⟩ : ∃ m, p.length = m := ⟨_, rfl⟩
      rw [hm] at hck hpl
      have HM := Lib.hid hm
      obtain ⟨hm8, hpo⟩ := hpl
      have HPO := Lib.hid hpo
      clear hm hpo
      go_wp2_with (first | (at_make; refine wpList_make_full _ rfl _ _ 85 rfl wo.heap.size 9 i0 _ 1 Tryd.underlying85 hi hz0 hz1 _ _ _ _ m rfl rfl ?d0 ?d1 ?d2 ?d3 ?d4 ?_))
      case d0 => omega
      case d1 => omega
      case d2 => rw [hz2]; omega
      case d3 => simp only [maxLen]; omega
      case d4 => exact Nat.le_refl _
      intro w3 hown3 hg3
      have hb3 : Below wo.heap.size wo w3 := (Below.refl _ _).grown hg3 (Nat.le_refl _) (by simp)
      have ho3 := Own.of hown3
      clear hown3 hg3
      go_wp2_with fail
      go_loopw [24] (fun i wr => ∃ (j : Nat) (ys : List Value), j ≤ m ∧ i = .int .i64 j ∧ Own wr wo.heap.size 9 1 (.slice (some ⟨wo.heap.size, 0, none⟩) m m) m ys ∧ Below wo.heap.size wo wr ∧ Hid (∀ t, t < j → ys[t]? = (ss_ (p.map textL))[t]?)) (fun i _ => m - (intOf i).toNat)
      case atStart => exact ⟨0, _, Nat.zero_le _, rfl, ho3, hb3, Lib.hid fun j h => absurd h (by omega)⟩
      case round =>
        obtain ⟨j, ys, hj, rfl, hoi, hbi, hdi⟩ := hrel
        clear ho3 hb3
        have hlti : wo.heap.size < wr.heap.size := (hoi.lt wo.heap.size rfl).2
        by_cases hjm : j < m
        · have hjp : j < p.length := by rw [HM.out]; exact hjm
          obtain ⟨b4, o4, hA4, hb4, hc4⟩ := (hrk.below hbi).int_at (by omega)
          cases hA4
          have hcj := hc4 j hjp
          obtain ⟨x, hx⟩ : ∃ x, p[j]'hjp = x := ⟨_, rfl⟩
          have hxr := HPO.out _ (List.getElem_mem hjp)
          rw [hx] at hcj hxr
          have HX := Lib.hid hx
          clear hx hc4
          obtain ⟨x0, x1⟩ := hxr
          go_wp2_with fail
          refine (text_any x _ (by omega) (by omega) (ht.below (hb.trans (hbi.mono hb.size)))).mono ?_
          rintro e w5 ⟨rfl, hb5⟩
          have ho5 := hoi.behind hb5
          have hyl : j < ys.length := by have := hoi.1; omega
          have hd1 := ho5.cellAt j hyl
          have hd2 := ho5.frozenAt j hyl
          have hbi5 : Below wo.heap.size wo w5 := hbi.trans (hb5.mono hbi.size)
          clear hb5 hcj
          go_wp2_with fail
          go_roundw
          case rel =>
            refine ⟨j + 1, _, by omega, by go_num, ho5.stored j _, hbi5.setCell (p := ⟨wo.heap.size, j, none⟩) (Nat.le_refl _) _, Lib.hid fun t ht => ?_⟩
            by_cases e : t = j
            · subst e
              rw [List.getElem?_set_self hyl]
              simp [ss_, List.getElem?_eq_getElem hjp, HX.out]
            · rw [List.getElem?_set_ne (fun h => e h.symm)]
              exact hdi.out t (by omega)
          case measure => simp [intOf]; omega
        · have hrow := own_full hoi (l := ss_ (p.map textL)) (by simp [ss_, HM.out]) (fun t ht => hdi.out t (by omega))
          have hJ := Lib.hid (join_part p)
          have hlen := partL_len p HPO.out
          rw [HM.out] at hlen
          have hml := Lib.hid (show (p.map textL).length = m by rw [List.length_map]; exact HM.out)
          go_wp2_with fail
          refine (join_any (some ⟨wo.heap.size, 0, none⟩) m m (p.map textL) [58] (partL p) _ hml.out hJ.out (by omega) (Nat.le_refl _) (by omega) hrow).mono ?_
          rintro e w5 ⟨rfl, hb5⟩
          have hbi5 : Below wo.heap.size wo w5 := hbi.trans (hb5.mono hbi.size)
          have ho5 := ho.behind hbi5
          have hxl : k < xs.length := by have := ho.1; omega
          have hd1 := ho5.cellAt k hxl
          have hd2 := ho5.frozenAt k hxl
          have hb5' : Below w.heap.size w w5 := hb.trans (hbi5.mono hb.size)
          clear hb5 hrow
          go_wp2_with fail
          go_roundw
          case rel =>
            refine ⟨k + 1, _, by omega, by go_num, ho5.stored k _, hb5'.setCell (p := ⟨w.heap.size, k, none⟩) (Nat.le_refl _) _, Lib.hid fun t ht => ?_⟩
            by_cases e : t = k
            · subst e
              rw [List.getElem?_set_self hxl]
              simp [ss_, List.getElem?_eq_getElem hkn, HPP.out]
            · rw [List.getElem?_set_ne (fun h => e h.symm)]
              exact hdone.out t (by omega)
          case measure => simp [intOf]; omega
    · have hrow := own_full ho (l := ss_ (ps.map partL)) (by simp [ss_, HN.out]) (fun t ht => hdone.out t (by omega))
      have hJ := Lib.hid (join_par ps)
      have hlen := parL_len ps HP8.out
      rw [HN.out] at hlen
      have hml := Lib.hid (show (ps.map partL).length = n by rw [List.length_map]; exact HN.out)
      go_wp2_with fail
      refine (join_any (some ⟨w.heap.size, 0, none⟩) n n (ps.map partL) [59] (parL ps) _ hml.out hJ.out (by omega) (Nat.le_refl _) (by omega) hrow).mono ?_
      rintro e w5 ⟨rfl, hb5⟩
      go_wp2_with fail
      go_ret
      exact ⟨rfl, hb.trans (hb5.mono hb.size)⟩
end Go.Proofs.YtmagokkegadmiaaDoor
namespace Go.Proofs.YtmagokkegadmiaaDoor
open Go.RowKit

/-- What a character is worth as a figure of sixteen; 99: it is none. -/
def figV (c : Int) : Int := if 48 ≤ c ∧ c ≤ 57 then c - 48 else if 65 ≤ c ∧ c ≤ 70 then c - 55 else if 97 ≤ c ∧ c ≤ 102 then c - 87 else 99

set_option maxHeartbeats 400000 in
theorem figures_any (n : Int) (w : World) :
    Calls Tryd.prog 88 #[.int .i64 n] w fun e w' => e = .returned (.func (.func 94) #[] #[.pointer (some ⟨w.heap.size, 0, none⟩)]) ∧ w' = w.alloc (.cells #[.int .i64 n] 3) := by
  have hmf : ∀ (fn : Fn) (first cap : Array Value) (w : World), (Instr.makeFunc fn first cap).run Tryd.prog w = .ok (.func fn first cap) w := fun _ _ _ _ => rfl
  go_enter Tryd.func88, Tryd.ntmps88
  go_wp2
  go_ret
  exact ⟨rfl, rfl⟩

def figA (c n : Int) : Int := if figV c < n then figV c else 0
def figB (c n : Int) : Bool := decide (figV c < n)

set_option maxHeartbeats 1000000 in
/-- The closure: what the character is worth, if that is below the base. -/
theorem figure_any (c n : Int) (a : Addr) (w : World) (h0 : 0 ≤ c) (h1 : c ≤ 2147483647) (hn0 : 1 ≤ n) (hn1 : n ≤ 36) (hc : w.cell? a = some (.int .i64 n)) :
    Calls Tryd.prog 94 #[.int .i32 c, .pointer (some a)] w fun e w' =>
      e = .returned (.tuple #[.int .i64 (figA c n), .bool (figB c n)]) ∧ w' = w := by
  go_enter Tryd.func94, Tryd.ntmps94
  go_wp2
  all_goals go_ret2
  all_goals
    refine ⟨ret_ib ?_ ?_, rfl⟩
    · unfold figA figV
      (repeat' split) <;> omega
    · unfold figB figV
      (repeat' split) <;> first | (rw [eq_comm, decide_eq_true_eq]; omega) | (rw [eq_comm, decide_eq_false_iff_not]; omega)

/-- How many figures bytes begin with. -/
def digs (l : List UInt8) : Nat := (l.takeWhile isD).length
def satk (l : List UInt8) (k : Nat) : Nat := (l.take k).foldl dstep 0
theorem take_snoc (l : List UInt8) (k : Nat) (h : k < l.length) : l.take (k + 1) = l.take k ++ [l[k]] := by
  rw [List.take_succ_eq_append_getElem h]
theorem satk_zero (l : List UInt8) : satk l 0 = 0 := rfl
theorem satk_succ (l : List UInt8) (k : Nat) (h : k < l.length) : satk l (k + 1) = dstep (satk l k) l[k] := by
  unfold satk; rw [take_snoc l k h, List.foldl_append]; rfl
theorem satk_le (l : List UInt8) : ∀ k, satk l k ≤ 1114111 := by
  intro k
  unfold satk
  generalize l.take k = t
  cases ht : t.reverse with
  | nil => rw [List.reverse_eq_nil_iff] at ht; subst ht; simp
  | cons c r =>
    have : t = r.reverse ++ [c] := by rw [← List.reverse_reverse t, ht]; simp
    rw [this, List.foldl_append]
    exact dstep_le _ _

theorem takeWhile_of_all {p : UInt8 → Bool} : ∀ (l : List UInt8) (k : Nat), k ≤ l.length → (∀ j (h : j < l.length), j < k → p l[j] = true) → (∀ h : k < l.length, p l[k] = false) → l.takeWhile p = l.take k
  | [], k, hk, _, _ => by simp at hk; subst hk; rfl
  | c :: r, 0, _, _, hn => by
    have := hn (by simp)
    simp at this
    simp [this]
  | c :: r, k + 1, hk, ha, hn => by
    have h0 := ha 0 (by simp) (by omega)
    simp at h0
    rw [List.takeWhile_cons_of_pos h0, List.take_succ_cons]
    congr 1
    refine takeWhile_of_all r k (by simpa using hk) (fun j h hj => ?_) (fun h => ?_)
    · exact ha (j + 1) (by rw [List.length_cons]; omega) (by omega)
    · exact hn (by rw [List.length_cons]; omega)
theorem digs_at (l : List UInt8) (k : Nat) (hk : k ≤ l.length) (ha : ∀ j (h : j < l.length), j < k → isD l[j] = true) (hn : ∀ h : k < l.length, isD l[k] = false) : digs l = k ∧ satv l = satk l k := by
  unfold digs satv satk
  rw [takeWhile_of_all l k hk ha hn]
  exact ⟨by rw [List.length_take]; omega, rfl⟩
theorem fig_digit (c : UInt8) (h : isD c = true) : figB (c.toNat : Int) 10 = true ∧ figA (c.toNat : Int) 10 = (c.toNat : Int) - 48 := by
  have h' : 48 ≤ c.toNat ∧ c.toNat ≤ 57 := of_decide_eq_true h
  have hv : figV (c.toNat : Int) = (c.toNat : Int) - 48 := by unfold figV; rw [if_pos (by omega)]
  unfold figB figA
  rw [hv]
  exact ⟨decide_eq_true (by omega), if_pos (by omega)⟩
theorem fig_other (c : UInt8) (h : isD c = false) : figB (c.toNat : Int) 10 = false := by
  have h' : ¬ (48 ≤ c.toNat ∧ c.toNat ≤ 57) := of_decide_eq_false h
  unfold figB
  rw [decide_eq_false_iff_not]
  unfold figV
  rw [if_neg (by omega)]
  split
  · omega
  · split <;> omega

set_option maxHeartbeats 1000000 in
theorem figtake_any (A : Option Addr) (c : Nat) (l : List UInt8) (w : World) (hl : l.length ≤ 4294967296) (hr : Rd w A (bs l)) :
    Calls Tryd.prog 82 #[.slice A l.length c] w fun e w' => e = .returned (.tuple #[.int .i64 (satv l), .int .i64 (digs l)]) ∧ Below w.heap.size w w' := by
  have hr1 := hr.alloc (.cells #[.int .i64 10] 3)
  have hb1 : Below w.heap.size w (w.alloc (.cells #[.int .i64 10] 3)) := (Below.refl _ _).alloc (Nat.le_refl _) _
  have hbox : (w.alloc (.cells #[.int .i64 10] 3)).cell? ⟨w.heap.size, 0, none⟩ = some (.int .i64 10) := by
    rw [World.cell?_alloc_at _ _ _ _ rfl]; rfl
  go_enter Tryd.func82, Tryd.ntmps82
  go_wp2_with (go_at_call 88; refine (figures_any 10 _).mono ?_; rintro e w' ⟨rfl, rfl⟩)
  go_loop [5, 6, 14] (fun n u i => ∃ k : Nat, k ≤ l.length ∧ i = .int .i64 k ∧ u = .int .i64 k ∧ n = .int .i64 (satk l k) ∧ Hid (∀ j (h : j < l.length), j < k → isD l[j] = true)) (fun _ _ i => l.length - (intOf i).toNat)
  case atStart => exact ⟨0, Nat.zero_le _, rfl, rfl, rfl, fun j _ h => absurd h (by omega)⟩
  case round =>
    obtain ⟨k, hk, rfl, rfl, rfl, hall⟩ := hrel
    have hsk := satk_le l k
    by_cases hlt : k < l.length
    · obtain ⟨b, o, rfl, hb, hcell⟩ := hr1.at_ (by omega)
      have hck := hcell k hlt
      have hlo := (l[k]).toNat_lt
      clear hcell
      cases hd : isD l[k] with
      | true =>
        obtain ⟨f1, f2⟩ := fig_digit _ hd
        have H1 := Lib.hid f1
        have H2 := Lib.hid f2
        have HS := Lib.hid (satk_succ l k hlt)
        have HD := Lib.hid hd
        have h5 : 48 ≤ (l[k]).toNat ∧ (l[k]).toNat ≤ 57 := of_decide_eq_true hd
        clear f1 f2 hd
        go_wp2_with (go_at_call 94; refine (figure_any _ 10 _ _ (by omega) (by omega) (by omega) (by omega) hbox).mono ?_; rintro e w' ⟨rfl, rfl⟩; rw [H1.out, H2.out])
        go_round
        case rel =>
          refine ⟨k + 1, by omega, by go_num, by go_num, ?_, ?_⟩
          · rw [HS.out]
            unfold dstep
            congr 1
            first | omega | (split <;> omega)
          · intro j h hj
            by_cases e : j = k
            · subst e; exact HD.out
            · exact hall.out j h (by omega)
        case measure => simp [intOf]; omega
      | false =>
        have H1 := Lib.hid (fig_other _ hd)
        have HE := Lib.hid (digs_at l k hk hall.out fun _ => hd)
        clear hd
        go_wp2_with (go_at_call 94; refine (figure_any _ 10 _ _ (by omega) (by omega) (by omega) (by omega) hbox).mono ?_; rintro e w' ⟨rfl, rfl⟩; rw [H1.out])
        go_ret2
        exact ⟨ret_ii (by rw [HE.out.2]) (by rw [HE.out.1]), hb1⟩
    · have HE := Lib.hid (digs_at l k hk hall.out fun h => absurd h hlt)
      go_wp2
      go_ret2
      exact ⟨ret_ii (by rw [HE.out.2]) (by rw [HE.out.1]), hb1⟩

theorem take_at (A : Option Addr) (c : Nat) (l : List UInt8) (n : Nat) (w : World) (hn : l.length = n) (hl : l.length ≤ 4294967296) (hr : Rd w A (bs l)) :
    Calls Tryd.prog 82 #[.slice A n c] w fun e w' => e = .returned (.tuple #[.int .i64 (satv l), .int .i64 (digs l)]) ∧ Below w.heap.size w w' := by
  subst hn
  exact figtake_any A c l w hl hr
end Go.Proofs.YtmagokkegadmiaaDoor
namespace Go.Proofs.YtmagokkegadmiaaDoor
open Go.RowKit

set_option maxRecDepth 100000 in
theorem pof_any (n : Int) (w : World) (hn : in10 n) : Calls Tryd.prog 15 #[.int .i64 n] w fun e w' => e = .returned (.tuple #[.int .i64 (ofN n).1, .bool (ofN n).2]) ∧ Below w.heap.size w w' := by
  obtain ⟨m, hm⟩ : ∃ m, IntKind.i64.wrap (n - 1) = m := ⟨_, rfl⟩
  have hr0 : m = n - 1 ∨ (n = -9223372036854775808 ∧ m = 9223372036854775807) := by
    rw [← hm, IntKind.wrap_i64]
    have := hn.1
    have := hn.2
    omega
  cases hq : areN m with
  | true =>
    have hr : 0 ≤ m ∧ m ≤ 255 := by simpa [areN] using hq
    have hp : ofN n = (m, true) := by unfold ofN; rw [if_neg (by omega)]; congr 1; omega
    have hcall := fun W => are_at hq W
    rw [hp]
    clear hp hr hq hn hr0
    go_enter Tryd.func15, Tryd.ntmps15
    go_wp2_with fail
    refine (hcall _).mono ?_
    clear hcall
    rintro e w1 ⟨rfl, hb1⟩
    go_wp2_with fail
    go_ret2
    exact ⟨rfl, hb1⟩
  | false =>
    have hr : ¬ (0 ≤ m ∧ m ≤ 255) := by simpa [areN] using hq
    have hp : ofN n = (0, false) := by unfold ofN; rw [if_pos (by omega)]
    have hcall := fun W => are_at hq W
    rw [hp]
    clear hp hr hq hn hr0
    go_enter Tryd.func15, Tryd.ntmps15
    go_wp2_with fail
    refine (hcall _).mono ?_
    clear hcall
    rintro e w1 ⟨rfl, hb1⟩
    go_wp2_with fail
    go_ret2
    exact ⟨rfl, hb1⟩
end Go.Proofs.YtmagokkegadmiaaDoor
