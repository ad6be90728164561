/-
  Layer 6: words for modes in memory: as a value, as a box's cells; what calls tell. Layer 9: the document's own answers: the parts of Look. Layer 2, walked: the document's All. Layer 10, the landed mods: Param and Of.
  Cut out of MdtQ. Layer 3, walked: the program's parameters as a text. Layer 3, walked: the program's Put. Layer 10, the landed mods: May.
-/
import Derived.Test.YtceipblcdcgljaaGreatDoorG02
import Derived.Test.YtceipblcdcgljaaGreatDoorG04
import Derived.Test.YtceipblcdcgljaaGreatDoorG07
import Derived.Test.YtceipblcdcgljaaGreatDoorG11
import Derived.Test.YtceipblcdcgljaaGreatDoorG12
import Derived.Test.YtceipblcdcgljaaGreatDoorG13
import Derived.Test.YtceipblcdcgljaaGreatDoorG14
import Derived.BigQuiet
import Derived.Deep.QuietTactic
import Derived.Laws.StructEq
import Derived.Deep.RegionHeld
namespace Go.Proofs.YtceipblcdcgljaaGreatDoor
open Go.RowKit
section
section
variable {w w' : World} {g : Nat} {t : TypeId} {p0 p1 p2 p3 p4 p5 p6 p7 p8 p9 : Value}
theorem Blk.cells10 (h : Blk w g t #[p0, p1, p2, p3, p4, p5, p6, p7, p8, p9]) :
 w.cell? ⟨g, 0, none⟩ = some p0 ∧ w.cell? ⟨g, 1, none⟩ = some p1 ∧ w.cell? ⟨g, 2, none⟩ = some p2 ∧ w.cell? ⟨g, 3, none⟩ = some p3 ∧ w.cell? ⟨g, 4, none⟩ = some p4 ∧ w.cell? ⟨g, 5, none⟩ = some p5 ∧ w.cell? ⟨g, 6, none⟩ = some p6 ∧ w.cell? ⟨g, 7, none⟩ = some p7 ∧ w.cell? ⟨g, 8, none⟩ = some p8 ∧ w.cell? ⟨g, 9, none⟩ = some p9 :=
 ⟨h.cell 0, h.cell 1, h.cell 2, h.cell 3, h.cell 4, h.cell 5, h.cell 6, h.cell 7, h.cell 8, h.cell 9⟩
end
def Bl (w : World) (L : List (Nat × TypeId × Array Value)) : Prop := ∀ x ∈ L, Blk w x.1 x.2.1 x.2.2
section
variable {w w' : World} {L : List (Nat × TypeId × Array Value)}
theorem Bl.nil (w : World) : Bl w [] := fun _ h => by cases h
theorem Bl.below (h : Bl w L) (hb : Below w.heap.size w w') : Bl w' L := fun x hx => (h x hx).below hb (h x hx).lt
theorem Bl.alloc (h : Bl w L) (o : Obj) : Bl (w.alloc o) L := fun x hx => (h x hx).alloc o
theorem Bl.add (h : Bl w L) (t : TypeId) (cs : Array Value) : Bl (w.alloc (.cells cs t)) ((w.heap.size, t, cs) :: L) := fun x hx => by
 rcases List.mem_cons.1 hx with rfl | hx
 ·exact Blk.new w t cs
 ·exact (h x hx).alloc _
theorem Bl.head {x : Nat × TypeId × Array Value} (h : Bl w (x :: L)) : Blk w x.1 x.2.1 x.2.2 := h x (List.mem_cons_self ..)
theorem Bl.tail {x : Nat × TypeId × Array Value} (h : Bl w (x :: L)) : Bl w L := fun y hy => h y (List.mem_cons_of_mem _ hy)
end
def moV (m : Mo) : Value := .agg #[.bool m.cursor, .bool m.keypad, .bool m.back, .bool m.focus, .bool m.paste, .bool m.lock, .bool m.line, .int .i64 m.mouse, .int .i64 m.coding, .int .i64 m.other]
def moC (m : Mo) : Array Value := #[.bool m.cursor, .bool m.keypad, .bool m.back, .bool m.focus, .bool m.paste, .bool m.lock, .bool m.line, .int .i64 m.mouse, .int .i64 m.coding, .int .i64 m.other]
def inI (n : Int) : Prop := -9223372036854775808 ≤ n ∧ n ≤ 9223372036854775807
def okM (m : Mo) : Prop := inI m.mouse ∧ inI m.coding
end
theorem ret_i9 {k : IntKind} {a b : Int} (h : a = b) : Ending.returned (.int k a) = .returned (.int k b) := by rw [h]
set_option maxRecDepth 100000 in
set_option maxHeartbeats 8000000 in
theorem rletter_any (c : Int) (w : World) : Calls Tryz.prog 52 #[.int .i64 c] w fun e w' => e = .returned (.int .u8 (letterN c)) ∧ w' = w := by
 go_enter Tryz.func52, Tryz.ntmps52
 go_wp2
 all_goals
  go_ret
  refine ⟨ret_i9 ?_, rfl⟩
  simp only [beq_iff_eq, beq_eq_false_iff_ne, ne_eq] at *
  first
   | (subst_vars; decide +kernel)
   | (unfold letterN
      repeat' split
      all_goals omega)
set_option maxRecDepth 100000 in
set_option maxHeartbeats 8000000 in
theorem rnumber_any (c : Int) (w : World) : Calls Tryz.prog 53 #[.int .i64 c] w fun e w' => e = .returned (.int .i64 (numberN c)) ∧ w' = w := by
 go_enter Tryz.func53, Tryz.ntmps53
 go_wp2
 all_goals
  go_ret
  refine ⟨ret_i9 ?_, rfl⟩
  simp only [beq_iff_eq, beq_eq_false_iff_ne, ne_eq] at *
  first
   | (subst_vars; decide +kernel)
   | (unfold numberN
      repeat' split
      all_goals omega)
theorem rtake_tup (A : Option Addr) (n c : Nat) (l : List UInt8) (r : Int) (m : Nat) (w : World) (hn : l.length = n) (h : takeL l = (r, m)) (hl : l.length ≤ 4294967296) (hlc : n ≤ c) (hr : Rd w A (bs l)) :
 Calls Tryz.prog 89 #[.slice A n c] w fun e w' => e = .returned (.tuple #[.int .i64 r, .int .i64 m]) ∧ Below w.heap.size w w' := by
 subst hn
 refine (rtake_any A c l w hl hlc hr).mono ?_
 rintro e w' ⟨rfl, hb⟩
 exact ⟨by unfold Tk; rw [h], hb⟩
theorem all_pre {t : List UInt8} {pre : List Int} {k m : Nat} {r : Int} (h : allL t = (allL (t.drop k)).map (pre ++ ·)) (ht : takeL (t.drop k) = (r, m)) (hm : m ≠ 0) : allL t = (allL (t.drop (k + m))).map ((pre ++ [r]) ++ ·) := by
 rw [h, allL_yes (by rw [ht]; exact hm), ht, List.drop_drop]
 cases allL (t.drop (k + m)) with
 | none => rfl
 | some x => simp
set_option maxRecDepth 100000 in
set_option maxHeartbeats 2000000 in
theorem rall_own (A : Option Addr) (c : Nat) (t : List UInt8) (w : World) (ht : t.length ≤ 4294967296) (htc : t.length ≤ c) (hr : Rd w A (bs t)) :
 Calls Tryz.prog 56 #[.slice A t.length c] w (AlO (allL t) w) := by
 obtain ⟨i0, hi, hz0, hz1, hz2⟩ := info_parts Tryz.intinfo
 go_enter Tryz.func56, Tryz.ntmps56
 go_wp2
 go_loopw [4, 5] (fun v i wr => ∃ (k : Nat) (pre : List Int), k ≤ t.length ∧ i = .int .i64 k ∧ pre.length ≤ k ∧ allL t = (allL (t.drop k)).map (pre ++ ·) ∧ Own wr w.heap.size 3 1 v pre.length (is_ pre) ∧ Below w.heap.size w wr) (fun _ i _ => t.length - (intOf i).toNat)
 case atStart => exact ⟨0, [], Nat.zero_le _, rfl, Nat.le_refl _, by rw [List.drop_zero]; cases allL t <;> rfl, Own.nil_ _ _ _ _, Below.refl _ _⟩
 case round =>
  obtain ⟨k, pre, hk, rfl, hpk, hpre, hown, hbw⟩ := hrel
  have HP := Lib.hid hpre
  clear hpre
  by_cases hlt : k < t.length
  ·have hrw := hr.below hbw
   obtain ⟨b, o, rfl, hb, hcc⟩ := hrw.at_ (by omega)
   have hdr := (RdIn.of hrw).drop k hlt
   clear hcc
   have k0 : (0 : Int) ≤ (k : Int) := by omega
   have k1 : (k : Int) ≤ (t.length : Int) := by omega
   have hlen := Lib.hid (show (t.drop k).length = t.length - k from List.length_drop)
   have hld : (t.drop k).length ≤ 4294967296 := by rw [List.length_drop]; omega
   by_cases hz : (takeL (t.drop k)).2 = 0
   ·have E := Lib.hid (take_zero hz)
    have EN := Lib.hid (show allL t = none by rw [HP.out, allL_no (by rw [List.length_drop]; omega) hz]; rfl)
    clear hz
    go_wp2_with fail
    refine (rtake_tup _ _ _ (t.drop k) 0 0 _ hlen.out E.out hld (by omega) hdr).mono ?_
    rintro e w2 ⟨rfl, hb2⟩
    have hb2 : Below w.heap.size w w2 := hbw.trans (hb2.mono hbw.size)
    go_wp2_with fail
    go_ret2
    exact AlO.no EN.out hb2
   ·have hle := (take_snd_le (t.drop k)).1
    obtain ⟨r, hr1⟩ : ∃ r, (takeL (t.drop k)).1 = r := ⟨_, rfl⟩
    obtain ⟨m, hm1⟩ : ∃ m, (takeL (t.drop k)).2 = m := ⟨_, rfl⟩
    have E := Lib.hid (show takeL (t.drop k) = (r, m) by rw [← hr1, ← hm1])
    rw [hm1, List.length_drop] at hle
    rw [hm1] at hz
    have m1 : ((m : Int) == 0) = false := beq_false_of_ne (by omega)
    have PE := Lib.hid (all_pre HP.out E.out hz)
    clear hr1 hm1
    have h63 : pre.length + 1 ≤ maxLen := by simp only [maxLen]; omega
    have hlim : (pre.length + 1) * 8 ≤ 140737488355328 := by omega
    have one1 : ∀ x : Int, ∀ u ∈ [Value.int .i64 x], u.oneCell' = true := fun x => ints_one [x]
    go_wp2_with fail
    refine (rtake_tup _ _ _ (t.drop k) r m _ hlen.out E.out hld (by omega) hdr).mono ?_
    rintro e w2 ⟨rfl, hb2⟩
    have hown2 := hown.behind hb2
    have hb2 : Below w.heap.size w w2 := hbw.trans (hb2.mono hbw.size)
    have hs2 := hb2.size
    go_wp2_with (at_builtin; refine list_app _ rfl (.tmp 21) (.tmp 23) 57 rfl w.heap.size 3 i0 _ 1 8 Tryz.underlying57 hi hz0 hz1 hz2 rfl Nat.one_pos _ _ _ rfl (hown2.alloc _) (some ⟨w2.heap.size, 0, none⟩) 1 1 _ rfl rfl (rd_lit w2 _ _) (one1 _) h63 hlim (by simp; omega) ?_; intro v4 w4 hown4 hg4)
    have hb4 : Below w.heap.size w w4 := (hb2.alloc hs2 _).grown hg4 (by simp; omega) (fun g hg => (hown2.lt g hg).1)
    have ho : Own w4 w.heap.size 3 1 v4 (pre ++ [r]).length (is_ (pre ++ [r])) := by
     rw [List.length_append, show is_ (pre ++ [r]) = is_ pre ++ [.int .i64 r] by simp [is_]]
     exact hown4
    clear hown4 hg4
    go_wp2
    go_roundw
    case rel => exact ⟨k + m, pre ++ [r], by omega, by go_num, by rw [List.length_append]; show pre.length + 1 ≤ _; omega, PE.out, ho, hb4⟩
    case measure => simp [intOf]; omega
  ·have E := Lib.hid (show allL t = some pre by
    rw [HP.out, List.drop_of_length_le (by omega)]
    show some (pre ++ []) = _
    rw [List.append_nil])
   go_wp2
   go_ret2
   exact AlO.yes E.out hown hbw
theorem rall_any (A : Option Addr) (c : Nat) (t : List UInt8) (w : World) (ht : t.length ≤ 4294967296) (htc : t.length ≤ c) (hr : Rd w A (bs t)) :
 Calls Tryz.prog 56 #[.slice A t.length c] w (Al (allL t) w) :=
 (rall_own A c t w ht htc hr).mono fun _ _ h => h.al
set_option maxRecDepth 100000 in
theorem pparam_any (n : Int) (w : World) : Calls Tryz.prog 76 #[.int .i64 n] w fun e w' => e = .returned (.int .i64 (paramN n)) ∧ Below w.heap.size w w' := by
 cases hq : areN n with
 | true =>
   have hr : 0 ≤ n ∧ n ≤ 255 := by simpa [areN] using hq
   have hp : paramN n = n + 1 := by unfold paramN; rw [if_neg (by omega)]
   have hw : IntKind.i64.wrap (n + 1) = n + 1 := by rw [IntKind.wrap_i64]; omega
   have hcall := fun W => are_at hq W
   rw [hp]
   clear hp hr hq
   go_enter Tryz.func76, Tryz.ntmps76
   go_wp2_with fail
   refine (hcall _).mono ?_
   clear hcall
   rintro e w1 ⟨rfl, hb1⟩
   go_wp2_with fail
   go_ret
   exact ⟨rfl, hb1⟩
 | false =>
   have hr : ¬ (0 ≤ n ∧ n ≤ 255) := by simpa [areN] using hq
   have hp : paramN n = 1 := by unfold paramN; rw [if_pos (by omega)]
   have hcall := fun W => are_at hq W
   rw [hp]
   clear hp hr hq
   go_enter Tryz.func76, Tryz.ntmps76
   go_wp2_with fail
   refine (hcall _).mono ?_
   clear hcall
   rintro e w1 ⟨rfl, hb1⟩
   go_wp2_with fail
   go_ret
   exact ⟨rfl, hb1⟩
theorem own_full {w : World} {base : Nat} {e : TypeId} {g n : Nat} {xs : List Value} {l : List Value} (h : Own w base e 1 (.slice (some ⟨g, 0, none⟩) n n) n xs) (hl : l.length = n) (hx : ∀ j, j < n → xs[j]? = l[j]?) : Rd w (some ⟨g, 0, none⟩) l := by
 have h1 := h.1
 have : xs = l := List.ext_getElem? fun j => by
  by_cases hj : j < n
  ·exact hx j hj
  ·rw [List.getElem?_eq_none (by omega), List.getElem?_eq_none (by omega)]
 subst this
 exact h.rd
set_option maxRecDepth 100000 in
set_option maxHeartbeats 8000000 in
theorem ptext_any (A : Option Addr) (c : Nat) (ps : List (List Int)) (w : World) (hp : parOk ps = true) (ht : Tab w) (hr : RdP w A ps) :
 Calls Tryz.prog 113 #[.slice A ps.length c] w fun e w' => e = .returned (.string ⟨(parL ps).toArray⟩) ∧ Below w.heap.size w w' := by
 obtain ⟨i0, hi, hz0, hz1, hz2⟩ : ∃ i, Tryz.prog.info? 9 = some i ∧ i.zero = some (.string ⟨#[]⟩) ∧ i.size = 1 ∧ i.bytes = 16 := ⟨_, rfl, rfl, rfl, rfl⟩
 obtain ⟨hl16, hp8⟩ := parOk_lens hp
 have HP8 := Lib.hid hp8
 obtain ⟨n, hn⟩ : ∃ n, ps.length = n := ⟨_, rfl⟩
 rw [hn] at hl16 ⊢
 have HN := Lib.hid hn
 have HP := Lib.hid hp
 clear hp hp8 hn
 go_enter Tryz.func113, Tryz.ntmps113
 go_wp2_with (first | (at_make; refine wpList_make_full _ rfl _ _ 143 rfl w.heap.size 9 i0 _ 1 Tryz.underlying143 hi hz0 hz1 _ _ _ _ n rfl rfl ?d0 ?d1 ?d2 ?d3 ?d4 ?_))
 case d0 => omega
 case d1 => omega
 case d2 => rw [hz2]; omega
 case d3 => simp only [maxLen]; omega
 case d4 => exact Nat.le_refl _
 intro w2 hown2 hg2
 have hb2 : Below w.heap.size w w2 := (Below.refl _ _).grown hg2 (Nat.le_refl _) (by simp)
 have ho2 := Own.of hown2
 have hlt2 : w.heap.size < w2.heap.size := (ho2.lt w.heap.size rfl).2
 clear hown2 hg2
 go_wp2_with fail
 go_loopw [14] (fun i wr => ∃ (k : Nat) (xs : List Value), k ≤ n ∧ i = .int .i64 k ∧ Own wr w.heap.size 9 1 (.slice (some ⟨w.heap.size, 0, none⟩) n n) n xs ∧ Below w.heap.size w wr ∧ Hid (∀ j, j < k → xs[j]? = (ss_ (ps.map partL))[j]?)) (fun i _ => n - (intOf i).toNat)
 case atStart => exact ⟨0, _, Nat.zero_le _, rfl, ho2, hb2, Lib.hid fun j h => absurd h (by omega)⟩
 case round =>
  obtain ⟨k, xs, hk, rfl, ho, hb, hdone⟩ := hrel
  clear ho2 hb2 hlt2
  have hltr : w.heap.size < wr.heap.size := (ho.lt w.heap.size rfl).2
  obtain ⟨wo, rfl⟩ : ∃ wo : World, wo = wr := ⟨_, rfl⟩
  by_cases hlt : k < n
  ·have hkn : k < ps.length := by rw [HN.out]; exact hlt
   obtain ⟨b, o, hA, hbA, hcc⟩ := (hr.below hb) (by omega)
   cases hA
   obtain ⟨A', c', hck, hrk⟩ := hcc k hkn
   obtain ⟨p, hp'⟩ : ∃ p, (ps[k]'hkn) = p := ⟨_, rfl⟩
   have hpl := HP8.out _ (List.getElem_mem hkn)
   rw [hp'] at hck hrk hpl
   have HPP := Lib.hid hp'
   clear hp' hcc
   obtain ⟨m, hm⟩ : ∃ m, p.length = m := ⟨_, rfl⟩
   rw [hm] at hck hpl
   have HM := Lib.hid hm
   obtain ⟨hm8, hpo⟩ := hpl
   have HPO := Lib.hid hpo
   clear hm hpo
   go_wp2_with (first | (at_make; refine wpList_make_full _ rfl _ _ 143 rfl wo.heap.size 9 i0 _ 1 Tryz.underlying143 hi hz0 hz1 _ _ _ _ m rfl rfl ?d0 ?d1 ?d2 ?d3 ?d4 ?_))
   case d0 => omega
   case d1 => omega
   case d2 => rw [hz2]; omega
   case d3 => simp only [maxLen]; omega
   case d4 => exact Nat.le_refl _
   intro w3 hown3 hg3
   have hb3 : Below wo.heap.size wo w3 := (Below.refl _ _).grown hg3 (Nat.le_refl _) (by simp)
   have ho3 := Own.of hown3
   clear hown3 hg3
   go_wp2_with fail
   go_loopw [24] (fun i wr => ∃ (j : Nat) (ys : List Value), j ≤ m ∧ i = .int .i64 j ∧ Own wr wo.heap.size 9 1 (.slice (some ⟨wo.heap.size, 0, none⟩) m m) m ys ∧ Below wo.heap.size wo wr ∧ Hid (∀ t, t < j → ys[t]? = (ss_ (p.map textL))[t]?)) (fun i _ => m - (intOf i).toNat)
   case atStart => exact ⟨0, _, Nat.zero_le _, rfl, ho3, hb3, Lib.hid fun j h => absurd h (by omega)⟩
   case round =>
    obtain ⟨j, ys, hj, rfl, hoi, hbi, hdi⟩ := hrel
    clear ho3 hb3
    have hlti : wo.heap.size < wr.heap.size := (hoi.lt wo.heap.size rfl).2
    by_cases hjm : j < m
    ·have hjp : j < p.length := by rw [HM.out]; exact hjm
     obtain ⟨b4, o4, hA4, hb4, hc4⟩ := (hrk.below hbi).int_at (by omega)
     cases hA4
     have hcj := hc4 j hjp
     obtain ⟨x, hx⟩ : ∃ x, p[j]'hjp = x := ⟨_, rfl⟩
     have hxr := HPO.out _ (List.getElem_mem hjp)
     rw [hx] at hcj hxr
     have HX := Lib.hid hx
     clear hx hc4
     obtain ⟨x0, x1⟩ := hxr
     go_wp2_with fail
     refine (text_any x _ (by omega) (by omega) (ht.below (hb.trans (hbi.mono hb.size)))).mono ?_
     rintro e w5 ⟨rfl, hb5⟩
     have ho5 := hoi.behind hb5
     have hyl : j < ys.length := by have := hoi.1; omega
     have hd1 := ho5.cellAt j hyl
     have hd2 := ho5.frozenAt j hyl
     have hbi5 : Below wo.heap.size wo w5 := hbi.trans (hb5.mono hbi.size)
     clear hb5 hcj
     go_wp2_with fail
     go_roundw
     case rel =>
      refine ⟨j + 1, _, by omega, by go_num, ho5.stored j _, hbi5.setCell (p := ⟨wo.heap.size, j, none⟩) (Nat.le_refl _) _, Lib.hid fun t ht => ?_⟩
      by_cases e : t = j
      ·subst e
       rw [List.getElem?_set_self hyl]
       simp [ss_, List.getElem?_eq_getElem hjp, HX.out]
      ·rw [List.getElem?_set_ne (fun h => e h.symm)]
       exact hdi.out t (by omega)
     case measure => simp [intOf]; omega
    ·have hrow := own_full hoi (l := ss_ (p.map textL)) (by simp [ss_, HM.out]) (fun t ht => hdi.out t (by omega))
     have hJ := Lib.hid (join_part p)
     have hlen := partL_len p HPO.out
     rw [HM.out] at hlen
     have hml := Lib.hid (show (p.map textL).length = m by rw [List.length_map]; exact HM.out)
     go_wp2_with fail
     refine (join_any (some ⟨wo.heap.size, 0, none⟩) m m (p.map textL) [58] (partL p) _ hml.out hJ.out (by omega) (Nat.le_refl _) (by omega) hrow).mono ?_
     rintro e w5 ⟨rfl, hb5⟩
     have hbi5 : Below wo.heap.size wo w5 := hbi.trans (hb5.mono hbi.size)
     have ho5 := ho.behind hbi5
     have hxl : k < xs.length := by have := ho.1; omega
     have hd1 := ho5.cellAt k hxl
     have hd2 := ho5.frozenAt k hxl
     have hb5' : Below w.heap.size w w5 := hb.trans (hbi5.mono hb.size)
     clear hb5 hrow
     go_wp2_with fail
     go_roundw
     case rel =>
      refine ⟨k + 1, _, by omega, by go_num, ho5.stored k _, hb5'.setCell (p := ⟨w.heap.size, k, none⟩) (Nat.le_refl _) _, Lib.hid fun t ht => ?_⟩
      by_cases e : t = k
      ·subst e
       rw [List.getElem?_set_self hxl]
       simp [ss_, List.getElem?_eq_getElem hkn, HPP.out]
      ·rw [List.getElem?_set_ne (fun h => e h.symm)]
       exact hdone.out t (by omega)
     case measure => simp [intOf]; omega
  ·have hrow := own_full ho (l := ss_ (ps.map partL)) (by simp [ss_, HN.out]) (fun t ht => hdone.out t (by omega))
   have hJ := Lib.hid (join_par ps)
   have hlen := parL_len ps HP8.out
   rw [HN.out] at hlen
   have hml := Lib.hid (show (ps.map partL).length = n by rw [List.length_map]; exact HN.out)
   go_wp2_with fail
   refine (join_any (some ⟨w.heap.size, 0, none⟩) n n (ps.map partL) [59] (parL ps) _ hml.out hJ.out (by omega) (Nat.le_refl _) (by omega) hrow).mono ?_
   rintro e w5 ⟨rfl, hb5⟩
   go_wp2_with fail
   go_ret
   exact ⟨rfl, hb.trans (hb5.mono hb.size)⟩
def pcsL (s : Sq) : List (List UInt8) := [[27], (formF s.kind).letter, privL s.priv, parL s.params, s.inter, privL s.final, s.data, (formF s.kind).en]
theorem pcs_put {s : Sq} (h : mayS s = 0) : Lib.join (pcsL s) [] = putS s := by
 obtain ⟨_, hv, hp, _, hi, hd, hl, hb⟩ := ok_parts h
 obtain ⟨k, pv, ps, it, f, d⟩ := s
 have hne : ∀ n : Nat, 1 ≤ n → btw n 126 f = true → privL f = [f] := fun n hn h => by
  unfold privL
  rw [if_neg]
  intro e
  rw [e, btw_iff] at h
  simp at h
  omega
 have hk : k = 1 ∨ k = 2 ∨ k = 3 ∨ k = 4 ∨ k = 5 := by
  unfold lastOk at hl
  dsimp only at hl
  split at hl
  ·omega
  ·split at hl
   ·omega
   ·simp only [Bool.and_eq_true, decide_eq_true_eq] at hl; omega
 have hj : ∀ l : List (List UInt8), Lib.join l [] = l.flatten := by
  intro l
  match l with
  | [] => rfl
  | [p] => simp [Lib.join]
  | p :: q :: l =>
    rw [join_cons2]
    have : ∀ l : List (List UInt8), Lib.join l [] = l.flatten := by
     intro l
     induction l with
     | nil => rfl
     | cons a l ih =>
       cases l with
       | nil => simp [Lib.join]
       | cons b l => rw [join_cons2, ih]; simp
    rw [this]
    simp
 rw [hj]
 unfold pcsL
 dsimp only at hv hp hi hd ⊢
 rcases hk with rfl | rfl | rfl | rfl | rfl
 ·have hf : btw 64 126 f = true := by simpa [lastOk] using hl
  have hd0 : d = [] := by simpa [bareOk] using hb
  subst hd0
  rw [hne 64 (by omega) hf]
  simp [formF, putS, bodyL]
 ·have h1 : pv = 0 ∧ ps = [] ∧ it = [] ∧ d = [] := by
   simp [bareOk] at hb
   obtain ⟨⟨⟨a, b⟩, c⟩, e⟩ := hb
   exact ⟨a, b, c, e⟩
  obtain ⟨rfl, rfl, rfl, rfl⟩ := h1
  have hf : btw 64 126 f = true := by simpa [lastOk] using hl
  rw [hne 64 (by omega) hf]
  simp [formF, putS, privL, parL]
 ·have hf : btw 64 126 f = true := by simpa [lastOk] using hl
  rw [hne 64 (by omega) hf]
  simp [formF, putS, bodyL]
 ·have h1 : pv = 0 ∧ ps = [] ∧ it = [] := by
   simp [bareOk] at hb
   exact ⟨hb.1.1, hb.1.2, hb.2⟩
  have hf : f = 0 := by simpa [lastOk] using hl
  obtain ⟨rfl, rfl, rfl⟩ := h1
  subst hf
  simp [formF, putS, privL, parL]
 ·have h1 : pv = 0 ∧ ps = [] ∧ d = [] := by
   simp [bareOk] at hb
   exact ⟨hb.1.1, hb.1.2, hb.2⟩
  obtain ⟨rfl, rfl, rfl⟩ := h1
  have hf : btw 48 126 f = true := by simp [lastOk] at hl; exact hl.1
  rw [hne 48 (by omega) hf]
  simp [formF, putS, privL, parL]
set_option maxRecDepth 100000 in
set_option maxHeartbeats 8000000 in
theorem pput_yes (s : Sq) (A : Option Addr) (c : Nat) (w : World) (hm : mayS s = 0) (ht : Tab w) (hr : RdP w A s.params) :
 Calls Tryz.prog 74 #[sqV s A c] w (WYes (putS s) w) := by
 obtain ⟨hdl, hv, hp, hil, hin, hd, hl, hbr⟩ := ok_parts hm
 obtain ⟨s1, s2, s3, s4⟩ := may_small hm
 obtain ⟨l16, l8⟩ := parOk_lens hp
 have hpp : Hid (∀ p ∈ s.params, p.length ≤ 4294967296) := Lib.hid fun p hp => by have := (l8 p hp).1; omega
 have HM := Lib.hid hm
 have HPO := Lib.hid hp
 have HJ := Lib.hid (pcs_put hm)
 have HKB := Lib.hid (show kindB s.kind = true from decide_eq_true s4)
 have hB : Below w.heap.size w (w.alloc (.cells (seqC s A c) 40)) := (Below.refl _ _).alloc (Nat.le_refl _) _
 clear hm hv hp hin hd hl hbr l8 s4
 unfold sqV
 go_enter Tryz.func74, Tryz.ntmps74
 go_wp2_with fail
 refine (pmay_any s A c 0 _ HM.out (by omega) hpp.out (by omega) (hr.below hB)).mono ?_
 rintro e w1 ⟨rfl, hb1⟩
 have hb1w : Below w.heap.size w w1 := hB.trans (hb1.mono (by simp [seqC]))
 have hq1 : Blk w1 w.heap.size 40 (seqC s A c) := (Blk.new w 40 (seqC s A c)).below hb1 (by simp [seqC])
 obtain ⟨c0, c1, c2, c3, c4, c5⟩ := Blk.cells6 hq1
 clear hb1 hB
 go_wp2_with fail
 refine (formOf_any s.kind _).mono ?_
 rw [HKB.out]
 rintro e w2 ⟨rfl, hb2⟩
 obtain ⟨f, hf⟩ : ∃ f, formF s.kind = f := ⟨_, rfl⟩
 have HF := Lib.hid hf
 rw [hf]
 clear hf
 have T1 : Two w (w2.alloc (.cells #[.string ⟨f.letter.toArray⟩, .bool f.body, .bool f.inter, .int .u8 (f.first.toNat : Int), .string ⟨f.en.toArray⟩] 65)) s A c f w2.heap.size :=
  ⟨(hq1.below hb2 hq1.lt).alloc _, Blk.new _ _ _, (hb1w.trans (hb2.mono hb1w.size)).alloc (Nat.le_trans hb1w.size hb2.size) _, Nat.lt_of_lt_of_le hq1.lt hb2.size⟩
 clear hb2 hq1 c0 c1 c2 c3 c4 c5 hb1w
 unfold fmV
 go_upto_region 5 with (fail)
 obtain ⟨⟨c0, c1, c2, c3, c4, c5⟩, f0, f1, f2, f3, f4⟩ := T1.cells
 generalize w2.alloc (.cells #[.string ⟨f.letter.toArray⟩, .bool f.body, .bool f.inter, .int .u8 (f.first.toNat : Int), .string ⟨f.en.toArray⟩] 65) = W1 at *
 have hltW : w2.heap.size < W1.heap.size := T1.fm.lt
 have hwW : w.heap.size ≤ W1.heap.size := T1.be.size
 obtain ⟨T, hT⟩ : ∃ T, putS s = T := ⟨_, rfl⟩
 have HTT := Lib.hid hT
 rw [hT] at s3 HJ
 clear hT
 obtain ⟨C, X, hX⟩ := conv_all Tryz.prog 9 27 5 T Tryz.underlying9 Tryz.underlying27 Tryz.underlying5 (by simp only [maxLen]; omega)
 have hV := fun W => (hX W).1
 have HX := Lib.hid (fun W => (hX W).2.2)
 have HC := Lib.hid (fun W => (hX W).2.1)
 have HS : Hid (∀ W, Below W1.heap.size W1 W → Below W1.heap.size W1 W ∧ W.cell? ⟨w.heap.size, 0, none⟩ = some (.int .i64 s.kind) ∧ W.cell? ⟨w.heap.size, 1, none⟩ = some (.int .u8 (s.priv.toNat : Int)) ∧ W.cell? ⟨w.heap.size, 2, none⟩ = some (.slice A s.params.length c) ∧ W.cell? ⟨w.heap.size, 3, none⟩ = some (.string ⟨s.inter.toArray⟩) ∧ W.cell? ⟨w.heap.size, 4, none⟩ = some (.int .u8 (s.final.toNat : Int)) ∧ W.cell? ⟨w.heap.size, 5, none⟩ = some (.string ⟨s.data.toArray⟩) ∧ W.cell? ⟨w2.heap.size, 0, none⟩ = some (.string ⟨f.letter.toArray⟩) ∧ W.cell? ⟨w2.heap.size, 4, none⟩ = some (.string ⟨f.en.toArray⟩)) := Lib.hid fun W hb =>
  ⟨hb, (hb.cell (p := ⟨w.heap.size, 0, none⟩) T1.sq.lt).trans c0, (hb.cell (p := ⟨w.heap.size, 1, none⟩) T1.sq.lt).trans c1, (hb.cell (p := ⟨w.heap.size, 2, none⟩) T1.sq.lt).trans c2, (hb.cell (p := ⟨w.heap.size, 3, none⟩) T1.sq.lt).trans c3, (hb.cell (p := ⟨w.heap.size, 4, none⟩) T1.sq.lt).trans c4, (hb.cell (p := ⟨w.heap.size, 5, none⟩) T1.sq.lt).trans c5, (hb.cell (p := ⟨w2.heap.size, 0, none⟩) hltW).trans f0, (hb.cell (p := ⟨w2.heap.size, 4, none⟩) hltW).trans f4⟩
 have HTab : Hid (∀ W, Below W1.heap.size W1 W → Tab W) := Lib.hid fun W hb => ht.below (T1.be.trans (hb.mono hwW))
 have HRd : Hid (∀ W, Below W1.heap.size W1 W → RdP W A s.params) := Lib.hid fun W hb => hr.below (T1.be.trans (hb.mono hwW))
 have HJ2 := Lib.hid (show Lib.join [[27], f.letter, privL s.priv, parL s.params, s.inter, privL s.final, s.data, f.en] [] = T by rw [← HJ.out]; unfold pcsL; rw [HF.out])
 clear hX c0 c1 c2 c3 c4 c5 f0 f1 f2 f3 f4
 go_region_held (fun w' => Below W1.heap.size W1 w' ∧ w'.cell? ⟨w.heap.size, 0, none⟩ = some (.int .i64 s.kind) ∧ w'.cell? ⟨w.heap.size, 1, none⟩ = some (.int .u8 (s.priv.toNat : Int)) ∧ w'.cell? ⟨w.heap.size, 2, none⟩ = some (.slice A s.params.length c) ∧ w'.cell? ⟨w.heap.size, 3, none⟩ = some (.string ⟨s.inter.toArray⟩) ∧ w'.cell? ⟨w.heap.size, 4, none⟩ = some (.int .u8 (s.final.toNat : Int)) ∧ w'.cell? ⟨w.heap.size, 5, none⟩ = some (.string ⟨s.data.toArray⟩) ∧ w'.cell? ⟨w2.heap.size, 0, none⟩ = some (.string ⟨f.letter.toArray⟩) ∧ w'.cell? ⟨w2.heap.size, 4, none⟩ = some (.string ⟨f.en.toArray⟩))
  (first | exact HS.out _ (Below.refl _ _).drew | exact HS.out _ ((Below.refl _ _).drew.trans hb3) | exact HS.out _ (((Below.refl _ _).drew.trans hb3).alloc hb3.size _) | exact HS.out _ ((((Below.refl _ _).drew.trans hb3).alloc hb3.size _).trans (hb4.mono (Nat.le_trans (show W1.heap.size ≤ w3.heap.size from hb3.size) (by simp)))) | exact HS.out _ (((((Below.refl _ _).drew.trans hb3).alloc hb3.size _).trans (hb4.mono (Nat.le_trans (show W1.heap.size ≤ w3.heap.size from hb3.size) (by simp)))).trans ((HX.out _).2.mono (Nat.le_trans (show W1.heap.size ≤ w3.heap.size from hb3.size) (Nat.le_trans (by simp) hb4.size)))))
  (first
    | (go_at_call 112; refine (char_any s.priv _ s1).mono ?_; rintro e wc ⟨rfl, rfl⟩)
    | (go_at_call 112; refine (char_any s.final _ s2).mono ?_; rintro e wc ⟨rfl, rfl⟩)
    | (go_at_call 113; refine (ptext_any A c s.params _ HPO.out (HTab.out _ (Below.refl _ _).drew) (HRd.out _ (Below.refl _ _).drew)).mono ?_; rintro e w3 ⟨rfl, hb3⟩)
    | (go_at_call 111; refine (join_any _ 8 8 [[27], f.letter, privL s.priv, parL s.params, s.inter, privL s.final, s.data, f.en] [] T _ rfl HJ2.out (by omega) (Nat.le_refl _) (by omega) (Rd.block (heap_alloc_new _ _) rfl)).mono ?_; rintro e w4 ⟨rfl, hb4⟩))
 have hbX : Below W1.heap.size W1 (X w4) := ((((Below.refl _ _).drew.trans hb3).alloc hb3.size _).trans (hb4.mono (Nat.le_trans (show W1.heap.size ≤ w3.heap.size from hb3.size) (by simp)))).trans ((HX.out _).2.mono (Nat.le_trans (show W1.heap.size ≤ w3.heap.size from hb3.size) (Nat.le_trans (by simp) hb4.size)))
 have hrX := (HX.out w4).1
 have hcX := HC.out w4
 clear hV HX HS HTab HRd hb3 hb4
 generalize X w4 = W5 at *
 go_wp2_with fail
 go_ret2
 rw [HTT.out]
 exact ⟨⟨_, _, rfl, hcX, hrX⟩, T1.be.trans (hbX.mono hwW)⟩
def typeN (n : Int) : Bool := n == 1 || n == 2 || n == 3
theorem type_eq (n : Int) : typeN n = (!(decide (n < 1) || decide (3 < n))) := by
 unfold typeN
 rw [Bool.eq_iff_iff]
 simp only [Bool.or_eq_true, beq_iff_eq, Bool.not_eq_true', Bool.or_eq_false_iff, decide_eq_false_iff_not]
 omega
theorem are_eq (n : Int) : areN n = (!(decide (n < 0) || decide (255 < n))) := by
 unfold areN
 rw [Bool.eq_iff_iff]
 simp only [Bool.and_eq_true, decide_eq_true_eq, Bool.not_eq_true', Bool.or_eq_false_iff, decide_eq_false_iff_not]
 omega
set_option maxRecDepth 100000 in
theorem type_any (n : Int) (w : World) : Calls Tryz.prog 99 #[.int .i64 n] w fun e w' => e = .returned (.bool (typeN n)) ∧ Below w.heap.size w w' := by
 unfold typeN
 obtain ⟨a, ha⟩ : ∃ a, (n == 1) = a := ⟨_, rfl⟩
 obtain ⟨b, hb⟩ : ∃ a, (n == 2) = a := ⟨_, rfl⟩
 obtain ⟨c, hc⟩ : ∃ a, (n == 3) = a := ⟨_, rfl⟩
 rw [ha, hb, hc]
 go_enter Tryz.func99, Tryz.ntmps99
 cases a <;> cases b <;> cases c <;> (go_wp2_with fail; go_ret; exact ⟨rfl, Below.refl _ _⟩)
set_option maxRecDepth 100000 in
theorem tn_any (c : Int) (w : World) (hs : Siz w) (hR : Rws w) : Calls Tryz.prog 100 #[.int .i64 c] w fun e w' => e = .returned (.bool (c == 0 || textK c)) ∧ Below w.heap.size w w' := by
 obtain ⟨a, ha⟩ : ∃ a, (c == 0) = a := ⟨_, rfl⟩
 obtain ⟨ki, hki⟩ : ∃ q, (lookE c).kind = q := ⟨_, rfl⟩
 have hf : ∀ W : World, (Instr.field 36 (enV (lookE c)) 0).run Tryz.prog W = .ok (.int .i64 ki) W := fun W => by
  rw [← hki]
  exact (by kernel_rfl : (Instr.field 36 (enV (lookE c)) 0).run Tryz.prog W = .ok (.int .i64 (lookE c).kind) W)
 have hlook := plook_any c w hs hR
 have HT := Lib.hid (show textK c = (ki == 1) by unfold textK; rw [hki])
 obtain ⟨q, hq⟩ : ∃ q, (ki == 1) = q := ⟨_, rfl⟩
 rw [HT.out, ha, hq]
 obtain ⟨E, hE⟩ : ∃ E, enV (lookE c) = E := ⟨_, rfl⟩
 rw [hE] at hf hlook
 clear hE hki HT hs hR
 go_enter Tryz.func100, Tryz.ntmps100
 cases a with
 | true =>
   go_wp2_with fail
   go_ret
   exact ⟨rfl, Below.refl _ _⟩
 | false =>
   go_wp2_with fail
   refine hlook.mono ?_
   clear hlook
   rintro e w1 ⟨rfl, hb1⟩
   go_wp2_with fail
   go_ret
   exact ⟨rfl, hb1⟩
set_option maxRecDepth 100000 in
set_option maxHeartbeats 8000000 in
theorem pmods_may (k : Ky) (hs : k.text.size ≤ 4294967296) (w : World) (hz : Siz w) (hR : Rws w) : Calls Tryz.prog 66 #[kyV k] w fun e w' => e = .returned (.bool (mayK k)) ∧ Below w.heap.size w w' := by
 obtain ⟨code, mods, typ, shift, base, text⟩ := k
 simp only at hs
 have HLK : Hid (∀ W, Siz W → Rws W → Calls Tryz.prog 15 #[.int .i64 code] W fun e w' => e = .returned (enV (lookE code)) ∧ Below W.heap.size W w') := Lib.hid fun W a b => plook_any code W a b
 obtain ⟨ki, hki⟩ : ∃ q, (lookE code).kind = q := ⟨_, rfl⟩
 have hf : ∀ W : World, (Instr.field 36 (enV (lookE code)) 0).run Tryz.prog W = .ok (.int .i64 ki) W := fun W => by
  rw [← hki]
  exact (by kernel_rfl : (Instr.field 36 (enV (lookE code)) 0).run Tryz.prog W = .ok (.int .i64 (lookE code).kind) W)
 obtain ⟨n0, h0⟩ : ∃ a, (ki != 0) = a := ⟨_, rfl⟩
 obtain ⟨am, h1⟩ : ∃ a, areN mods = a := ⟨_, rfl⟩
 obtain ⟨ty, h2⟩ : ∃ a, typeN typ = a := ⟨_, rfl⟩
 obtain ⟨p, hp⟩ : ∃ a, (shift == 0 || textK shift) = a := ⟨_, rfl⟩
 obtain ⟨q, hq⟩ : ∃ a, (base == 0 || textK base) = a := ⟨_, rfl⟩
 obtain ⟨r, hr⟩ : ∃ a, cleanB text = a := ⟨_, rfl⟩
 have HM := Lib.hid (show mayK ⟨code, mods, typ, shift, base, text⟩ = (n0 && (am && (ty && (p && (q && r))))) by
  rw [← h0, ← hki, ← h1, ← h2, ← hp, ← hq, ← hr, are_eq, type_eq]
  show (!((lookE code).kind == 0 || decide (mods < 0) || decide (255 < mods) || decide (typ < 1) || decide (3 < typ)) && ((shift == 0 || textK shift) && (base == 0 || textK base) && cleanB text)) = _
  show _ = ((!((lookE code).kind == 0)) && _)
  generalize ((lookE code).kind == 0) = x1
  generalize decide (mods < 0) = x2
  generalize decide (255 < mods) = x3
  generalize decide (typ < 1) = x4
  generalize decide (3 < typ) = x5
  generalize (shift == 0 || textK shift) = x6
  generalize (base == 0 || textK base) = x7
  generalize cleanB text = x8
  revert x1 x2 x3 x4 x5 x6 x7 x8
  decide)
 have HA : Hid (∀ W, Calls Tryz.prog 98 #[.int .i64 mods] W fun e w' => e = .returned (.bool am) ∧ Below W.heap.size W w') := Lib.hid fun W => are_at h1 W
 have HT : Hid (∀ W, Calls Tryz.prog 99 #[.int .i64 typ] W fun e w' => e = .returned (.bool ty) ∧ Below W.heap.size W w') := Lib.hid fun W => by
  have := type_any typ W
  rwa [h2] at this
 have HP : Hid (∀ W, Siz W → Rws W → Calls Tryz.prog 100 #[.int .i64 shift] W fun e w' => e = .returned (.bool p) ∧ Below W.heap.size W w') := Lib.hid fun W a b => by
  have := tn_any shift W a b
  rwa [hp] at this
 have HQ : Hid (∀ W, Siz W → Rws W → Calls Tryz.prog 100 #[.int .i64 base] W fun e w' => e = .returned (.bool q) ∧ Below W.heap.size W w') := Lib.hid fun W a b => by
  have := tn_any base W a b
  rwa [hq] at this
 have HC : Hid (∀ W, Siz W → Calls Tryz.prog 101 #[.string text] W fun e w' => e = .returned (.bool r) ∧ Below W.heap.size W w') := Lib.hid fun W a => by
  have := pkeytext_any text hs W a
  rwa [hr] at this
 obtain ⟨E, hE⟩ : ∃ E, enV (lookE code) = E := ⟨_, rfl⟩
 rw [hE] at HLK hf
 rw [HM.out]
 clear hE hki hp hq hr hs HM h1 h2
 have hB := ky_box w ⟨code, mods, typ, shift, base, text⟩
 have k0 := Blk.new w 25 (kyC ⟨code, mods, typ, shift, base, text⟩)
 rw [kyV]
 rw [kyC] at hB k0
 simp only at hB k0 ⊢
 have hz0 := hz.below' hB
 have hR0 := hR.below hB
 have c0 := k0.cell 0
 go_enter Tryz.func66, Tryz.ntmps66
 go_wp2_with fail
 refine (HLK.out _ hz0 hR0).mono ?_
 rintro e w1 ⟨rfl, hb1⟩
 have k1 := k0.below hb1 k0.lt
 have hB1 := hB.trans (hb1.mono hB.size)
 clear HLK k0 hB hb1 c0 hz0 hR0
 have c1 := k1.cell 1
 cases n0 with
 | false =>
   go_wp2_with fail
   go_ret
   exact ⟨rfl, hB1⟩
 | true =>
 go_wp2_with fail
 refine (HA.out _).mono ?_
 rintro e w2 ⟨rfl, hb2⟩
 have k2 := k1.below hb2 k1.lt
 have hB2 := hB1.trans (hb2.mono hB1.size)
 clear HA k1 hB1 hb2 c1
 have c2 := k2.cell 2
 cases am with
 | false =>
   go_wp2_with fail
   go_ret
   exact ⟨rfl, hB2⟩
 | true =>
 go_wp2_with fail
 refine (HT.out _).mono ?_
 rintro e w3 ⟨rfl, hb3⟩
 have k3 := k2.below hb3 k2.lt
 have hB3 := hB2.trans (hb3.mono hB2.size)
 clear HT k2 hB2 hb3 c2
 have c3 := k3.cell 3
 cases ty with
 | false =>
   go_wp2_with fail
   go_ret
   exact ⟨rfl, hB3⟩
 | true =>
 go_wp2_with fail
 refine (HP.out _ (hz.below' hB3) (hR.below hB3)).mono ?_
 rintro e w4 ⟨rfl, hb4⟩
 have k4 := k3.below hb4 k3.lt
 have hB4 := hB3.trans (hb4.mono hB3.size)
 clear HP k3 hB3 hb4 c3
 have c4 := k4.cell 4
 cases p with
 | false =>
   go_wp2_with fail
   go_ret
   exact ⟨rfl, hB4⟩
 | true =>
 go_wp2_with fail
 refine (HQ.out _ (hz.below' hB4) (hR.below hB4)).mono ?_
 rintro e w5 ⟨rfl, hb5⟩
 have k5 := k4.below hb5 k4.lt
 have hB5 := hB4.trans (hb5.mono hB4.size)
 clear HQ k4 hB4 hb5 c4
 have c5 := k5.cell 5
 cases q with
 | false =>
   go_wp2_with fail
   go_ret
   exact ⟨rfl, hB5⟩
 | true =>
 go_wp2_with fail
 refine (HC.out _ (hz.below' hB5)).mono ?_
 rintro e w6 ⟨rfl, hb6⟩
 have hB6 := hB5.trans (hb6.mono hB5.size)
 clear HC k5 hB5 hb6 c5
 go_wp2_with fail
 go_ret
 exact ⟨rfl, hB6⟩
end Go.Proofs.YtceipblcdcgljaaGreatDoor
