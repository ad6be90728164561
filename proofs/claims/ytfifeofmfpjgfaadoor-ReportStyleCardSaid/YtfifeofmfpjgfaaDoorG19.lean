/-
  Stage 18, the landed style, walked: Text. Layer 3, walked: the program's Num.
-/
import Derived.Test.YtfifeofmfpjgfaaDoorG03
import Derived.Test.YtfifeofmfpjgfaaDoorG08
import Derived.Test.YtfifeofmfpjgfaaDoorG11
import Derived.Test.YtfifeofmfpjgfaaDoorG12
import Derived.Test.YtfifeofmfpjgfaaDoorG13
import Derived.Test.YtfifeofmfpjgfaaDoorG17
import Derived.Laws.OwnMore
import Derived.Deep.Cut
namespace Go.Proofs.YtfifeofmfpjgfaaDoor
open Go.RowKit
theorem sjoin_any (A : Option Addr) (n c : Nat) (l : List (List UInt8)) (sep T : List UInt8) (w : World) (hn : l.length = n) (hT : Lib.join l sep = T) (hl : n ≤ 4294967296) (hc : n ≤ c) (hlen : T.length ≤ 140737488355328) (hr : Rd w A (ss_ l)) :
 Calls Tryd.prog 66 #[.slice A n c, .string ⟨sep.toArray⟩] w fun e w' => e = .returned (.string ⟨T.toArray⟩) ∧ Below w.heap.size w w' := by
 have hm : (l.map fun t : List UInt8 => (⟨t.toArray⟩ : ByteArray)).map (·.data.toList) = l := by
  rw [List.map_map]
  calc l.map _ = l.map id := List.map_congr_left (fun x _ => by simp)
   _ = l := List.map_id l
 by_cases h0 : n = 0
 ·subst h0
  have e0 : l = [] := List.eq_nil_of_length_eq_zero hn
  subst e0
  obtain rfl : [] = T := hT
  refine (Tryd.strings_Join_none A c _ _).mono ?_
  rintro e w1 ⟨rfl, rfl⟩
  exact ⟨rfl, Below.refl _ _⟩
 ·obtain ⟨b, o, rfl, hb, hcc⟩ := hr (by simp [ss_]; omega)
  have hcells : ∀ (j : Nat) (x : ByteArray), (l.map fun t : List UInt8 => (⟨t.toArray⟩ : ByteArray))[j]? = some x → w.cell? ⟨b, o + j, none⟩ = some (.string x) := fun j x hx => hcc j _ (by
   unfold ss_
   rw [List.getElem?_map] at hx ⊢
   cases hj : l[j]? with
   | none => rw [hj] at hx; cases hx
   | some t => rw [hj] at hx; simp at hx; subst hx; rfl)
  have hJ := Tryd.strings_Join b o c (l.map fun t : List UInt8 => (⟨t.toArray⟩ : ByteArray)) ⟨sep.toArray⟩ w hcells hb (by rw [List.length_map]; omega) (by rw [List.length_map]; omega) (by rw [hm]; show (Lib.join l sep).length ≤ _; rw [hT]; exact hlen)
  rw [List.length_map, hm, hn] at hJ
  refine hJ.mono ?_
  rintro e w1 ⟨rfl, hb1⟩
  exact ⟨by show _ = Ending.returned (.string ⟨T.toArray⟩); rw [← hT], hb1⟩
def Fill (k : Nat) (xs : List Value) (l : List (List UInt8)) : Prop := ∀ j, j < k → xs[j]? = (ss_ l)[j]?
theorem Fill.step {k : Nat} {xs : List Value} {l : List (List UInt8)} (h : Fill k xs l) (hk : k < l.length) (hx : k < xs.length) {t : List UInt8} (ht : l[k] = t) : Fill (k + 1) (xs.set k (.string ⟨t.toArray⟩)) l := fun j hj => by
 by_cases e : j = k
 ·subst e
  rw [List.getElem?_set_self hx, ss_, List.getElem?_map, List.getElem?_eq_getElem hk, ht]
  rfl
 ·rw [List.getElem?_set_ne (fun h => e h.symm)]
  exact h j (by omega)
theorem Fill.all {xs : List Value} {l : List (List UInt8)} (h : Fill l.length xs l) (hx : xs.length = l.length) : xs = ss_ l := by
 refine List.ext_getElem? fun j => ?_
 by_cases hj : j < l.length
 ·exact h j hj
 ·rw [List.getElem?_eq_none (by omega), List.getElem?_eq_none (by rw [ss_, List.length_map]; omega)]
set_option maxRecDepth 100000 in
set_option maxHeartbeats 16000000 in
theorem sText_any (A : Option Addr) (l : List (List Int)) (n c : Nat) (hn : l.length = n) (hln : n ≤ 4294967296) (hlp : ∀ p ∈ l, p.length ≤ 4294967296 ∧ (partL p).length ≤ 140737488355328) (hlT : (parL l).length ≤ 140737488355328) (w : World) (ht : Tab w) (hl : LsIn w A l) :
 Calls Tryd.prog 53 #[.slice A n c] w fun e w' => e = .returned (.string ⟨(parL l).toArray⟩) ∧ Below w.heap.size w w' := by
 obtain ⟨i0, hi, hz0, hz1, hz2⟩ : ∃ i, Tryd.prog.info? 9 = some i ∧ i.zero = some (.string ⟨#[]⟩) ∧ i.size = 1 ∧ i.bytes = 16 := ⟨_, rfl, rfl, rfl, rfl⟩
 have HN := Lib.hid hn
 have HLP := Lib.hid hlp
 have HLT := Lib.hid hlT
 clear hlp hlT hn
 go_enter Tryd.func53, Tryd.ntmps53
 go_wp2_with (at_make; refine wpList_make_full _ rfl _ _ 89 rfl w.heap.size 9 i0 _ 1 Tryd.underlying89 hi hz0 hz1 _ _ _ _ n rfl rfl ?d0 ?d1 ?d2 ?d3 ?d4 ?_)
 case d0 => rfl
 case d1 => rfl
 case d2 => rw [hz2]; omega
 case d3 => simp only [maxLen]; omega
 case d4 => exact Nat.le_refl _
 intro w1 hown1 hg1
 have hb1 : Below w.heap.size w w1 := (Below.refl _ _).grown hg1 (Nat.le_refl _) (by simp)
 have ho1 := Own.of hown1
 clear hg1 hown1
 obtain ⟨g, hg⟩ : ∃ g, w.heap.size = g := ⟨_, rfl⟩
 rw [hg] at ho1 ⊢
 have HG := Lib.hid hg
 go_wp2_with fail
 go_loopw [14] (fun z wr => ∃ (i : Nat) (xs : List Value), i ≤ n ∧ z = .int .i64 i ∧ Own wr g 9 1 (.slice (some ⟨g, 0, none⟩) n n) n xs ∧ Hid (Fill i xs (l.map partL)) ∧ Below w.heap.size w wr) (fun z _ => n - (intOf z).toNat)
 case atStart => exact ⟨0, _, Nat.zero_le _, rfl, ho1, Lib.hid fun j hj => absurd hj (by omega), hb1⟩
 case round =>
  obtain ⟨i, xs, hi', rfl, ho, hfill, hbw⟩ := hrel
  clear ho1 hb1
  by_cases hlt : i < n
  ·have t1 : (i : Int) < (n : Int) := by omega
   have t0 : (0 : Int) ≤ (i : Int) := by omega
   have t2 : IntKind.i64.wrap ((i : Int) + 1) = (i : Int) + 1 := by rw [IntKind.wrap_i64]; omega
   have hii : i < l.length := by have := HN.out; omega
   obtain ⟨b, o, rfl, hbb, hc⟩ := hl.rd (by omega)
   obtain ⟨A', c', hc', hcell, hr'⟩ := hc i hii
   have hcell' := (hbw.cell (p := ⟨b, o + i, none⟩) hbb).trans hcell
   have HNR : Hid (∀ n ∈ l[i], in18 n) := Lib.hid fun n hn => hl.nr _ (List.getElem_mem hii) n hn
   obtain ⟨hp1, hp2⟩ := HLP.out _ (List.getElem_mem hii)
   obtain ⟨p, hp⟩ : ∃ p, l[i] = p := ⟨_, rfl⟩
   have HSP : Hid ((l.map partL)[i]'(by rw [List.length_map]; exact hii) = partL p) := Lib.hid (by rw [List.getElem_map, hp])
   rw [hp] at HNR hc' hcell' hr' hp1 hp2
   obtain ⟨k, hk⟩ : ∃ k, p.length = k := ⟨_, rfl⟩
   rw [hk] at hc' hcell' hp1
   have HK := Lib.hid hk
   have HPT := Lib.hid hp2
   have hsg : g ≤ wr.heap.size := by have := hbw.size; have := HG.out; omega
   clear hc hcell hp hk hp2
   go_wp2_with (at_make; refine wpList_make_full _ rfl _ _ 89 rfl wr.heap.size 9 i0 _ 1 Tryd.underlying89 hi hz0 hz1 _ _ _ _ k rfl rfl ?d0 ?d1 ?d2 ?d3 ?d4 ?_)
   case d0 => rfl
   case d1 => rfl
   case d2 => rw [hz2]; omega
   case d3 => simp only [maxLen]; omega
   case d4 => exact Nat.le_refl _
   intro w2 hown2 hg2
   have hb2 : Below wr.heap.size wr w2 := (Below.refl _ _).grown hg2 (Nat.le_refl _) (by simp)
   have ho2 := Own.of hown2
   clear hg2 hown2
   obtain ⟨h, hh⟩ : ∃ h, wr.heap.size = h := ⟨_, rfl⟩
   rw [hh] at ho2 ⊢
   have HH := Lib.hid hh
   go_wp2_with fail
   go_loopw [24] (fun z wr' => ∃ (j : Nat) (ys : List Value), j ≤ k ∧ z = .int .i64 j ∧ Own wr' h 9 1 (.slice (some ⟨h, 0, none⟩) k k) k ys ∧ Hid (Fill j ys (p.map textL)) ∧ Below wr.heap.size wr wr') (fun z _ => k - (intOf z).toNat)
   case atStart => exact ⟨0, _, Nat.zero_le _, rfl, ho2, Lib.hid fun j hj => absurd hj (by omega), hb2⟩
   case round =>
    obtain ⟨j, ys, hj', rfl, hoy, hfy, hbv⟩ := hrel
    clear ho2 hb2
    have hbX := hbw.trans (hbv.mono hbw.size)
    by_cases hlj : j < k
    ·have v1 : (j : Int) < (k : Int) := by omega
     have v0 : (0 : Int) ≤ (j : Int) := by omega
     have v2 : IntKind.i64.wrap ((j : Int) + 1) = (j : Int) + 1 := by rw [IntKind.wrap_i64]; omega
     have hjj : j < p.length := by have := HK.out; omega
     obtain ⟨b', o', hA', hbb', hcc'⟩ := (hr'.below hbX).int_at (by omega)
     subst hA'
     have hcj := hcc' j hjj
     have HR := Lib.hid (HNR.out _ (List.getElem_mem hjj))
     have HST : Hid ((p.map textL)[j]'(by rw [List.length_map]; exact hjj) = textL p[j]) := Lib.hid (by rw [List.getElem_map])
     obtain ⟨r, hrr⟩ : ∃ r, p[j] = r := ⟨_, rfl⟩
     rw [hrr] at hcj HR HST
     clear hcc' hrr
     go_wp2_with fail
     refine (text_any r _ HR.out.1 HR.out.2 (ht.below hbX)).mono ?_
     rintro e w4 ⟨rfl, hb4⟩
     have ho4 := hoy.behind hb4
     have hbv4 := hbv.trans (hb4.mono hbv.size)
     have hyl : j < ys.length := by have := hoy.1; omega
     have hce := ho4.cellAt j hyl
     have hfe := ho4.frozenAt j hyl
     clear hoy hbv hb4 hbX
     go_wp2_with fail
     go_roundw
     case rel => exact ⟨j + 1, _, by omega, by go_num, ho4.stored j _, Lib.hid (hfy.out.step (by rw [List.length_map]; exact hjj) hyl HST.out), hbv4.setCell (p := ⟨h, j, none⟩) (Nat.le_of_eq HH.out) _⟩
     case measure => simp [intOf]; omega
    ·have v1 : ¬ ((j : Int) < (k : Int)) := by omega
     obtain rfl : k = j := by omega
     have hyx : ys = ss_ (p.map textL) := Fill.all (by rw [List.length_map, HK.out]; exact hfy.out) (by have := hoy.1; rw [List.length_map, HK.out]; omega)
     rw [hyx] at hoy
     clear hyx hfy
     have hrs := hoy.rd
     have HLm := Lib.hid (show (p.map textL).length = k by rw [List.length_map]; exact HK.out)
     have hoB := ho.below hbv (fun k hk => (ho.lt k hk).2)
     clear ho hoy hcell' hr'
     go_wp2_with fail
     refine (sjoin_any _ k _ (p.map textL) [58] (partL p) _ HLm.out (join_part p) (by omega) (Nat.le_refl _) HPT.out hrs).mono ?_
     rintro e w5 ⟨rfl, hb5⟩
     have ho5 := hoB.behind hb5
     have hB5 := hbX.trans (hb5.mono hbX.size)
     have hxl : i < xs.length := by have := hoB.1; omega
     have hce := ho5.cellAt i hxl
     have hfe := ho5.frozenAt i hxl
     clear hoB hbv hb5 hbX hrs hbw
     go_wp2_with fail
     go_roundw
     case rel => exact ⟨i + 1, _, by omega, by go_num, ho5.stored i _, Lib.hid (hfill.out.step (by rw [List.length_map]; exact hii) hxl HSP.out), hB5.setCell (p := ⟨g, i, none⟩) (Nat.le_of_eq HG.out) _⟩
     case measure => simp [intOf]; omega
  ·have t1 : ¬ ((i : Int) < (n : Int)) := by omega
   obtain rfl : n = i := by omega
   have hxx : xs = ss_ (l.map partL) := Fill.all (by rw [List.length_map, HN.out]; exact hfill.out) (by have := ho.1; rw [List.length_map, HN.out]; omega)
   rw [hxx] at ho
   clear hxx hfill
   have hrs := ho.rd
   have HLm := Lib.hid (show (l.map partL).length = n by rw [List.length_map]; exact HN.out)
   clear ho
   go_wp2_with fail
   refine (sjoin_any _ n _ (l.map partL) [59] (parL l) _ HLm.out (join_par l) hln (Nat.le_refl _) HLT.out hrs).mono ?_
   rintro e w5 ⟨rfl, hb5⟩
   have hB5 := hbw.trans (hb5.mono hbw.size)
   go_wp2_with fail
   go_ret
   exact ⟨rfl, hB5⟩
def numS (a b : UInt8) (l : List Int) : Sq := ⟨1, a, l.map fun n => [n], [], b, []⟩
def NumPN (a b : UInt8) (l : List Int) (w : World) (e : Ending) (w' : World) : Prop :=
 (∃ A c g, e = .returned (sqV (numS a b l) A c) ∧ RdPN g w' A (numS a b l).params) ∧ Below w.heap.size w w'
set_option maxRecDepth 100000 in
set_option maxHeartbeats 8000000 in
theorem num_anyN (a b : UInt8) (A : Option Addr) (n c : Nat) (l : List Int) (w : World) (hn : l.length = n) (hl : n ≤ 4294967296) (hr : Rd w A (is_ l)) :
 Calls Tryd.prog 30 #[.int .u8 (a.toNat : Int), .int .u8 (b.toNat : Int), .slice A n c] w (NumPN a b l w) := by
 obtain ⟨j0, hj, hy0, hy1, hy2⟩ : ∃ i, Tryd.prog.info? 52 = some i ∧ i.zero = some (.slice none 0 0) ∧ i.size = 1 ∧ i.bytes = 24 := ⟨_, rfl, rfl, rfl, rfl⟩
 have HN := Lib.hid hn
 clear hn
 go_enter Tryd.func30, Tryd.ntmps30
 go_wp2_with fail
 have hb0 : Below w.heap.size w ((w.alloc (.cells #[.int .i64 0, .int .u8 0, .slice none 0 0, .string ⟨#[]⟩, .int .u8 0, .string ⟨#[]⟩] 30)).alloc (.cells #[.int .i64 1, .int .u8 (a.toNat : Int), .slice none 0 0, .string ⟨#[]⟩, .int .u8 (b.toNat : Int), .string ⟨#[]⟩] 30)) := ((Below.refl _ w).alloc (Nat.le_refl _) _).alloc (by simp) _
 have hz0 : Blk ((w.alloc (.cells #[.int .i64 0, .int .u8 0, .slice none 0 0, .string ⟨#[]⟩, .int .u8 0, .string ⟨#[]⟩] 30)).alloc (.cells #[.int .i64 1, .int .u8 (a.toNat : Int), .slice none 0 0, .string ⟨#[]⟩, .int .u8 (b.toNat : Int), .string ⟨#[]⟩] 30)) w.heap.size 30 #[.int .i64 0, .int .u8 0, .slice none 0 0, .string ⟨#[]⟩, .int .u8 0, .string ⟨#[]⟩] := (Blk.new w _ _).alloc _
 have hs0 := Blk.new (w.alloc (.cells #[.int .i64 0, .int .u8 0, .slice none 0 0, .string ⟨#[]⟩, .int .u8 0, .string ⟨#[]⟩] 30)) 30 #[.int .i64 1, .int .u8 (a.toNat : Int), .slice none 0 0, .string ⟨#[]⟩, .int .u8 (b.toNat : Int), .string ⟨#[]⟩]
 rw [World.size_alloc] at hs0
 have hsz : ((w.alloc (.cells #[.int .i64 0, .int .u8 0, .slice none 0 0, .string ⟨#[]⟩, .int .u8 0, .string ⟨#[]⟩] 30)).alloc (.cells #[.int .i64 1, .int .u8 (a.toNat : Int), .slice none 0 0, .string ⟨#[]⟩, .int .u8 (b.toNat : Int), .string ⟨#[]⟩] 30)).heap.size = w.heap.size + 2 := by simp
 have HSZ := Lib.hid hsz
 clear hsz
 generalize ((w.alloc (.cells #[.int .i64 0, .int .u8 0, .slice none 0 0, .string ⟨#[]⟩, .int .u8 0, .string ⟨#[]⟩] 30)).alloc (.cells #[.int .i64 1, .int .u8 (a.toNat : Int), .slice none 0 0, .string ⟨#[]⟩, .int .u8 (b.toNat : Int), .string ⟨#[]⟩] 30)) = W0 at *
 have hg1 : w.heap.size < w.heap.size + 1 := Nat.lt_succ_self _
 have hg2 : w.heap.size + 1 < W0.heap.size := hs0.lt
 generalize w.heap.size + 1 = g at *
 go_loopw [15] (fun i wr => ∃ (k : Nat) (v : Value) (xs : List Value), k ≤ n ∧ i = .int .i64 k ∧ Own wr W0.heap.size 52 1 v k xs ∧ (∃ B2, B2 ≤ wr.heap.size ∧ Rows wr B2 3 xs ((l.take k).map fun n => [n])) ∧ Blk wr w.heap.size 30 #[.int .i64 0, .int .u8 0, .slice none 0 0, .string ⟨#[]⟩, .int .u8 0, .string ⟨#[]⟩] ∧ Blk wr g 30 #[.int .i64 1, .int .u8 (a.toNat : Int), v, .string ⟨#[]⟩, .int .u8 (b.toNat : Int), .string ⟨#[]⟩] ∧ Below w.heap.size w wr ∧ W0.heap.size ≤ wr.heap.size) (fun i _ => n - (intOf i).toNat)
 case atStart => exact ⟨0, _, [], Nat.zero_le _, rfl, Own.nil_ _ _ _ _, ⟨0, Nat.zero_le _, by rfl, fun k hk => absurd hk (by simp)⟩, hz0, hs0, hb0, Nat.le_refl _⟩
 case round =>
  obtain ⟨k, v, xs, hk, rfl, ho, ⟨B2, hB2, hrs⟩, hz, hs, hbw, hW⟩ := hrel
  clear hz0 hs0 hb0
  obtain ⟨c0, c1, c2, c3, c4, c5⟩ := Blk.cells6 hs
  have fz2 := hs.frozen 2
  by_cases hlt : k < n
  ·have hkl : k < l.length := by rw [HN.out]; exact hlt
   obtain ⟨bb, oo, hA, hbb, hcc⟩ := (hr.below hbw).int_at (by rw [HN.out]; omega)
   cases hA
   have hck := hcc k hkl
   obtain ⟨x, hx⟩ : ∃ x, l[k]'hkl = x := ⟨_, rfl⟩
   rw [hx] at hck
   have HX := Lib.hid (show l.take (k + 1) = l.take k ++ [x] by rw [List.take_succ_eq_append_getElem hkl, hx])
   clear hx hcc
   obtain ⟨Av, cv, rfl, _⟩ := ho.form
   have hown1 := (ho.alloc (.cells #[.int .i64 x] 3)).alloc (.cells #[.slice (some ⟨wr.heap.size, 0, none⟩) 1 1] 52)
   have hrd1 : Rd ((wr.alloc (.cells #[.int .i64 x] 3)).alloc (.cells #[.slice (some ⟨wr.heap.size, 0, none⟩) 1 1] 52)) (some ⟨wr.heap.size + 1, 0, none⟩) [.slice (some ⟨wr.heap.size, 0, none⟩) 1 1] := by
    have := Rd.block (xs := [.slice (some ⟨wr.heap.size, 0, none⟩) 1 1]) (heap_alloc_new (wr.alloc (.cells #[.int .i64 x] 3)) (.cells #[.slice (some ⟨wr.heap.size, 0, none⟩) 1 1] 52)) (by simp)
    rwa [World.size_alloc] at this
   have hin : RowI (wr.alloc (.cells #[.int .i64 x] 3)) (wr.heap.size + 1) 3 (some ⟨wr.heap.size, 0, none⟩) [x] := by
    obtain ⟨_, A', c', h1, h2⟩ := own_row (p := [x]) (own_lit (wr.alloc (.cells #[.int .i64 x] 3)) 0 3 wr.heap.size (.int .i64 x) (Nat.zero_le _) (heap_alloc_new wr _))
    cases h1
    rwa [World.size_alloc] at h2
   have hrs1 := ((hrs.keep (Nat.le_refl B2) (fun q hq _ => Below.heap_alloc wr (.cells #[.int .i64 x] 3) q (by omega))).keep (B' := wr.heap.size + 1) (by omega) (fun _ _ _ => rfl)).snoc2 (n := 1) rfl (c := 1) hin
   have hrs2 := hrs1.keep (Nat.le_refl _) (fun q hq _ => Below.heap_alloc (wr.alloc (.cells #[.int .i64 x] 3)) (.cells #[.slice (some ⟨wr.heap.size, 0, none⟩) 1 1] 52) q (by simp; omega))
   have hz2 := (hz.alloc (.cells #[.int .i64 x] 3)).alloc (.cells #[.slice (some ⟨wr.heap.size, 0, none⟩) 1 1] 52)
   have hs2 := (hs.alloc (.cells #[.int .i64 x] 3)).alloc (.cells #[.slice (some ⟨wr.heap.size, 0, none⟩) 1 1] 52)
   have hb2 : Below w.heap.size w ((wr.alloc (.cells #[.int .i64 x] 3)).alloc (.cells #[.slice (some ⟨wr.heap.size, 0, none⟩) 1 1] 52)) := (hbw.alloc hbw.size _).alloc (Nat.le_trans hbw.size (by simp)) _
   have h63 : k + 1 ≤ maxLen := by simp only [maxLen]; omega
   have hlim : (k + 1) * 24 ≤ 140737488355328 := by omega
   have hbs : W0.heap.size ≤ ((wr.alloc (.cells #[.int .i64 x] 3)).alloc (.cells #[.slice (some ⟨wr.heap.size, 0, none⟩) 1 1] 52)).heap.size := by simp; omega
   have hsz2 : wr.heap.size + 1 ≤ ((wr.alloc (.cells #[.int .i64 x] 3)).alloc (.cells #[.slice (some ⟨wr.heap.size, 0, none⟩) 1 1] 52)).heap.size := by simp
   clear hrs hrs1 hin ho
   go_wp2_with (first | (at_builtin; refine list_app _ rfl (.tmp 20) (.tmp 23) 28 rfl W0.heap.size 52 j0 _ 1 24 Tryd.underlying28 hj hy0 hy1 hy2 rfl Nat.one_pos _ _ _ rfl hown1 _ 1 1 [.slice (some ⟨wr.heap.size, 0, none⟩) 1 1] rfl rfl hrd1 (sl_one _ _ _) h63 hlim hbs ?_; intro v5 w5 hown5 hg5; obtain ⟨A5, c5, rfl, hf5⟩ := hown5.form; clear hf5; have hs5 := hs2.grown hg5 (hown1.no_cells hs2 (by decide)); have fz5 := hs5.frozen 2; obtain ⟨e0, e1, e2, e3, e4, e5⟩ := Blk.cells6 hs5))
   have hz5 := hz2.grown hg5 (hown1.no_cells hz2 (by decide))
   have hrs5 := hrs2.keep (B' := wr.heap.size + 1) (Nat.le_refl _) (keep_out hown1 (by decide) hg5)
   have hb5 : Below w.heap.size w w5 := hb2.grown hg5 (Nat.le_trans hbw.size (by simp; omega)) (fun g hg => by have := (hown1.lt g hg).1; have := HSZ.out; omega)
   have hsz5 : wr.heap.size + 1 ≤ w5.heap.size := Nat.le_trans hsz2 hg5.size
   have hgs := grown_setCell g 2 (.slice A5 (k + 1) c5) w5
   clear hg5 hown1 hrd1 hz2 hs2 hb2 h63 hlim hbs hsz2 hrs2
   go_wp2_with fail
   go_roundw
   case rel =>
    refine ⟨k + 1, _, xs ++ [.slice (some ⟨wr.heap.size, 0, none⟩) 1 1], by omega, by go_num, hown5.kept hgs (.inr (hown5.no_cells hs5 (by decide))), ⟨wr.heap.size + 1, by simp; exact hsz5, ?_⟩, hz5.far (by show w.heap.size ≠ g; omega) _, hs5.set 2 _, hb5.setCell (p := ⟨g, 2, none⟩) (Nat.le_of_lt hg1) _, Nat.le_trans hW (Nat.le_trans (Nat.le_succ _) (by simpa using hsz5))⟩
    rw [HX.out, List.map_append]
    exact hrs5.keep (Nat.le_refl _) (fun q _ ⟨cur, fz, hh⟩ => hgs.block q (Array.getElem?_eq_some_iff.1 hh).1 (fun e => tag_ne hs5 hh (by decide) (by injection e)))
   case measure => simp [intOf]; omega
  ·obtain rfl : k = n := by omega
   have HT := Lib.hid (show l.take k = l from List.take_of_length_le (by rw [HN.out]; omega))
   obtain ⟨A3, c3, rfl, hrow⟩ := hrs.rdpn ho hs (by decide) (by decide)
   rw [HT.out] at hrow
   have hrow2 := hrow.other hz (by decide) (by decide) (grown_set6 wr w.heap.size (.int .i64 1) (.int .u8 (a.toNat : Int)) (.slice A3 k c3) (.string ⟨#[]⟩) (.int .u8 (b.toNat : Int)) (.string ⟨#[]⟩))
   have hb6 := below_set6 hbw (Nat.le_refl w.heap.size) (.int .i64 1) (.int .u8 (a.toNat : Int)) (.slice A3 k c3) (.string ⟨#[]⟩) (.int .u8 (b.toNat : Int)) (.string ⟨#[]⟩)
   obtain ⟨d0, d1, d2, d3, d4, d5⟩ := Blk.cells6 hz
   have z0 := hz.frozen 0
   have z1 := hz.frozen 1
   have z2 := hz.frozen 2
   have z3 := hz.frozen 3
   have z4 := hz.frozen 4
   have z5 := hz.frozen 5
   have HNL := Lib.hid (show (l.map fun n => [n]).length = k by rw [List.length_map]; exact HN.out)
   clear hrow hz ho hrs hs
   go_wp2_with fail
   refine bodyPost_ret (v := .agg #[.int .i64 1, .int .u8 (a.toNat : Int), .slice A3 k c3, .string ⟨#[]⟩, .int .u8 (b.toNat : Int), .string ⟨#[]⟩]) (by simp [results, Tryd.results30, go_sem, d0, d1, d2, d3, d4, d5]) rfl ⟨⟨A3, c3, g, ?_, hrow2⟩, hb6⟩
   unfold sqV numS
   dsimp only
   rw [HNL.out]
end Go.Proofs.YtfifeofmfpjgfaaDoor
