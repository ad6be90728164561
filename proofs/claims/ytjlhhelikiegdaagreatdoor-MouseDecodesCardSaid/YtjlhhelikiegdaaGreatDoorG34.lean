/-
  Layer 3, walked: the program's taker: parts, params. Layer 16, walked: the document's sequence of numbers, with a private byte.
-/
import Derived.Test.YtjlhhelikiegdaaGreatDoorG03
import Derived.Test.YtjlhhelikiegdaaGreatDoorG06
import Derived.Test.YtjlhhelikiegdaaGreatDoorG09
import Derived.Test.YtjlhhelikiegdaaGreatDoorG15
import Derived.Test.YtjlhhelikiegdaaGreatDoorG17
import Derived.Test.YtjlhhelikiegdaaGreatDoorG19
import Derived.Test.YtjlhhelikiegdaaGreatDoorG26
import Derived.Test.YtjlhhelikiegdaaGreatDoorG33
import Derived.Deep.Cut
import Derived.Deep.RegionLaw
namespace Go.Proofs.YtjlhhelikiegdaaGreatDoor
open Go.RowKit
theorem rdr_apart {w : World} {g : Nat} {A : Option Addr} {c : Nat} {l r : List UInt8} {x0 x1 x2 x3 x4 x5 : Value} (h : Rdr w g A c l x0 x1 x2 x3 x4 x5 r) {base n : Nat} {e : TypeId} {v : Value} {xs : List Value} (ho : Own w base e 1 v n xs) (hne : e ≠ 64) : v.ownBlock ≠ some g := by
 obtain ⟨_, _, _, _, hb⟩ := h
 exact ho.no_cells hb hne
theorem Rdr.app {w w' : World} {g : Nat} {A : Option Addr} {c : Nat} {l r : List UInt8} {x0 x1 x2 x3 x4 x5 : Value} (h : Rdr w g A c l x0 x1 x2 x3 x4 x5 r) {base n : Nat} {e : TypeId} {v : Value} {xs : List Value} (ho : Own w base e 1 v n xs) (hb : g < base) (hne : e ≠ 64) (hg : w.grownBy w' v.ownBlock) : Rdr w' g A c l x0 x1 x2 x3 x4 x5 r := by
 have hap := rdr_apart h ho hne
 obtain ⟨p, h1, h2, h3, h4⟩ := h
 refine ⟨p, h1, h2, fun hp => ?_, h4.grown hg hap⟩
 obtain ⟨b, o, rfl, hlt, hc⟩ := h3 hp
 exact ⟨b, o, rfl, hlt, fun k u hu => (World.cell?_of_block (w := w) (a := ⟨b, o + k, none⟩) (hg.block b (by have := h4.lt; omega) (fun e => by have := (ho.lt b e.symm).1; omega))).trans (hc k u hu)⟩
theorem TabIn.app {g : Nat} {w w' : World} (h : TabIn g w) {base n : Nat} {e : TypeId} {v : Value} {xs : List Value} (ho : Own w base e 1 v n xs) (hb : g ≤ base) (hw : g ≤ w.heap.size) (hg : w.grownBy w' v.ownBlock) : TabIn g w' :=
 h.below ((Below.refl g w).grown hg hw (fun k hk => Nat.le_trans hb (ho.lt k hk).1))
theorem grown_own {w w1 w2 : World} {g B n : Nat} {e : TypeId} {v : Value} {xs : List Value} (h : w.grownBy w1 (some g)) (ho : Own w1 B e 1 v n xs) (hB : w.heap.size ≤ B) (hg : w1.grownBy w2 v.ownBlock) : w.grownBy w2 (some g) :=
 ⟨hg.os.trans h.os, hg.tape.trans h.tape, hg.output.trans h.output, Nat.le_trans h.size hg.size, fun k hk hr => (hg.block k (Nat.lt_of_lt_of_le hk h.size) (fun e => by have := (ho.lt k e.symm).1; omega)).trans (h.block k hk hr)⟩
def PartsPost (g : Nat) (A : Option Addr) (c : Nat) (l r' : List UInt8) (p : List Int) (x0 x1 x2 x3 x4 x5 : Value) (w : World) (e : Ending) (w' : World) : Prop :=
 (∃ A' c', e = .returned (.slice A' p.length c') ∧ RowI w' w'.heap.size 3 A' p) ∧ Rdr w' g A c l x0 x1 x2 x3 x4 x5 r' ∧ w.grownBy w' (some g)
theorem parts_post {g : Nat} {A : Option Addr} {c n c2 : Nat} {l r' : List UInt8} {p : List Int} {x0 x1 x2 x3 x4 x5 : Value} {w w' : World} {A2 : Option Addr} (hn : p.length = n) (h1 : RowI w' w'.heap.size 3 A2 p) (h2 : Rdr w' g A c l x0 x1 x2 x3 x4 x5 r') (h3 : w.grownBy w' (some g)) :
 PartsPost g A c l r' p x0 x1 x2 x3 x4 x5 w (.returned (.slice A2 n c2)) w' := ⟨⟨A2, c2, by rw [hn], h1⟩, h2, h3⟩
set_option maxRecDepth 100000 in
set_option maxHeartbeats 8000000 in
theorem parts2_any (g : Nat) (A : Option Addr) (c : Nat) (l r r' : List UInt8) (p : List Int) (x0 x1 x2 x3 x4 x5 : Value) (w : World) (hn : partsF r = (p, r')) (hlc : l.length ≤ c) (hl : l.length ≤ 4294967296) (ht : TabIn g w) (h : Rdr w g A c l x0 x1 x2 x3 x4 x5 r) :
 Calls Tryz.prog 79 #[.pointer (some ⟨g, 0, none⟩)] w (PartsPost g A c l r' p x0 x1 x2 x3 x4 x5 w) := by
 obtain ⟨i0, hi, hz0, hz1, hz2⟩ : ∃ i, Tryz.prog.info? 3 = some i ∧ i.zero = some (.int .i64 0) ∧ i.size = 1 ∧ i.bytes = 8 := ⟨_, rfl, rfl, rfl, rfl⟩
 have hlt := h.lt
 obtain ⟨n1, hn1⟩ : ∃ n1, (partF r).1 = n1 := ⟨_, rfl⟩
 obtain ⟨r1, hr1⟩ : ∃ r1, (partF r).2 = r1 := ⟨_, rfl⟩
 have HF := Lib.hid (show partF r = (n1, r1) by rw [← hn1, ← hr1])
 have HP := Lib.hid (show partsGo 7 [n1] r1 = (p, r') by rw [← hn, ← hn1, ← hr1]; rfl)
 clear hn hn1 hr1
 go_enter Tryz.func79, Tryz.ntmps79
 go_wp2_with fail
 refine (part2_any g A c l r r1 n1 x0 x1 x2 x3 x4 x5 _ HF.out hlc hl ht h).mono ?_
 rintro e w1 ⟨rfl, h1, hg1⟩
 have ht1 := ht.grown hg1 hlt
 clear h ht
 go_wp2_with fail
 have ho1 := own_lit (w1.alloc (.cells #[.int .i64 n1] 3)) w1.heap.size 3 w1.heap.size (.int .i64 n1) (Nat.le_refl _) (heap_alloc_new w1 _)
 have h1' := h1.below ((Below.refl _ w1).alloc (Nat.le_refl _) (.cells #[.int .i64 n1] 3)) h1.lt
 have hg1' : w.grownBy (w1.alloc (.cells #[.int .i64 n1] 3)) (some g) := grown_trans hg1 (World.grownBy_alloc w1 _ _)
 have ht1' := ht1.below (((Below.refl g w1).alloc (Nat.le_of_lt h1.lt) (.cells #[.int .i64 n1] 3)))
 have hws : w.heap.size ≤ w1.heap.size := hg1.size
 clear h1 hg1 ht1
 go_loopw [3] (fun v wr => ∃ (acc : List Int) (rr : List UInt8) (f B : Nat), acc.length + f = 8 ∧ Own wr B 3 1 v acc.length (is_ acc) ∧ Rdr wr g A c l x0 x1 x2 x3 x4 x5 rr ∧ TabIn g wr ∧ w.grownBy wr (some g) ∧ (w.heap.size ≤ B ∧ B ≤ wr.heap.size) ∧ Hid (partsGo f acc rr = (p, r'))) (fun v _ => match v with | .slice _ n _ => 8 - n | _ => 0)
 case atStart => exact ⟨[n1], r1, 7, w1.heap.size, rfl, ho1, h1', ht1', hg1', ⟨hws, by simp⟩, HP⟩
 case round =>
  obtain ⟨acc, rr, f, B, hf, ho, hR, hT, hG, ⟨hB, hB2⟩, HE⟩ := hrel
  clear ho1 h1' hg1' ht1' HP
  obtain ⟨n, hn⟩ : ∃ n, acc.length = n := ⟨_, rfl⟩
  rw [hn] at ho hf
  have HN := Lib.hid hn
  clear hn
  obtain ⟨A2, c2, rfl, _⟩ := ho.form
  by_cases h8 : n < 8
  ·obtain ⟨f', rfl⟩ : ∃ f', f = f' + 1 := ⟨f - 1, by omega⟩
   cases hs : skipB [58] rr with
   | true =>
     have HS := Lib.hid hs
     clear hs
     obtain ⟨n2, hn2⟩ : ∃ n2, (partF (rr.drop 1)).1 = n2 := ⟨_, rfl⟩
     obtain ⟨r2, hr2⟩ : ∃ r2, (partF (rr.drop 1)).2 = r2 := ⟨_, rfl⟩
     have HF2 := Lib.hid (show partF (rr.drop 1) = (n2, r2) by rw [← hn2, ← hr2])
     have HE2 := Lib.hid (show partsGo f' (acc ++ [n2]) r2 = (p, r') by
      have := HE.out
      unfold partsGo at this
      rw [if_pos HS.out, hn2, hr2] at this
      exact this)
     clear hn2 hr2 HE
     go_wp2_with fail
     refine (skip_yes g A c l [58] rr x0 x1 x2 x3 x4 x5 _ HS.out hlc hl (by simp) hR).mono ?_
     rintro e w2 ⟨rfl, hR2, hG2⟩
     have hT2 := hT.grown hG2 hR.lt
     have ho2 := ho.kept hG2 (.inr (rdr_apart hR ho (by decide)))
     have hG2' := grown_trans hG hG2
     have hs2 := Nat.le_trans hB2 hG2.size
     clear hR hT ho hG2 hG
     go_wp2_with fail
     refine (part2_any g A c l (rr.drop 1) r2 n2 x0 x1 x2 x3 x4 x5 _ HF2.out hlc hl hT2 hR2).mono ?_
     rintro e w3 ⟨rfl, hR3, hG3⟩
     have hT3 := hT2.grown hG3 hR2.lt
     have ho3 := ho2.kept hG3 (.inr (rdr_apart hR2 ho2 (by decide)))
     have hG3' := grown_trans hG2' hG3
     have hs3 := Nat.le_trans hs2 hG3.size
     clear hR2 hT2 ho2 hG3 hG2'
     have hown4 := ho3.alloc (.cells #[.int .i64 n2] 3)
     have hR4 := hR3.below ((Below.refl _ w3).alloc (Nat.le_refl _) (.cells #[.int .i64 n2] 3)) hR3.lt
     have hT4 := hT3.below (((Below.refl g w3).alloc (Nat.le_of_lt hR3.lt) (.cells #[.int .i64 n2] 3)))
     have hG4 : w.grownBy (w3.alloc (.cells #[.int .i64 n2] 3)) (some g) := grown_trans hG3' (World.grownBy_alloc w3 _ _)
     have hrd4 : Rd (w3.alloc (.cells #[.int .i64 n2] 3)) (some ⟨w3.heap.size, 0, none⟩) [.int .i64 n2] := Rd.block (heap_alloc_new w3 _) (by simp)
     have h63 : n + 1 ≤ maxLen := by simp only [maxLen]; omega
     have hlim : (n + 1) * 8 ≤ 140737488355328 := by omega
     have hbs4 : B ≤ (w3.alloc (.cells #[.int .i64 n2] 3)).heap.size := by simp; omega
     have hone4 : ∀ u ∈ [Value.int IntKind.i64 n2], u.oneCell' = true := fun u hu => by rw [List.mem_singleton] at hu; subst hu; rfl
     clear hR3 hT3 ho3 hG3'
     go_wp2_with (first | (at_builtin; refine list_app _ rfl (.tmp 18) (.tmp 23) 38 rfl B 3 i0 _ 1 8 Tryz.underlying38 hi hz0 hz1 hz2 rfl Nat.one_pos _ _ _ rfl hown4 _ 1 1 [.int .i64 n2] rfl rfl hrd4 hone4 h63 hlim hbs4 ?_; intro v5 w5 hown5 hg5))
     have hR5 := hR4.app hown4 (by omega) (by decide) hg5
     have hT5 := hT4.app hown4 (by omega) (Nat.le_of_lt hR4.lt) hg5
     have hG5 := grown_own hG4 hown4 hB hg5
     rw [← is_snoc] at hown5
     have hnn := HN.out
     obtain ⟨A5, c5, rfl, _⟩ := hown5.form
     have HL5 := Lib.hid (show (acc ++ [n2]).length = n + 1 by rw [List.length_append, hnn]; rfl)
     have hs5 : B ≤ w5.heap.size := Nat.le_trans hbs4 hg5.size
     clear hnn hg5 hown4 hR4 hT4 hG4 hrd4
     go_wp2_with fail
     go_roundw
     case rel => exact ⟨acc ++ [n2], r2, f', B, by rw [HL5.out]; omega, by rw [HL5.out]; exact hown5, hR5, hT5, hG5, ⟨hB, hs5⟩, HE2⟩
     case measure => simp; omega
   | false =>
     have HS := Lib.hid hs
     clear hs
     have hE := HE.out
     unfold partsGo at hE
     rw [if_neg (by rw [HS.out]; simp)] at hE
     injection hE with e1 e2
     subst e1
     subst e2
     clear HE
     go_wp2_with fail
     refine (skip_no g A c l [58] rr x0 x1 x2 x3 x4 x5 _ HS.out hlc hl (by simp) hR).mono ?_
     rintro e w2 ⟨rfl, hR2, hG2⟩
     have ho2 := ho.kept hG2 (.inr (rdr_apart hR ho (by decide)))
     obtain ⟨hnn, A3, c3, h3, hrow⟩ := own_row ho2
     cases h3
     clear hnn
     go_wp2_with fail
     go_ret
     exact parts_post HN.out hrow hR2 (grown_trans hG hG2)
  ·have h8' : 8 ≤ n := by omega
   obtain rfl : f = 0 := by omega
   have hE := HE.out
   unfold partsGo at hE
   injection hE with e1 e2
   subst e1
   subst e2
   clear HE h8
   obtain ⟨hnn, A3, c3, h3, hrow⟩ := own_row ho
   cases h3
   clear hnn
   go_wp2_with fail
   go_ret
   exact parts_post HN.out hrow hR hG
def sqU (a f : UInt8) (l : List Int) : Sq := ⟨1, a, l.map fun n => [n], [], f, []⟩
set_option maxRecDepth 100000 in
set_option maxHeartbeats 16000000 in
theorem rnums16_any (a f : UInt8) (B : Option Addr) (l : List Int) (n d : Nat) (L : List UInt8) (hn : l.length = n) (hl : n ≤ 30) (hs : mayS (sqU a f l) = 0) (hL : putS (sqU a f l) = L) (w : World) (hr : Rd w B (is_ l)) :
 Calls Tryz.prog 15 #[.int .u8 (a.toNat : Int), .int .u8 (f.toNat : Int), .slice B n d] w (Out L w) := by
 obtain ⟨j0, hj, hy0, hy1, hy2⟩ : ∃ i, Tryz.prog.info? 38 = some i ∧ i.zero = some (.slice none 0 0) ∧ i.size = 1 ∧ i.bytes = 24 := ⟨_, rfl, rfl, rfl, rfl⟩
 have HN := Lib.hid hn
 have HSQ := Lib.hid hs
 have HLL := Lib.hid hL
 clear hn hs hL
 have hs0 := Blk.new w 44 #[.int .i64 1, .int .u8 (a.toNat : Int), .slice none 0 0, .string ⟨#[]⟩, .int .u8 (f.toNat : Int), .string ⟨#[]⟩]
 have hb0 := (Below.refl w.heap.size w).alloc (Nat.le_refl _) (.cells #[.int .i64 1, .int .u8 (a.toNat : Int), .slice none 0 0, .string ⟨#[]⟩, .int .u8 (f.toNat : Int), .string ⟨#[]⟩] 44)
 go_enter Tryz.func15, Tryz.ntmps15
 go_wp2_with fail
 have hlt34 : w.heap.size < (w.alloc (.cells #[.int .i64 1, .int .u8 (a.toNat : Int), .slice none 0 0, .string ⟨#[]⟩, .int .u8 (f.toNat : Int), .string ⟨#[]⟩] 44)).heap.size := hs0.lt
 generalize w.alloc (.cells #[.int .i64 1, .int .u8 (a.toNat : Int), .slice none 0 0, .string ⟨#[]⟩, .int .u8 (f.toNat : Int), .string ⟨#[]⟩] 44) = W0 at *
 go_loopw [8] (fun i wr => ∃ (k : Nat) (v : Value) (xs : List Value), k ≤ n ∧ i = .int .i64 k ∧ Own wr W0.heap.size 38 1 v k xs ∧ (∃ B2, B2 ≤ wr.heap.size ∧ Rows wr B2 3 xs ((l.take k).map fun n => [n])) ∧ Blk wr w.heap.size 44 #[.int .i64 1, .int .u8 (a.toNat : Int), v, .string ⟨#[]⟩, .int .u8 (f.toNat : Int), .string ⟨#[]⟩] ∧ Below w.heap.size w wr ∧ W0.heap.size ≤ wr.heap.size) (fun i _ => n - (intOf i).toNat)
 case atStart => exact ⟨0, _, [], Nat.zero_le _, rfl, Own.nil_ _ _ _ _, ⟨0, Nat.zero_le _, by rfl, fun k hk => absurd hk (by simp)⟩, hs0, hb0, Nat.le_refl _⟩
 case round =>
  obtain ⟨k, v, xs, hk, rfl, ho, ⟨B2, hB2, hrs⟩, hs, hbw, hW⟩ := hrel
  clear hs0 hb0
  obtain ⟨d0, d1, d2, d3, d4, d5⟩ := Blk.cells6 hs
  by_cases hlt : k < n
  ·have hkl : k < l.length := by rw [HN.out]; exact hlt
   obtain ⟨bb, oo, rfl, hbb, hcc⟩ := (hr.below hbw).int_at (by rw [HN.out]; omega)
   have hck := hcc k hkl
   obtain ⟨u, hu⟩ : ∃ u, l[k]'hkl = u := ⟨_, rfl⟩
   rw [hu] at hck
   have HX := Lib.hid (show l.take (k + 1) = l.take k ++ [u] by rw [List.take_succ_eq_append_getElem hkl, hu])
   clear hu hcc
   obtain ⟨Av, cv, rfl, _⟩ := ho.form
   have hown1 := (ho.alloc (.cells #[.int .i64 u] 3)).alloc (.cells #[.slice (some ⟨wr.heap.size, 0, none⟩) 1 1] 38)
   have hrd1 : Rd ((wr.alloc (.cells #[.int .i64 u] 3)).alloc (.cells #[.slice (some ⟨wr.heap.size, 0, none⟩) 1 1] 38)) (some ⟨wr.heap.size + 1, 0, none⟩) [.slice (some ⟨wr.heap.size, 0, none⟩) 1 1] := by
    have := Rd.block (xs := [.slice (some ⟨wr.heap.size, 0, none⟩) 1 1]) (heap_alloc_new (wr.alloc (.cells #[.int .i64 u] 3)) (.cells #[.slice (some ⟨wr.heap.size, 0, none⟩) 1 1] 38)) (by simp)
    rwa [World.size_alloc] at this
   have hin : RowI (wr.alloc (.cells #[.int .i64 u] 3)) (wr.heap.size + 1) 3 (some ⟨wr.heap.size, 0, none⟩) [u] := by
    obtain ⟨_, A', c', h1, h2⟩ := own_row (p := [u]) (own_lit (wr.alloc (.cells #[.int .i64 u] 3)) 0 3 wr.heap.size (.int .i64 u) (Nat.zero_le _) (heap_alloc_new wr _))
    cases h1
    rwa [World.size_alloc] at h2
   have hrs1 := ((hrs.keep (Nat.le_refl B2) (fun q hq _ => Below.heap_alloc wr (.cells #[.int .i64 u] 3) q (by omega))).keep (B' := wr.heap.size + 1) (by omega) (fun _ _ _ => rfl)).snoc2 (n := 1) rfl (c := 1) hin
   have hrs2 := hrs1.keep (Nat.le_refl _) (fun q hq _ => Below.heap_alloc (wr.alloc (.cells #[.int .i64 u] 3)) (.cells #[.slice (some ⟨wr.heap.size, 0, none⟩) 1 1] 38) q (by simp; omega))
   have hs2 := (hs.alloc (.cells #[.int .i64 u] 3)).alloc (.cells #[.slice (some ⟨wr.heap.size, 0, none⟩) 1 1] 38)
   have hb2 : Below w.heap.size w ((wr.alloc (.cells #[.int .i64 u] 3)).alloc (.cells #[.slice (some ⟨wr.heap.size, 0, none⟩) 1 1] 38)) := (hbw.alloc hbw.size _).alloc (Nat.le_trans hbw.size (by simp)) _
   have h63 : k + 1 ≤ maxLen := by simp only [maxLen]; omega
   have hlim : (k + 1) * 24 ≤ 140737488355328 := by omega
   have hbs : W0.heap.size ≤ ((wr.alloc (.cells #[.int .i64 u] 3)).alloc (.cells #[.slice (some ⟨wr.heap.size, 0, none⟩) 1 1] 38)).heap.size := by simp; omega
   have hsz2 : wr.heap.size + 1 ≤ ((wr.alloc (.cells #[.int .i64 u] 3)).alloc (.cells #[.slice (some ⟨wr.heap.size, 0, none⟩) 1 1] 38)).heap.size := by simp
   clear hrs hrs1 hin ho
   have hown1 := hown1.drew
   have i2a : (wr.alloc (.cells #[.int .i64 u] 3)).drew.cell? ⟨w.heap.size, 2, none⟩ = some (.slice Av k cv) := (hs.alloc (.cells #[.int .i64 u] 3)).cell 2
   have i2b : ((wr.alloc (.cells #[.int .i64 u] 3)).alloc (.cells #[.slice (some ⟨wr.heap.size, 0, none⟩) 1 1] 38)).drew.cell? ⟨w.heap.size, 2, none⟩ = some (.slice Av k cv) := hs2.cell 2
   have hrd1 : Rd ((wr.alloc (.cells #[.int .i64 u] 3)).alloc (.cells #[.slice (some ⟨wr.heap.size, 0, none⟩) 1 1] 38)).drew (some ⟨wr.heap.size + 1, 0, none⟩) [.slice (some ⟨wr.heap.size, 0, none⟩) 1 1] := hrd1
   have hs2 : Blk ((wr.alloc (.cells #[.int .i64 u] 3)).alloc (.cells #[.slice (some ⟨wr.heap.size, 0, none⟩) 1 1] 38)).drew w.heap.size 44 #[.int .i64 1, .int .u8 (a.toNat : Int), .slice Av k cv, .string ⟨#[]⟩, .int .u8 (f.toNat : Int), .string ⟨#[]⟩] := hs2
   have hrs2 : Rows ((wr.alloc (.cells #[.int .i64 u] 3)).alloc (.cells #[.slice (some ⟨wr.heap.size, 0, none⟩) 1 1] 38)).drew (wr.heap.size + 1) 3 (xs ++ [.slice (some ⟨wr.heap.size, 0, none⟩) 1 1]) ((l.take k).map (fun n => [n]) ++ [[u]]) := hrs2
   have hb2 : Below w.heap.size w ((wr.alloc (.cells #[.int .i64 u] 3)).alloc (.cells #[.slice (some ⟨wr.heap.size, 0, none⟩) 1 1] 38)).drew := hb2.drew
   have hbs : W0.heap.size ≤ ((wr.alloc (.cells #[.int .i64 u] 3)).alloc (.cells #[.slice (some ⟨wr.heap.size, 0, none⟩) 1 1] 38)).drew.heap.size := hbs
   have hsz2 : wr.heap.size + 1 ≤ ((wr.alloc (.cells #[.int .i64 u] 3)).alloc (.cells #[.slice (some ⟨wr.heap.size, 0, none⟩) 1 1] 38)).drew.heap.size := hsz2
   go_wp2_with fail
   go_region_law (refine step_app _ rfl (.tmp 21) (.tmp 27) 42 rfl W0.heap.size 38 j0 _ 1 24 Tryz.underlying42 hj hy0 hy1 hy2 rfl Nat.one_pos (.slice Av k cv) k xs (by simp [Act.eval]) hown1 (some ⟨wr.heap.size + 1, 0, none⟩) 1 1 [.slice (some ⟨wr.heap.size, 0, none⟩) 1 1] (by simp [Act.eval]) rfl hrd1 (sl_one _ _ _) h63 hlim hbs ?_; intro v5 w5 hown5 hg5; obtain ⟨A5, c5, rfl, hf5⟩ := hown5.form; clear hf5; have hs5 := hs2.grown hg5 (hown1.no_cells hs2 (by decide)); have fz5 := hs5.frozen 2; obtain ⟨e0, e1, e2, e3, e4, e5⟩ := Blk.cells6 hs5)
   all_goals
    have hrs5 := hrs2.keep (B' := wr.heap.size + 1) (Nat.le_refl _) (keep_out hown1 (by decide) hg5)
    have hb5 : Below w.heap.size w w5 := hb2.grown hg5 (Nat.le_trans hbw.size (Nat.le_trans (Nat.le_succ _) hsz2)) (fun g hg => by have := (hown1.lt g hg).1; omega)
    have hsz5 : wr.heap.size + 1 ≤ w5.heap.size := Nat.le_trans hsz2 hg5.size
    have hgs := grown_setCell w.heap.size 2 (.slice A5 (k + 1) c5) w5
    clear hg5 hown1 hrd1 hs2 hb2 h63 hlim hbs hsz2 hrs2 i2a i2b
    go_wp2_with fail
    go_roundw
    case rel =>
     refine ⟨k + 1, _, xs ++ [.slice (some ⟨wr.heap.size, 0, none⟩) 1 1], by omega, by go_num, hown5.kept hgs (.inr (hown5.no_cells hs5 (by decide))), ⟨wr.heap.size + 1, by simp; exact hsz5, ?_⟩, hs5.set 2 _, hb5.setCell (p := ⟨w.heap.size, 2, none⟩) (Nat.le_refl _) _, Nat.le_trans hW (Nat.le_trans (Nat.le_succ _) (by simpa using hsz5))⟩
     rw [HX.out, List.map_append]
     exact hrs5.keep (Nat.le_refl _) (fun q _ ⟨cur, fz, hh⟩ => hgs.block q (Array.getElem?_eq_some_iff.1 hh).1 (fun e => tag_ne hs5 hh (by decide) (by injection e)))
    case measure => simp [intOf]; omega
  ·obtain rfl : k = n := by omega
   have HT := Lib.hid (show l.take k = l from List.take_of_length_le (by rw [HN.out]; omega))
   obtain ⟨A3, c3, rfl, hrow⟩ := hrs.rdpn ho hs (by decide) (by decide)
   rw [HT.out] at hrow
   have hr5 : RdP wr A3 (l.map fun n => [n]) := hrow.rdp
   clear hrow ho hrs hW hB2 HT hr
   go_wp2_with fail
   have hv : (Value.agg #[.int .i64 1, .int .u8 (a.toNat : Int), .slice A3 k c3, .string ⟨#[]⟩, .int .u8 (f.toNat : Int), .string ⟨#[]⟩]) = sqV (sqU a f l) A3 c3 := by
    unfold sqV sqU
    simp only [List.length_map, HN.out]
   rw [hv]
   refine (wput_yes (sqU a f l) A3 c3 wr HSQ.out hr5).mono ?_
   rintro e w2 ⟨⟨C, d2, rfl, hcC, hrC⟩, hbC⟩
   rw [HLL.out] at hrC hcC ⊢
   go_wp2_with fail
   go_ret
   exact ⟨_, _, rfl, hrC, hbw.trans (hbC.mono hbw.size)⟩
end Go.Proofs.YtjlhhelikiegdaaGreatDoor
