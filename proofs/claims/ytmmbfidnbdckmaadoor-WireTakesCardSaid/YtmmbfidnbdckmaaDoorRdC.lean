/-
  Layer 3, walked: the program's reader: one, part.
-/
import Derived.Test.YtmmbfidnbdckmaaDoorRdB
namespace Go.Proofs.YtmmbfidnbdckmaaDoor
open Go.RowKit

/-- The table, and all of it below a block. -/
def TabIn (n₁ : Nat) (w : World) : Prop := Lib.TabBelow Tryd.prog n₁ w "internal/strconv.uint64pow10" .u64 Lib.pow10Tab
theorem TabIn.tab {n₁ : Nat} {w : World} (h : TabIn n₁ w) : Tab w := h.here
theorem TabIn.below {n₁ : Nat} {w w' : World} (h : TabIn n₁ w) (hb : Below n₁ w w') : TabIn n₁ w' := h.on hb
theorem TabIn.grown {n₁ : Nat} {w w' : World} (h : TabIn n₁ w) (hg : w.grownBy w' (some n₁)) (hn : n₁ < w.heap.size) : TabIn n₁ w' := h.on (below_grown hg (Nat.le_refl _) hn)
theorem Rdr.lt {w : World} {g : Nat} {A : Option Addr} {c : Nat} {l r : List UInt8} {x0 x1 x2 x3 x4 x5 : Value} (h : Rdr w g A c l x0 x1 x2 x3 x4 x5 r) : g < w.heap.size := by
  obtain ⟨_, _, _, _, hb⟩ := h
  exact hb.lt
theorem Rdr.below {B : Nat} {w w' : World} {g : Nat} {A : Option Addr} {c : Nat} {l r : List UInt8} {x0 x1 x2 x3 x4 x5 : Value} (h : Rdr w g A c l x0 x1 x2 x3 x4 x5 r) (hb : Below B w w') (hB : g < B) : Rdr w' g A c l x0 x1 x2 x3 x4 x5 r := by
  obtain ⟨p, h1, h2, h3, h4⟩ := h
  exact ⟨p, h1, h2, h3.below (hb.mono (Nat.le_of_lt hB)), h4.below hb hB⟩
theorem Rdr.drewN {w : World} {g : Nat} {A : Option Addr} {c : Nat} {l r : List UInt8} {x0 x1 x2 x3 x4 x5 : Value} (h : Rdr w g A c l x0 x1 x2 x3 x4 x5 r) (n : Nat) : Rdr (w.drewN n) g A c l x0 x1 x2 x3 x4 x5 r := h

theorem skip_yes (g : Nat) (A : Option Addr) (c : Nat) (l t r : List UInt8) (x0 x1 x2 x3 x4 x5 : Value) (w : World) (hq : skipB t r = true) (hlc : l.length ≤ c) (hl : l.length ≤ 4294967296) (ht : t.length ≤ 4294967296) (h : Rdr w g A c l x0 x1 x2 x3 x4 x5 r) :
    Calls Tryd.prog 35 #[.pointer (some ⟨g, 0, none⟩), .string ⟨t.toArray⟩] w fun e w' => e = .returned (.bool true) ∧ Rdr w' g A c l x0 x1 x2 x3 x4 x5 (r.drop t.length) ∧ w.grownBy w' (some g) :=
  skip_any g A c l t r x0 x1 x2 x3 x4 x5 true w hq hlc hl ht h
theorem skip_no (g : Nat) (A : Option Addr) (c : Nat) (l t r : List UInt8) (x0 x1 x2 x3 x4 x5 : Value) (w : World) (hq : skipB t r = false) (hlc : l.length ≤ c) (hl : l.length ≤ 4294967296) (ht : t.length ≤ 4294967296) (h : Rdr w g A c l x0 x1 x2 x3 x4 x5 r) :
    Calls Tryd.prog 35 #[.pointer (some ⟨g, 0, none⟩), .string ⟨t.toArray⟩] w fun e w' => e = .returned (.bool false) ∧ Rdr w' g A c l x0 x1 x2 x3 x4 x5 r ∧ w.grownBy w' (some g) :=
  skip_any g A c l t r x0 x1 x2 x3 x4 x5 false w hq hlc hl ht h

set_option maxRecDepth 100000 in
set_option maxHeartbeats 4000000 in
theorem one_any (g : Nat) (A : Option Addr) (c a b : Nat) (l r : List UInt8) (x : UInt8) (x0 x1 x2 x3 x4 x5 : Value) (w : World) (hx : oneF a b r = x) (ha : 1 ≤ a) (hlc : l.length ≤ c) (hl : l.length ≤ 4294967296) (h : Rdr w g A c l x0 x1 x2 x3 x4 x5 r) :
    Calls Tryd.prog 49 #[.pointer (some ⟨g, 0, none⟩), .int .u8 a, .int .u8 b] w fun e w' => e = .returned (.int .u8 (x.toNat : Int)) ∧ Rdr w' g A c l x0 x1 x2 x3 x4 x5 (r.drop (runF a b 1 r).length) ∧ w.grownBy w' (some g) := by
  have hone := one_run a b r ha
  rw [hx] at hone
  by_cases h0 : x = 0
  · subst h0
    have HU := Lib.hid (show runF a b 1 r = [] from hone)
    clear hone hx
    go_enter Tryd.func49, Tryd.ntmps49
    go_wp2_with fail
    refine (run2_any g A c a b 1 l r [] x0 x1 x2 x3 x4 x5 _ HU.out hlc hl (by omega) h).mono ?_
    rintro e w1 ⟨rfl, h1, hg1⟩
    go_wp2_with fail
    go_ret
    rw [HU.out]
    exact ⟨rfl, h1, hg1⟩
  · have HU := Lib.hid (show runF a b 1 r = [x] by rw [hone]; exact if_neg h0)
    clear hone hx h0
    go_enter Tryd.func49, Tryd.ntmps49
    go_wp2_with fail
    refine (run2_any g A c a b 1 l r [x] x0 x1 x2 x3 x4 x5 _ HU.out hlc hl (by omega) h).mono ?_
    rintro e w1 ⟨rfl, h1, hg1⟩
    go_wp2_with fail
    go_ret
    rw [HU.out]
    exact ⟨rfl, h1, hg1⟩

set_option maxRecDepth 100000 in
set_option maxHeartbeats 4000000 in
theorem part2_any (g : Nat) (A : Option Addr) (c : Nat) (l r r' : List UInt8) (n : Int) (x0 x1 x2 x3 x4 x5 : Value) (w : World) (hn : partF r = (n, r')) (hlc : l.length ≤ c) (hl : l.length ≤ 4294967296) (ht : TabIn g w) (h : Rdr w g A c l x0 x1 x2 x3 x4 x5 r) :
    Calls Tryd.prog 65 #[.pointer (some ⟨g, 0, none⟩)] w fun e w' => e = .returned (.int .i64 n) ∧ Rdr w' g A c l x0 x1 x2 x3 x4 x5 r' ∧ w.grownBy w' (some g) := by
  have hh := h
  obtain ⟨at_, hat, hr, hrd, hblk⟩ := h
  have hlt := hblk.lt
  obtain ⟨A', hcut, hrd2⟩ := cut_run (P := Tryd.prog) (T := 27) (e := 5) (by kernel_rfl) Tryd.underlying27 Tryd.sizeOf5 A l.length c at_ hat hlc
  have hrd3 := hrd2 g w l rfl hrd
  rw [hr] at hrd3
  have c0 : w.cell? ⟨g, 0, none⟩ = some (.slice A l.length c) := hblk.cell 0
  have c1 : w.cell? ⟨g, 1, none⟩ = some (.int .i64 (at_ : Int)) := hblk.cell 1
  have HL := Lib.hid (show r.length = l.length - at_ by rw [← hr, List.length_drop])
  have n0 : (0 : Int) ≤ (at_ : Int) := by omega
  have n1 : (at_ : Int) ≤ (l.length : Int) := by omega
  have hrl : r.length ≤ 4294967296 := by have := HL.out; omega
  have HS : Hid (∀ W, Below w.heap.size w W → W.cell? ⟨g, 0, none⟩ = some (.slice A l.length c) ∧ W.cell? ⟨g, 1, none⟩ = some (.int .i64 (at_ : Int)) ∧ Below w.heap.size w W) := Lib.hid fun W hb => ⟨(hb.cell (p := ⟨g, 0, none⟩) hlt).trans c0, (hb.cell (p := ⟨g, 1, none⟩) hlt).trans c1, hb⟩
  have HR3 : Hid (∀ W, Below w.heap.size w W → Rd W A' (bs r)) := Lib.hid fun W hb => ((hrd3.rd (Nat.le_of_lt hlt))).below hb
  obtain ⟨v, hv⟩ : ∃ v, satv r = v := ⟨_, rfl⟩
  have hvle := satv_le r
  rw [hv] at hvle
  have HV := Lib.hid hv
  have HN := Lib.hid hn
  obtain ⟨d, hd⟩ : ∃ d, digs r = d := ⟨_, rfl⟩
  have HD := Lib.hid hd
  clear hr hv hrd2 hrd3 hn hd
  go_enter Tryd.func65, Tryd.ntmps65
  go_wp2_with fail
  go_region_held (fun w' => w'.cell? ⟨g, 0, none⟩ = some (.slice A l.length c) ∧ w'.cell? ⟨g, 1, none⟩ = some (.int .i64 (at_ : Int)) ∧ Below w.heap.size w w') (first | exact HS.out _ (Below.refl _ _).drew | exact HS.out _ ((Below.refl _ _).drew.trans hb2)) (first | (go_at_call 69; refine (take_at A' _ r _ _ HL.out hrl (HR3.out _ (Below.refl _ _).drew)).mono ?_; rw [HV.out, HD.out]; rintro e w2 ⟨rfl, hb2⟩))
  have hb2w : Below w.heap.size w w2 := (Below.refl _ _).drew.trans hb2
  have h2 := hh.below hb2w hlt
  have ht2 := ht.below (hb2w.mono (Nat.le_of_lt hlt))
  have hg2 := grown_below (some g) hb2w
  clear hb2
  obtain ⟨T, hT⟩ : ∃ T, textL (v : Int) = T := ⟨_, rfl⟩
  have HT := Lib.hid hT
  have hTl := textL_length (v : Int) (by omega)
  rw [hT] at hTl
  clear hT HS HR3 hcut c0 c1 hrd hblk hh
  have key : skipB T r = true ∧ n = (v : Int) ∧ r' = r.drop T.length ∨ skipB T r = false ∧ n = -1 ∧ r' = r := by
    have := HN.out
    unfold partF at this
    rw [HV.out, HT.out] at this
    cases hs : skipB T r with
    | true => rw [hs, if_pos rfl] at this; injection this with e1 e2; exact .inl ⟨rfl, e1.symm, e2.symm⟩
    | false => rw [hs, if_neg (by simp)] at this; injection this with e1 e2; exact .inr ⟨rfl, e1.symm, e2.symm⟩
  clear HN
  rcases key with ⟨hs, rfl, rfl⟩ | ⟨hs, rfl, rfl⟩
  · have HSK := Lib.hid hs
    clear hs
    go_wp2_with fail
    refine (text_any (v : Int) _ (by omega) (by omega) ht2.tab).mono ?_
    rw [HT.out]
    rintro e w3 ⟨rfl, hb3⟩
    go_wp2_with fail
    refine (skip_any g A c l T r x0 x1 x2 x3 x4 x5 true _ HSK.out hlc hl (by omega) (h2.below hb3 h2.lt)).mono ?_
    rintro e w4 ⟨rfl, h4, hg4⟩
    go_wp2_with fail
    go_ret
    exact ⟨rfl, h4, grown_trans hg2 (grown_trans (grown_below _ hb3) hg4)⟩
  · have HSK := Lib.hid hs
    clear hs
    go_wp2_with fail
    refine (text_any (v : Int) _ (by omega) (by omega) ht2.tab).mono ?_
    rw [HT.out]
    rintro e w3 ⟨rfl, hb3⟩
    go_wp2_with fail
    refine (skip_any g A c l T r' x0 x1 x2 x3 x4 x5 false _ HSK.out hlc hl (by omega) (h2.below hb3 h2.lt)).mono ?_
    rintro e w4 ⟨rfl, h4, hg4⟩
    go_wp2_with fail
    go_ret
    exact ⟨rfl, h4, grown_trans hg2 (grown_trans (grown_below _ hb3) hg4)⟩
end Go.Proofs.YtmmbfidnbdckmaaDoor
