/-
  Stage 16, the landed mouse, walked: numbers: a button's, the marks', the code. Layer 3, walked: the program's reader: one, part.
-/
import Derived.Test.YtjlhhelikiegdaaDoorG08
import Derived.Test.YtjlhhelikiegdaaDoorG29
import Derived.Test.YtjlhhelikiegdaaDoorG30
import Derived.Test.YtjlhhelikiegdaaDoorG31
namespace Go.Proofs.YtjlhhelikiegdaaDoor
open Go.RowKit
theorem ret_in {a b : Int} (h : a = b) : Ending.returned (.int .i64 a) = .returned (.int .i64 b) := by rw [h]
def NumE (n : Int) (w : World) (e : Ending) (w' : World) : Prop := e = .returned (.int .i64 n) ∧ Below w.heap.size w w'
set_option maxRecDepth 100000 in
set_option maxHeartbeats 4000000 in
theorem mwhen_any (b : Bool) (n q : Int) (hq : wh b n = q) (w : World) : Calls Tryd.prog 20 #[.bool b, .int .i64 n] w (NumE q w) := by
 cases b with
 | true =>
   have HQ := Lib.hid (show n = q from hq)
   clear hq
   go_enter Tryd.func20, Tryd.ntmps20
   go_wp2_with fail
   go_ret
   exact ⟨ret_in HQ.out, Below.refl _ _⟩
 | false =>
   have HQ := Lib.hid (show 0 = q from hq)
   clear hq
   go_enter Tryd.func20, Tryd.ntmps20
   go_wp2_with fail
   go_ret
   exact ⟨ret_in HQ.out, Below.refl _ _⟩
set_option maxRecDepth 100000 in
set_option maxHeartbeats 4000000 in
theorem mnumber_any (b q : Int) (hq : numW b = q) (w : World) : Calls Tryd.prog 21 #[.int .i64 b] w (NumE q w) := by
 have HC := Lib.hid hq
 clear hq
 by_cases h0 : b = 0
 ·subst h0
  have HF := Lib.hid (show 3 = q by rw [← HC.out]; rfl)
  clear HC
  go_enter Tryd.func21, Tryd.ntmps21
  go_wp2_with fail
  go_ret
  exact ⟨ret_in HF.out, Below.refl _ _⟩
 have f0 : (b == 0) = false := beq_false_of_ne h0
 by_cases h4 : b < 4
 ·have HF := Lib.hid (show wR (b - 1) = q by rw [← HC.out]; unfold numW; rw [if_neg h0, if_pos h4])
  clear HC h0
  unfold wR at HF
  go_enter Tryd.func21, Tryd.ntmps21
  go_wp2_with fail
  go_ret
  exact ⟨ret_in HF.out, Below.refl _ _⟩
 ·have HF := Lib.hid (show wR (wR (wR (b.tdiv 4) * 64) + b % 4) = q by rw [← HC.out]; unfold numW; rw [if_neg h0, if_neg h4])
  clear HC h0
  unfold wR at HF
  go_enter Tryd.func21, Tryd.ntmps21
  go_wp2_with fail
  go_ret
  exact ⟨ret_in HF.out, Below.refl _ _⟩
set_option maxRecDepth 100000 in
set_option maxHeartbeats 4000000 in
theorem mhas_any (mode mods d : Int) (q : Bool) (hq : hasW mode mods d = q) {gm ge : Nat} {t x y : Int} {b : Int} (w : World) (km : Blk w gm 3 #[.int .i64 mode]) (ke : Blk w ge 23 #[.int .i64 b, .int .i64 t, .int .i64 x, .int .i64 y, .int .i64 mods]) :
 Calls Tryd.prog 40 #[.int .i64 d, .pointer (some ⟨gm, 0, none⟩), .pointer (some ⟨ge, 0, none⟩)] w fun e w' => e = .returned (.bool q) ∧ Below w.heap.size w w' := by
 have HC := Lib.hid hq
 clear hq
 have c0 := km.cell 0
 obtain ⟨a0, a1, a2, a3, a4⟩ := Blk.cells5 ke
 by_cases h9 : mode = 9
 ·subst h9
  have HF := Lib.hid (show false = q by rw [← HC.out]; rfl)
  clear HC
  go_enter Tryd.func40, Tryd.ntmps40
  go_wp2_with fail
  go_ret
  exact ⟨ret_bl HF.out, Below.refl _ _⟩
 ·have f9 : (mode != 9) = true := bne_iff_ne.2 h9
  have HF := Lib.hid (show (bits .and .i64 mods d != 0) = q by rw [← HC.out]; unfold hasW bT; rw [f9, Bool.true_and])
  clear HC h9
  go_enter Tryd.func40, Tryd.ntmps40
  go_wp2_with fail
  go_ret
  exact ⟨ret_bl HF.out, Below.refl _ _⟩
set_option maxRecDepth 100000 in
set_option maxHeartbeats 4000000 in
theorem mmodhas_any (n d : Int) (q : Bool) (hq : bT n d = q) {g : Nat} (w : World) (k : Blk w g 3 #[.int .i64 n]) : Calls Tryd.prog 38 #[.int .i64 d, .pointer (some ⟨g, 0, none⟩)] w fun e w' => e = .returned (.bool q) ∧ Below w.heap.size w w' := by
 have HF := Lib.hid (show (bits .and .i64 n d != 0) = q from hq)
 clear hq
 have c0 := k.cell 0
 go_enter Tryd.func38, Tryd.ntmps38
 go_wp2_with fail
 go_ret
 exact ⟨ret_bl HF.out, Below.refl _ _⟩
set_option maxRecDepth 100000 in
set_option maxHeartbeats 4000000 in
theorem mtype_any (n : Int) (f : UInt8) (q : Int) (hq : typP n f = q) (w : World) : Calls Tryd.prog 17 #[.int .i64 n, .int .u8 (f.toNat : Int)] w (NumE q w) := by
 have HC := Lib.hid hq
 clear hq
 by_cases hf : f = 109
 ·subst hf
  have HF := Lib.hid (show 3 = q by rw [← HC.out]; rfl)
  clear HC
  go_enter Tryd.func17, Tryd.ntmps17
  go_wp2_with fail
  go_ret
  exact ⟨ret_in HF.out, Below.refl _ _⟩
 have f9 : ((f.toNat : Int) == 109) = false := beq_false_of_ne fun h => hf (by apply UInt8.toNat_inj.1; show f.toNat = 109; omega)
 by_cases hb : bT n 32 = true
 ·have HF := Lib.hid (show 4 = q by rw [← HC.out]; unfold typP; rw [if_neg hf, if_pos hb])
  have h2 : (bits .and .i64 n 32 != 0) = true := hb
  clear HC hb hf
  go_enter Tryd.func17, Tryd.ntmps17
  go_wp2_with fail
  go_ret
  exact ⟨ret_in HF.out, Below.refl _ _⟩
 ·have HF := Lib.hid (show 1 = q by rw [← HC.out]; unfold typP; rw [if_neg hf, if_neg hb])
  have h2 : (bits .and .i64 n 32 != 0) = false := by simpa [bT] using hb
  clear HC hb hf
  go_enter Tryd.func17, Tryd.ntmps17
  go_wp2_with fail
  go_ret
  exact ⟨ret_in HF.out, Below.refl _ _⟩
theorem sum_step (l : List Int) {k : Nat} (h : k < l.length) : (l.take (k + 1)).sum = (l.take k).sum + l[k] := by
 rw [List.take_succ_eq_append_getElem h, List.sum_append]; simp
theorem sum_rng : ∀ (l : List Int), (∀ n ∈ l, 0 ≤ n ∧ n ≤ 1000) → 0 ≤ l.sum ∧ l.sum ≤ 1000 * l.length
 | [], _ => by simp
 | n :: l, h => by
   have := sum_rng l fun m hm => h m (List.mem_cons_of_mem _ hm)
   have := h n (List.mem_cons_self ..)
   simp only [List.sum_cons, List.length_cons]
   omega
set_option maxRecDepth 100000 in
set_option maxHeartbeats 4000000 in
theorem msum_any (l : List Int) (m : Nat) (q : Int) (hm : l.length = m) (hm2 : m ≤ 1000) (hr : ∀ n ∈ l, 0 ≤ n ∧ n ≤ 1000) (hq : l.sum = q) (A : Option Addr) (c : Nat) (w : World) (hrd : Rd w A (is_ l)) : Calls Tryd.prog 39 #[.slice A m c] w (NumE q w) := by
 have HM := Lib.hid hm
 have HQ := Lib.hid hq
 have HR := Lib.hid hr
 clear hm hq hr
 go_enter Tryd.func39, Tryd.ntmps39
 go_wp2_with fail
 go_loop [3, 8] (fun s i => ∃ (k : Nat) (p : Int), k ≤ m ∧ i = .int .i64 k ∧ s = .int .i64 p ∧ Hid ((l.take k).sum = p)) (fun _ i => m - (intOf i).toNat)
 case atStart => exact ⟨0, 0, Nat.zero_le _, rfl, rfl, Lib.hid (by simp)⟩
 case round =>
  obtain ⟨k, p, hk, rfl, rfl, HP⟩ := hrel
  by_cases hlt : k < m
  ·have hkl : k < l.length := by rw [HM.out]; exact hlt
   obtain ⟨b, o, rfl, hb, hc⟩ := hrd.int_at (by omega)
   have hck := hc k hkl
   obtain ⟨x, hx⟩ : ∃ x, l[k]'hkl = x := ⟨_, rfl⟩
   rw [hx] at hck
   have hst := sum_step l hkl
   rw [HP.out, hx] at hst
   have r1 := sum_rng (l.take (k + 1)) fun n hn => HR.out n (List.mem_of_mem_take hn)
   have r2 : (l.take (k + 1)).length ≤ 1000 := by rw [List.length_take]; omega
   rw [hst] at r1
   have HP2 := Lib.hid hst
   have g0 : (0 : Int) ≤ (k : Int) := by omega
   have g1 : (k : Int) < (m : Int) := by omega
   have hw : IntKind.i64.wrap (p + x) = p + x := by rw [IntKind.wrap_i64]; omega
   clear hc hx hst
   go_wp2_with fail
   go_round
   case rel => exact ⟨k + 1, p + x, by omega, by go_num, rfl, HP2⟩
   case measure => simp [intOf]; omega
  ·obtain rfl : k = m := by omega
   have hpq : p = q := by rw [← HP.out, List.take_of_length_le (by rw [HM.out]; exact Nat.le_refl _), HQ.out]
   subst hpq
   go_wp2_with fail
   go_ret
   exact ⟨rfl, Below.refl _ _⟩
def TabIn (n₁ : Nat) (w : World) : Prop := Lib.TabBelow Tryd.prog n₁ w "internal/strconv.uint64pow10" .u64 Lib.pow10Tab
theorem TabIn.tab {n₁ : Nat} {w : World} (h : TabIn n₁ w) : Tab w := h.here
theorem TabIn.below {n₁ : Nat} {w w' : World} (h : TabIn n₁ w) (hb : Below n₁ w w') : TabIn n₁ w' := h.on hb
theorem TabIn.grown {n₁ : Nat} {w w' : World} (h : TabIn n₁ w) (hg : w.grownBy w' (some n₁)) (hn : n₁ < w.heap.size) : TabIn n₁ w' := h.on (below_grown hg (Nat.le_refl _) hn)
theorem Rdr.lt {w : World} {g : Nat} {A : Option Addr} {c : Nat} {l r : List UInt8} {x0 x1 x2 x3 x4 x5 : Value} (h : Rdr w g A c l x0 x1 x2 x3 x4 x5 r) : g < w.heap.size := by
 obtain ⟨_, _, _, _, hb⟩ := h
 exact hb.lt
theorem Rdr.below {B : Nat} {w w' : World} {g : Nat} {A : Option Addr} {c : Nat} {l r : List UInt8} {x0 x1 x2 x3 x4 x5 : Value} (h : Rdr w g A c l x0 x1 x2 x3 x4 x5 r) (hb : Below B w w') (hB : g < B) : Rdr w' g A c l x0 x1 x2 x3 x4 x5 r := by
 obtain ⟨p, h1, h2, h3, h4⟩ := h
 exact ⟨p, h1, h2, h3.below (hb.mono (Nat.le_of_lt hB)), h4.below hb hB⟩
theorem Rdr.drewN {w : World} {g : Nat} {A : Option Addr} {c : Nat} {l r : List UInt8} {x0 x1 x2 x3 x4 x5 : Value} (h : Rdr w g A c l x0 x1 x2 x3 x4 x5 r) (n : Nat) : Rdr (w.drewN n) g A c l x0 x1 x2 x3 x4 x5 r := h
theorem skip_yes (g : Nat) (A : Option Addr) (c : Nat) (l t r : List UInt8) (x0 x1 x2 x3 x4 x5 : Value) (w : World) (hq : skipB t r = true) (hlc : l.length ≤ c) (hl : l.length ≤ 4294967296) (ht : t.length ≤ 4294967296) (h : Rdr w g A c l x0 x1 x2 x3 x4 x5 r) :
 Calls Tryd.prog 35 #[.pointer (some ⟨g, 0, none⟩), .string ⟨t.toArray⟩] w fun e w' => e = .returned (.bool true) ∧ Rdr w' g A c l x0 x1 x2 x3 x4 x5 (r.drop t.length) ∧ w.grownBy w' (some g) :=
 skip_any g A c l t r x0 x1 x2 x3 x4 x5 true w hq hlc hl ht h
theorem skip_no (g : Nat) (A : Option Addr) (c : Nat) (l t r : List UInt8) (x0 x1 x2 x3 x4 x5 : Value) (w : World) (hq : skipB t r = false) (hlc : l.length ≤ c) (hl : l.length ≤ 4294967296) (ht : t.length ≤ 4294967296) (h : Rdr w g A c l x0 x1 x2 x3 x4 x5 r) :
 Calls Tryd.prog 35 #[.pointer (some ⟨g, 0, none⟩), .string ⟨t.toArray⟩] w fun e w' => e = .returned (.bool false) ∧ Rdr w' g A c l x0 x1 x2 x3 x4 x5 r ∧ w.grownBy w' (some g) :=
 skip_any g A c l t r x0 x1 x2 x3 x4 x5 false w hq hlc hl ht h
set_option maxRecDepth 100000 in
set_option maxHeartbeats 4000000 in
theorem one_any (g : Nat) (A : Option Addr) (c a b : Nat) (l r : List UInt8) (x : UInt8) (x0 x1 x2 x3 x4 x5 : Value) (w : World) (hx : oneF a b r = x) (ha : 1 ≤ a) (hlc : l.length ≤ c) (hl : l.length ≤ 4294967296) (h : Rdr w g A c l x0 x1 x2 x3 x4 x5 r) :
 Calls Tryd.prog 47 #[.pointer (some ⟨g, 0, none⟩), .int .u8 a, .int .u8 b] w fun e w' => e = .returned (.int .u8 (x.toNat : Int)) ∧ Rdr w' g A c l x0 x1 x2 x3 x4 x5 (r.drop (runF a b 1 r).length) ∧ w.grownBy w' (some g) := by
 have hone := one_run a b r ha
 rw [hx] at hone
 by_cases h0 : x = 0
 ·subst h0
  have HU := Lib.hid (show runF a b 1 r = [] from hone)
  clear hone hx
  go_enter Tryd.func47, Tryd.ntmps47
  go_wp2_with fail
  refine (run2_any g A c a b 1 l r [] x0 x1 x2 x3 x4 x5 _ HU.out hlc hl (by omega) h).mono ?_
  rintro e w1 ⟨rfl, h1, hg1⟩
  go_wp2_with fail
  go_ret
  rw [HU.out]
  exact ⟨rfl, h1, hg1⟩
 ·have HU := Lib.hid (show runF a b 1 r = [x] by rw [hone]; exact if_neg h0)
  clear hone hx h0
  go_enter Tryd.func47, Tryd.ntmps47
  go_wp2_with fail
  refine (run2_any g A c a b 1 l r [x] x0 x1 x2 x3 x4 x5 _ HU.out hlc hl (by omega) h).mono ?_
  rintro e w1 ⟨rfl, h1, hg1⟩
  go_wp2_with fail
  go_ret
  rw [HU.out]
  exact ⟨rfl, h1, hg1⟩
set_option maxRecDepth 100000 in
set_option maxHeartbeats 4000000 in
theorem part2_any (g : Nat) (A : Option Addr) (c : Nat) (l r r' : List UInt8) (n : Int) (x0 x1 x2 x3 x4 x5 : Value) (w : World) (hn : partF r = (n, r')) (hlc : l.length ≤ c) (hl : l.length ≤ 4294967296) (ht : TabIn g w) (h : Rdr w g A c l x0 x1 x2 x3 x4 x5 r) :
 Calls Tryd.prog 65 #[.pointer (some ⟨g, 0, none⟩)] w fun e w' => e = .returned (.int .i64 n) ∧ Rdr w' g A c l x0 x1 x2 x3 x4 x5 r' ∧ w.grownBy w' (some g) := by
 have hh := h
 obtain ⟨at_, hat, hr, hrd, hblk⟩ := h
 have hlt := hblk.lt
 obtain ⟨A', hcut, hrd2⟩ := cut_run (P := Tryd.prog) (T := 26) (e := 5) (by kernel_rfl) Tryd.underlying26 Tryd.sizeOf5 A l.length c at_ hat hlc
 have hrd3 := hrd2 g w l rfl hrd
 rw [hr] at hrd3
 have c0 : w.cell? ⟨g, 0, none⟩ = some (.slice A l.length c) := hblk.cell 0
 have c1 : w.cell? ⟨g, 1, none⟩ = some (.int .i64 (at_ : Int)) := hblk.cell 1
 have HL := Lib.hid (show r.length = l.length - at_ by rw [← hr, List.length_drop])
 have n0 : (0 : Int) ≤ (at_ : Int) := by omega
 have n1 : (at_ : Int) ≤ (l.length : Int) := by omega
 have hrl : r.length ≤ 4294967296 := by have := HL.out; omega
 have HS : Hid (∀ W, Below w.heap.size w W → W.cell? ⟨g, 0, none⟩ = some (.slice A l.length c) ∧ W.cell? ⟨g, 1, none⟩ = some (.int .i64 (at_ : Int)) ∧ Below w.heap.size w W) := Lib.hid fun W hb => ⟨(hb.cell (p := ⟨g, 0, none⟩) hlt).trans c0, (hb.cell (p := ⟨g, 1, none⟩) hlt).trans c1, hb⟩
 have HR3 : Hid (∀ W, Below w.heap.size w W → Rd W A' (bs r)) := Lib.hid fun W hb => ((hrd3.rd (Nat.le_of_lt hlt))).below hb
 obtain ⟨v, hv⟩ : ∃ v, satv r = v := ⟨_, rfl⟩
 have hvle := satv_le r
 rw [hv] at hvle
 have HV := Lib.hid hv
 have HN := Lib.hid hn
 obtain ⟨d, hd⟩ : ∃ d, digs r = d := ⟨_, rfl⟩
 have HD := Lib.hid hd
 clear hr hv hrd2 hrd3 hn hd
 go_enter Tryd.func65, Tryd.ntmps65
 go_wp2_with fail
 go_region_held (fun w' => w'.cell? ⟨g, 0, none⟩ = some (.slice A l.length c) ∧ w'.cell? ⟨g, 1, none⟩ = some (.int .i64 (at_ : Int)) ∧ Below w.heap.size w w') (first | exact HS.out _ (Below.refl _ _).drew | exact HS.out _ ((Below.refl _ _).drew.trans hb2)) (first | (go_at_call 71; refine (take_at A' _ r _ _ HL.out hrl (HR3.out _ (Below.refl _ _).drew)).mono ?_; rw [HV.out, HD.out]; rintro e w2 ⟨rfl, hb2⟩))
 have hb2w : Below w.heap.size w w2 := (Below.refl _ _).drew.trans hb2
 have h2 := hh.below hb2w hlt
 have ht2 := ht.below (hb2w.mono (Nat.le_of_lt hlt))
 have hg2 := grown_below (some g) hb2w
 clear hb2
 obtain ⟨T, hT⟩ : ∃ T, textL (v : Int) = T := ⟨_, rfl⟩
 have HT := Lib.hid hT
 have hTl := textL_length (v : Int) (by omega)
 rw [hT] at hTl
 clear hT HS HR3 hcut c0 c1 hrd hblk hh
 have key : skipB T r = true ∧ n = (v : Int) ∧ r' = r.drop T.length ∨ skipB T r = false ∧ n = -1 ∧ r' = r := by
  have := HN.out
  unfold partF at this
  rw [HV.out, HT.out] at this
  cases hs : skipB T r with
  | true => rw [hs, if_pos rfl] at this; injection this with e1 e2; exact .inl ⟨rfl, e1.symm, e2.symm⟩
  | false => rw [hs, if_neg (by simp)] at this; injection this with e1 e2; exact .inr ⟨rfl, e1.symm, e2.symm⟩
 clear HN
 rcases key with ⟨hs, rfl, rfl⟩ | ⟨hs, rfl, rfl⟩
 ·have HSK := Lib.hid hs
  clear hs
  go_wp2_with fail
  refine (text_any (v : Int) _ (by omega) (by omega) ht2.tab).mono ?_
  rw [HT.out]
  rintro e w3 ⟨rfl, hb3⟩
  go_wp2_with fail
  refine (skip_any g A c l T r x0 x1 x2 x3 x4 x5 true _ HSK.out hlc hl (by omega) (h2.below hb3 h2.lt)).mono ?_
  rintro e w4 ⟨rfl, h4, hg4⟩
  go_wp2_with fail
  go_ret
  exact ⟨rfl, h4, grown_trans hg2 (grown_trans (grown_below _ hb3) hg4)⟩
 ·have HSK := Lib.hid hs
  clear hs
  go_wp2_with fail
  refine (text_any (v : Int) _ (by omega) (by omega) ht2.tab).mono ?_
  rw [HT.out]
  rintro e w3 ⟨rfl, hb3⟩
  go_wp2_with fail
  refine (skip_any g A c l T r' x0 x1 x2 x3 x4 x5 false _ HSK.out hlc hl (by omega) (h2.below hb3 h2.lt)).mono ?_
  rintro e w4 ⟨rfl, h4, hg4⟩
  go_wp2_with fail
  go_ret
  exact ⟨rfl, h4, grown_trans hg2 (grown_trans (grown_below _ hb3) hg4)⟩
end Go.Proofs.YtjlhhelikiegdaaDoor
