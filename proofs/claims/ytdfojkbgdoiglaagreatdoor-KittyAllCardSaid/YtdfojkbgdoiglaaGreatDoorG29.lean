/-
  Layer 10, the landed mods: whether a text may be that of a key's event. Layer 3, walked: the program's reader: one, part.
-/
import Derived.Test.YtdfojkbgdoiglaaGreatDoorG09
import Derived.Test.YtdfojkbgdoiglaaGreatDoorG20
import Derived.Test.YtdfojkbgdoiglaaGreatDoorG28
namespace Go.Proofs.YtdfojkbgdoiglaaGreatDoor
open Go.RowKit
def ctl (r : Int) : Bool := decide (r < 32) || decide (127 ≤ r) && decide (r ≤ 159)
theorem clean_any (ks : List Int) : cleanP ks = !(ks.any ctl) := by
 unfold cleanP
 rw [List.not_any_eq_all_not]
 rfl
theorem clean_long {l : List UInt8} (h : 32 < l.length) : cleanL l = false := by
 unfold cleanL
 cases ho : allL l with
 | none => rfl
 | some ks =>
   obtain ⟨_, h2⟩ := text_all_n l.length l (Nat.le_refl _) ks ho
   have h3 := catL_length ks
   rw [h2] at h3
   show (decide (ks.length ≤ 8) && cleanP ks) = false
   rw [decide_eq_false (by omega), Bool.false_and]
set_option maxRecDepth 100000 in
set_option maxHeartbeats 4000000 in
theorem ctl_any (r : Int) (w : World) : Calls Tryz.prog 70 #[.int .i64 r] w fun e w' => e = .returned (.bool (ctl r)) ∧ Below w.heap.size w w' := by
 obtain ⟨R, hR⟩ : ∃ R, ctl r = R := ⟨_, rfl⟩
 rw [hR]
 have HC := Lib.hid hR
 clear hR
 by_cases h1 : r < 32
 ·have HF := Lib.hid (show true = R by rw [← HC.out]; simp [ctl, h1])
  go_enter Tryz.func70, Tryz.ntmps70
  go_wp2_with fail
  go_ret
  exact ⟨ret_b HF.out, Below.refl _ _⟩
 ·by_cases h2 : 127 ≤ r
  ·by_cases h3 : r ≤ 159
   ·have HF := Lib.hid (show true = R by rw [← HC.out]; simp [ctl, h1, h2, h3])
    go_enter Tryz.func70, Tryz.ntmps70
    go_wp2_with fail
    go_ret
    exact ⟨ret_b HF.out, Below.refl _ _⟩
   ·have HF := Lib.hid (show false = R by rw [← HC.out]; simp [ctl, h1, h3])
    go_enter Tryz.func70, Tryz.ntmps70
    go_wp2_with fail
    go_ret
    exact ⟨ret_b HF.out, Below.refl _ _⟩
  ·have HF := Lib.hid (show false = R by rw [← HC.out]; simp [ctl, h1, h2])
   go_enter Tryz.func70, Tryz.ntmps70
   go_wp2_with fail
   go_ret
   exact ⟨ret_b HF.out, Below.refl _ _⟩
set_option maxRecDepth 100000 in
set_option maxHeartbeats 4000000 in
theorem idxf_any (A : Option Addr) (c : Nat) (l : List Int) (w : World) (hl : l.length ≤ 4294967296) (hr : Rd w A (is_ l)) :
 Calls Tryz.prog 91 #[.slice A l.length c, .func (.func 70) #[] #[]] w fun e w' => (∃ i : Int, e = .returned (.int .i64 i) ∧ decide (0 ≤ i) = l.any ctl ∧ -1 ≤ i ∧ i ≤ 4294967296) ∧ Below w.heap.size w w' := by
 obtain ⟨n, hn⟩ : ∃ n, l.length = n := ⟨_, rfl⟩
 have HN := Lib.hid hn
 rw [hn] at hl ⊢
 clear hn
 go_enter Tryz.func91, Tryz.ntmps91
 go_wp2
 go_loopw [5, 8] (fun _ z wr => ∃ i : Nat, i ≤ n ∧ z = .int .i64 i ∧ (l.take i).any ctl = false ∧ Below w.heap.size w wr) (fun _ z _ => n - (intOf z).toNat)
 case atStart => exact ⟨0, Nat.zero_le _, rfl, rfl, Below.refl _ _⟩
 case round =>
  obtain ⟨i, hi, rfl, hcl, hbw⟩ := hrel
  have HCL := Lib.hid hcl
  clear hcl
  by_cases hlt : i < n
  ·have hil : i < l.length := by rw [HN.out]; exact hlt
   obtain ⟨b, o, rfl, hbl, hcc⟩ := (hr.below hbw).int_at (by omega)
   have hci := hcc i hil
   have HS := Lib.hid (List.take_succ_eq_append_getElem hil)
   have HM := Lib.hid (List.getElem_mem hil)
   obtain ⟨x, hx⟩ : ∃ x, l[i]'hil = x := ⟨_, rfl⟩
   rw [hx] at hci HS HM
   have g0 : (0 : Int) ≤ (i : Int) := by omega
   have g1 : (i : Int) < (n : Int) := by omega
   clear hcc hx
   obtain ⟨q, hq⟩ : ∃ q, ctl x = q := ⟨_, rfl⟩
   have hcall : ∀ W : World, Calls Tryz.prog 70 #[.int .i64 x] W fun e w' => e = .returned (.bool q) ∧ Below W.heap.size W w' := fun W => by rw [← hq]; exact ctl_any x W
   have HQ := Lib.hid hq
   clear hq
   go_wp2_with fail
   refine (hcall _).mono ?_
   rintro e w2 ⟨rfl, hb2⟩
   have hB2 := hbw.trans (hb2.mono hbw.size)
   clear hcall hb2
   cases q with
   | true =>
     go_wp2_with fail
     go_ret
     refine ⟨⟨_, rfl, ?_, by omega, by omega⟩, hB2⟩
     rw [decide_eq_true g0]
     exact (List.any_eq_true.2 ⟨x, HM.out, HQ.out⟩).symm
   | false =>
     go_wp2_with fail
     go_roundw
     case rel => exact ⟨i + 1, by omega, by go_num, by rw [HS.out, List.any_append, HCL.out]; simp [HQ.out], hB2⟩
     case measure => simp [intOf]; omega
  ·have HE := Lib.hid (show l.any ctl = false by
    have h1 := HCL.out
    have h2 := HN.out
    rwa [List.take_of_length_le (by omega)] at h1)
   go_wp2_with fail
   go_ret
   exact ⟨⟨_, rfl, by rw [HE.out]; rfl, by decide, by decide⟩, hbw⟩
theorem has_any (A : Option Addr) (n c : Nat) (l : List Int) (hn : l.length = n) (q : Bool) (hq : l.any ctl = q) (w : World) (hl : n ≤ 4294967296) (hr : Rd w A (is_ l)) :
 Calls Tryz.prog 71 #[.slice A n c, .func (.func 70) #[] #[]] w fun e w' => e = .returned (.bool q) ∧ Below w.heap.size w w' := by
 have hcall := idxf_any A c l w (by omega) hr
 rw [hn, hq] at hcall
 clear hq hn
 go_enter Tryz.func71, Tryz.ntmps71
 go_wp2_with fail
 refine hcall.mono ?_
 clear hcall
 rintro e w1 ⟨⟨i, rfl, hd, h1, h2⟩, hb1⟩
 have HD := Lib.hid hd
 clear hd
 go_wp2_with fail
 go_ret
 exact ⟨ret_b HD.out, hb1⟩
set_option maxRecDepth 100000 in
set_option maxHeartbeats 8000000 in
theorem pkeytext_any (s : ByteArray) (hs : s.size ≤ 4294967296) (w : World) (hz : Siz w) : Calls Tryz.prog 44 #[.string s] w fun e w' => e = .returned (.bool (cleanB s)) ∧ Below w.heap.size w w' := by
 have hms : s.size ≤ maxLen := by simp only [maxLen]; omega
 have hlen : s.data.toList.length = s.size := Array.length_toList
 obtain ⟨R, hR⟩ : ∃ R, cleanB s = R := ⟨_, rfl⟩
 by_cases h32 : 32 < s.size
 ·have HF := Lib.hid (show false = R by rw [← hR]; exact (clean_long (by omega)).symm)
  rw [hR]
  have t1 : decide (32 < (s.size : Int)) = true := decide_eq_true (by omega)
  clear hR hlen
  go_enter Tryz.func44, Tryz.ntmps44
  go_wp2_with fail
  go_ret
  exact ⟨ret_b HF.out, Below.refl _ _⟩
 obtain ⟨o, ho⟩ : ∃ o, allL s.data.toList = o := ⟨_, rfl⟩
 have HC := Lib.hid (show cleanO o = R by rw [← hR, ← ho]; rfl)
 obtain ⟨l, hl⟩ : ∃ l, s.data.toList = l := ⟨_, rfl⟩
 rw [hl] at hlen ho
 have HL := Lib.hid hl
 have HO := Lib.hid ho
 have HLN := Lib.hid hlen
 rw [hR]
 have HSZ := Lib.hid hs
 have t1 : decide (32 < (s.size : Int)) = false := decide_eq_false (by omega)
 clear hR hl ho hlen hs h32
 go_enter Tryz.func44, Tryz.ntmps44
 go_wp2_with (first
  | ((with_reducible refine list_conv _ rfl (.tmp 10) 9 27 rfl w.heap.size 5 s ?_ Tryz.underlying9 Tryz.underlying27 Tryz.underlying5 hms (Nat.le_refl _) ?_); rfl; intro v1 w1 own1 hg1; obtain ⟨A1, c1, rfl, hr1⟩ := own1.form; have hc1 := own1.capT; have hB1 := below_none hg1; clear hg1))
 rw [HL.out] at hr1
 have hall := all_any A1 c1 l w1 (hz.below' hB1) (by rw [HLN.out]; exact HSZ.out) (by rw [HLN.out]; exact hc1) hr1
 rw [HLN.out, HO.out] at hall
 refine hall.mono ?_
 clear hall hr1 own1
 intro e w2 hA
 cases o with
 | none =>
   obtain ⟨rfl, hb2⟩ := hA
   have hB2 := hB1.trans (hb2.mono hB1.size)
   have HCF := Lib.hid (show false = R from HC.out)
   go_wp2_with fail
   go_ret
   exact ⟨ret_b HCF.out, hB2⟩
 | some ks =>
   have HCT := Lib.hid (show (decide (ks.length ≤ 8) && cleanP ks) = R from HC.out)
   clear HC
   obtain ⟨A2, c2, rfl, hr2, hb2⟩ := hA
   have hB2 := hB1.trans (hb2.mono hB1.size)
   clear hB1 hb2
   by_cases h8 : 8 < ks.length
   ·have t2 : decide ((ks.length : Int) ≤ 8) = false := decide_eq_false (by omega)
    have HE := Lib.hid (show decide (ks.length ≤ 8) = false from decide_eq_false (by omega))
    go_wp2_with fail
    go_ret
    exact ⟨ret_b (by rw [← HCT.out, HE.out]; rfl), hB2⟩
   ·have t2 : decide ((ks.length : Int) ≤ 8) = true := decide_eq_true (by omega)
    have HE := Lib.hid (show decide (ks.length ≤ 8) = true from decide_eq_true (by omega))
    obtain ⟨q, hq⟩ : ∃ q, ks.any ctl = q := ⟨_, rfl⟩
    have HQ := Lib.hid (show (!q) = R by rw [← HCT.out, HE.out, Bool.true_and, clean_any, hq])
    have hcall := has_any A2 ks.length c2 ks rfl q hq w2 (by omega) hr2
    obtain ⟨n, hn⟩ : ∃ n, ks.length = n := ⟨_, rfl⟩
    rw [hn] at t2 hcall ⊢
    clear hn h8 hq HE
    go_wp2_with fail
    refine hcall.mono ?_
    clear hcall
    rintro e w3 ⟨rfl, hb3⟩
    have hB3 := hB2.trans (hb3.mono hB2.size)
    cases q with
    | true =>
      have HF := Lib.hid (show false = R from HQ.out)
      go_wp2_with fail
      go_ret
      exact ⟨ret_b HF.out, hB3⟩
    | false =>
      have HF := Lib.hid (show true = R from HQ.out)
      go_wp2_with fail
      go_ret
      exact ⟨ret_b HF.out, hB3⟩
end Go.Proofs.YtdfojkbgdoiglaaGreatDoor
namespace Go.Proofs.YtdfojkbgdoiglaaGreatDoor
open Go.RowKit
def TabIn (n₁ : Nat) (w : World) : Prop := Lib.TabBelow Tryz.prog n₁ w "internal/strconv.uint64pow10" .u64 Lib.pow10Tab
theorem TabIn.tab {n₁ : Nat} {w : World} (h : TabIn n₁ w) : Tab w := h.here
theorem TabIn.below {n₁ : Nat} {w w' : World} (h : TabIn n₁ w) (hb : Below n₁ w w') : TabIn n₁ w' := h.on hb
theorem TabIn.grown {n₁ : Nat} {w w' : World} (h : TabIn n₁ w) (hg : w.grownBy w' (some n₁)) (hn : n₁ < w.heap.size) : TabIn n₁ w' := h.on (below_grown hg (Nat.le_refl _) hn)
theorem Rdr.lt {w : World} {g : Nat} {A : Option Addr} {c : Nat} {l r : List UInt8} {x0 x1 x2 x3 x4 x5 : Value} (h : Rdr w g A c l x0 x1 x2 x3 x4 x5 r) : g < w.heap.size := by
 obtain ⟨_, _, _, _, hb⟩ := h
 exact hb.lt
theorem Rdr.below {B : Nat} {w w' : World} {g : Nat} {A : Option Addr} {c : Nat} {l r : List UInt8} {x0 x1 x2 x3 x4 x5 : Value} (h : Rdr w g A c l x0 x1 x2 x3 x4 x5 r) (hb : Below B w w') (hB : g < B) : Rdr w' g A c l x0 x1 x2 x3 x4 x5 r := by
 obtain ⟨p, h1, h2, h3, h4⟩ := h
 exact ⟨p, h1, h2, h3.below (hb.mono (Nat.le_of_lt hB)), h4.below hb hB⟩
theorem Rdr.drewN {w : World} {g : Nat} {A : Option Addr} {c : Nat} {l r : List UInt8} {x0 x1 x2 x3 x4 x5 : Value} (h : Rdr w g A c l x0 x1 x2 x3 x4 x5 r) (n : Nat) : Rdr (w.drewN n) g A c l x0 x1 x2 x3 x4 x5 r := h
theorem skip_yes (g : Nat) (A : Option Addr) (c : Nat) (l t r : List UInt8) (x0 x1 x2 x3 x4 x5 : Value) (w : World) (hq : skipB t r = true) (hlc : l.length ≤ c) (hl : l.length ≤ 4294967296) (ht : t.length ≤ 4294967296) (h : Rdr w g A c l x0 x1 x2 x3 x4 x5 r) :
 Calls Tryz.prog 32 #[.pointer (some ⟨g, 0, none⟩), .string ⟨t.toArray⟩] w fun e w' => e = .returned (.bool true) ∧ Rdr w' g A c l x0 x1 x2 x3 x4 x5 (r.drop t.length) ∧ w.grownBy w' (some g) :=
 skip_any g A c l t r x0 x1 x2 x3 x4 x5 true w hq hlc hl ht h
theorem skip_no (g : Nat) (A : Option Addr) (c : Nat) (l t r : List UInt8) (x0 x1 x2 x3 x4 x5 : Value) (w : World) (hq : skipB t r = false) (hlc : l.length ≤ c) (hl : l.length ≤ 4294967296) (ht : t.length ≤ 4294967296) (h : Rdr w g A c l x0 x1 x2 x3 x4 x5 r) :
 Calls Tryz.prog 32 #[.pointer (some ⟨g, 0, none⟩), .string ⟨t.toArray⟩] w fun e w' => e = .returned (.bool false) ∧ Rdr w' g A c l x0 x1 x2 x3 x4 x5 r ∧ w.grownBy w' (some g) :=
 skip_any g A c l t r x0 x1 x2 x3 x4 x5 false w hq hlc hl ht h
set_option maxRecDepth 100000 in
set_option maxHeartbeats 4000000 in
theorem one_any (g : Nat) (A : Option Addr) (c a b : Nat) (l r : List UInt8) (x : UInt8) (x0 x1 x2 x3 x4 x5 : Value) (w : World) (hx : oneF a b r = x) (ha : 1 ≤ a) (hlc : l.length ≤ c) (hl : l.length ≤ 4294967296) (h : Rdr w g A c l x0 x1 x2 x3 x4 x5 r) :
 Calls Tryz.prog 62 #[.pointer (some ⟨g, 0, none⟩), .int .u8 a, .int .u8 b] w fun e w' => e = .returned (.int .u8 (x.toNat : Int)) ∧ Rdr w' g A c l x0 x1 x2 x3 x4 x5 (r.drop (runF a b 1 r).length) ∧ w.grownBy w' (some g) := by
 have hone := one_run a b r ha
 rw [hx] at hone
 by_cases h0 : x = 0
 ·subst h0
  have HU := Lib.hid (show runF a b 1 r = [] from hone)
  clear hone hx
  go_enter Tryz.func62, Tryz.ntmps62
  go_wp2_with fail
  refine (run2_any g A c a b 1 l r [] x0 x1 x2 x3 x4 x5 _ HU.out hlc hl (by omega) h).mono ?_
  rintro e w1 ⟨rfl, h1, hg1⟩
  go_wp2_with fail
  go_ret
  rw [HU.out]
  exact ⟨rfl, h1, hg1⟩
 ·have HU := Lib.hid (show runF a b 1 r = [x] by rw [hone]; exact if_neg h0)
  clear hone hx h0
  go_enter Tryz.func62, Tryz.ntmps62
  go_wp2_with fail
  refine (run2_any g A c a b 1 l r [x] x0 x1 x2 x3 x4 x5 _ HU.out hlc hl (by omega) h).mono ?_
  rintro e w1 ⟨rfl, h1, hg1⟩
  go_wp2_with fail
  go_ret
  rw [HU.out]
  exact ⟨rfl, h1, hg1⟩
set_option maxRecDepth 100000 in
set_option maxHeartbeats 4000000 in
theorem part2_any (g : Nat) (A : Option Addr) (c : Nat) (l r r' : List UInt8) (n : Int) (x0 x1 x2 x3 x4 x5 : Value) (w : World) (hn : partF r = (n, r')) (hlc : l.length ≤ c) (hl : l.length ≤ 4294967296) (ht : TabIn g w) (h : Rdr w g A c l x0 x1 x2 x3 x4 x5 r) :
 Calls Tryz.prog 97 #[.pointer (some ⟨g, 0, none⟩)] w fun e w' => e = .returned (.int .i64 n) ∧ Rdr w' g A c l x0 x1 x2 x3 x4 x5 r' ∧ w.grownBy w' (some g) := by
 have hh := h
 obtain ⟨at_, hat, hr, hrd, hblk⟩ := h
 have hlt := hblk.lt
 obtain ⟨A', hcut, hrd2⟩ := cut_run (P := Tryz.prog) (T := 27) (e := 5) (by kernel_rfl) Tryz.underlying27 Tryz.sizeOf5 A l.length c at_ hat hlc
 have hrd3 := hrd2 g w l rfl hrd
 rw [hr] at hrd3
 have c0 : w.cell? ⟨g, 0, none⟩ = some (.slice A l.length c) := hblk.cell 0
 have c1 : w.cell? ⟨g, 1, none⟩ = some (.int .i64 (at_ : Int)) := hblk.cell 1
 have HL := Lib.hid (show r.length = l.length - at_ by rw [← hr, List.length_drop])
 have n0 : (0 : Int) ≤ (at_ : Int) := by omega
 have n1 : (at_ : Int) ≤ (l.length : Int) := by omega
 have hrl : r.length ≤ 4294967296 := by have := HL.out; omega
 have HS : Hid (∀ W, Below w.heap.size w W → W.cell? ⟨g, 0, none⟩ = some (.slice A l.length c) ∧ W.cell? ⟨g, 1, none⟩ = some (.int .i64 (at_ : Int)) ∧ Below w.heap.size w W) := Lib.hid fun W hb => ⟨(hb.cell (p := ⟨g, 0, none⟩) hlt).trans c0, (hb.cell (p := ⟨g, 1, none⟩) hlt).trans c1, hb⟩
 have HR3 : Hid (∀ W, Below w.heap.size w W → Rd W A' (bs r)) := Lib.hid fun W hb => ((hrd3.rd (Nat.le_of_lt hlt))).below hb
 obtain ⟨v, hv⟩ : ∃ v, satv r = v := ⟨_, rfl⟩
 have hvle := satv_le r
 rw [hv] at hvle
 have HV := Lib.hid hv
 have HN := Lib.hid hn
 obtain ⟨d, hd⟩ : ∃ d, digs r = d := ⟨_, rfl⟩
 have HD := Lib.hid hd
 clear hr hv hrd2 hrd3 hn hd
 go_enter Tryz.func97, Tryz.ntmps97
 go_wp2_with fail
 go_region_held (fun w' => w'.cell? ⟨g, 0, none⟩ = some (.slice A l.length c) ∧ w'.cell? ⟨g, 1, none⟩ = some (.int .i64 (at_ : Int)) ∧ Below w.heap.size w w') (first | exact HS.out _ (Below.refl _ _).drew | exact HS.out _ ((Below.refl _ _).drew.trans hb2)) (first | (go_at_call 103; refine (take_at A' _ r _ _ HL.out hrl (HR3.out _ (Below.refl _ _).drew)).mono ?_; rw [HV.out, HD.out]; rintro e w2 ⟨rfl, hb2⟩))
 have hb2w : Below w.heap.size w w2 := (Below.refl _ _).drew.trans hb2
 have h2 := hh.below hb2w hlt
 have ht2 := ht.below (hb2w.mono (Nat.le_of_lt hlt))
 have hg2 := grown_below (some g) hb2w
 clear hb2
 obtain ⟨T, hT⟩ : ∃ T, textL (v : Int) = T := ⟨_, rfl⟩
 have HT := Lib.hid hT
 have hTl := textL_length (v : Int) (by omega)
 rw [hT] at hTl
 clear hT HS HR3 hcut c0 c1 hrd hblk hh
 have key : skipB T r = true ∧ n = (v : Int) ∧ r' = r.drop T.length ∨ skipB T r = false ∧ n = -1 ∧ r' = r := by
  have := HN.out
  unfold partF at this
  rw [HV.out, HT.out] at this
  cases hs : skipB T r with
  | true => rw [hs, if_pos rfl] at this; injection this with e1 e2; exact .inl ⟨rfl, e1.symm, e2.symm⟩
  | false => rw [hs, if_neg (by simp)] at this; injection this with e1 e2; exact .inr ⟨rfl, e1.symm, e2.symm⟩
 clear HN
 rcases key with ⟨hs, rfl, rfl⟩ | ⟨hs, rfl, rfl⟩
 ·have HSK := Lib.hid hs
  clear hs
  go_wp2_with fail
  refine (text_any (v : Int) _ (by omega) (by omega) ht2.tab).mono ?_
  rw [HT.out]
  rintro e w3 ⟨rfl, hb3⟩
  go_wp2_with fail
  refine (skip_any g A c l T r x0 x1 x2 x3 x4 x5 true _ HSK.out hlc hl (by omega) (h2.below hb3 h2.lt)).mono ?_
  rintro e w4 ⟨rfl, h4, hg4⟩
  go_wp2_with fail
  go_ret
  exact ⟨rfl, h4, grown_trans hg2 (grown_trans (grown_below _ hb3) hg4)⟩
 ·have HSK := Lib.hid hs
  clear hs
  go_wp2_with fail
  refine (text_any (v : Int) _ (by omega) (by omega) ht2.tab).mono ?_
  rw [HT.out]
  rintro e w3 ⟨rfl, hb3⟩
  go_wp2_with fail
  refine (skip_any g A c l T r' x0 x1 x2 x3 x4 x5 false _ HSK.out hlc hl (by omega) (h2.below hb3 h2.lt)).mono ?_
  rintro e w4 ⟨rfl, h4, hg4⟩
  go_wp2_with fail
  go_ret
  exact ⟨rfl, h4, grown_trans hg2 (grown_trans (grown_below _ hb3) hg4)⟩
end Go.Proofs.YtdfojkbgdoiglaaGreatDoor
