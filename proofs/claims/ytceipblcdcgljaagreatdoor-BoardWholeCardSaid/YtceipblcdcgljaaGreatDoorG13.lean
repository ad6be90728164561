/-
  Layer 13's mathematics: what goes as text. Layer 2, the document's Is and Put, walked. (Nothing of the program's.) Layer 9, the landed keys, walked: Look. Layer 3, walked: the program's May. Layer 3, walked: the program's char (in a text of its own: a dump that doesn't call it can load the others). Layer 3, walked: the program's Num. A sequence of numbers, as the program's Num tells it. Cut out of LegPw.
-/
import Derived.Test.YtceipblcdcgljaaGreatDoorG02
import Derived.Test.YtceipblcdcgljaaGreatDoorG08
import Derived.Test.YtceipblcdcgljaaGreatDoorG10
import Derived.Test.YtceipblcdcgljaaGreatDoorG11
import Derived.Test.YtceipblcdcgljaaGreatDoorG12
import Derived.BigQuiet
import Derived.Deep.QuietTactic
import Derived.Deep.Cut
namespace Go.Proofs.YtceipblcdcgljaaGreatDoor
theorem text_low {c : Int} (h : (lookE c).kind = 1) : 32 ≤ c ∧ keyedK c = false := by
 by_cases ho : c < 57344 ∨ 57455 ≤ c
 ·rw [look_out ho] at h
  simp only at h
  unfold restN at h
  by_cases h1 : c = 9 ∨ c = 13 ∨ c = 27 ∨ c = 127
  ·rw [if_pos h1] at h; cases h
  ·rw [if_neg h1, if_neg (by omega), if_neg (by omega)] at h
   by_cases h2 : isPtK c = false ∨ c < 32 ∨ 127 ≤ c ∧ c ≤ 159 ∨ 57344 ≤ c ∧ c ≤ 63743
   ·rw [if_pos h2] at h; cases h
   ·refine ⟨by omega, ?_⟩
    unfold keyedK
    simp only [Bool.or_eq_false_iff, beq_eq_false_iff_ne]
    omega
 ·exfalso
  obtain ⟨k, rfl⟩ : ∃ k : Fin 111, c = 57344 + k.1 := ⟨⟨(c - 57344).toNat, by omega⟩, by simp; omega⟩
  have := code_all k
  omega
end Go.Proofs.YtceipblcdcgljaaGreatDoor
namespace Go.Proofs.YtceipblcdcgljaaGreatDoor
open Go.RowKit
set_option maxHeartbeats 1000000 in
theorem risPt_any (r : Int) (w : World) : Calls Tryz.prog 81 #[.int .i64 r] w fun e w' => e = .returned (.bool (isPt r)) ∧ w = w' := by
 by_cases h0 : 0 ≤ r
 ·by_cases h1 : r ≤ 1114111
  ·by_cases h2 : r < 55296
   ·go_enter Tryz.func81, Tryz.ntmps81
    go_wp2
    go_ret
    exact ⟨ret_b (((isPt_iff r).2 (by omega)).symm), rfl⟩
   ·by_cases h3 : 57343 < r
    ·go_enter Tryz.func81, Tryz.ntmps81
     go_wp2
     go_ret
     exact ⟨ret_b (((isPt_iff r).2 (by omega)).symm), rfl⟩
    ·go_enter Tryz.func81, Tryz.ntmps81
     go_wp2
     go_ret
     exact ⟨ret_b (((isPt_no r).2 (by omega)).symm), rfl⟩
  ·go_enter Tryz.func81, Tryz.ntmps81
   go_wp2
   go_ret
   exact ⟨ret_b (((isPt_no r).2 (by omega)).symm), rfl⟩
 ·go_enter Tryz.func81, Tryz.ntmps81
  go_wp2
  go_ret
  exact ⟨ret_b (((isPt_no r).2 (by omega)).symm), rfl⟩
set_option maxHeartbeats 2000000 in
theorem rPut_any (r : Int) (w : World) : Calls Tryz.prog 40 #[.int .i64 r] w (Out (putL r) w) := by
 cases h : isPt r with
 | false =>
   rw [putL_no h]
   go_enter Tryz.func40, Tryz.ntmps40
   go_wp2_with fail
   refine (risPt_any r _).mono ?_
   rintro e w1 ⟨rfl, rfl⟩
   go_wp2_with fail
   go_ret
   exact ⟨none, 0, rfl, Rd.nil _ _, Below.refl _ _⟩
 | true =>
   obtain ⟨h0, h1, h2⟩ := (isPt_iff r).1 h
   clear h2
   by_cases a1 : r < 128
   ·have e := putL_1 h a1
    have E := Lib.hid (show bs (putL r) = [.int .u8 r] by rw [e, bs1 r (by omega) (by omega)])
    have L := Lib.hid (show (putL r).length = 1 by rw [e]; rfl)
    clear e
    go_enter Tryz.func40, Tryz.ntmps40
    go_wp2_with fail
    refine (risPt_any r _).mono ?_
    rintro e w1 ⟨rfl, rfl⟩
    go_wp2_with fail
    go_ret
    exact out_lit w 5 E.out L.out
   ·by_cases a2 : r < 2048
    ·have e := putL_2 h (by omega) a2
     have E := Lib.hid (show bs (putL r) = [.int .u8 (192 + r / 64), .int .u8 (128 + r % 64)] by rw [e, bs_cons _ (by omega) (by omega), bs1 _ (by omega) (by omega)])
     have L := Lib.hid (show (putL r).length = 2 by rw [e]; rfl)
     clear e
     go_enter Tryz.func40, Tryz.ntmps40
     go_wp2_with fail
     refine (risPt_any r _).mono ?_
     rintro e w1 ⟨rfl, rfl⟩
     go_wp2_with fail
     go_ret
     exact out_lit w 5 E.out L.out
    ·by_cases a3 : r < 65536
     ·have e := putL_3 h (by omega) a3
      have E := Lib.hid (show bs (putL r) = [.int .u8 (224 + r / 4096), .int .u8 (128 + r / 64 % 64), .int .u8 (128 + r % 64)] by rw [e, bs_cons _ (by omega) (by omega), bs_cons _ (by omega) (by omega), bs1 _ (by omega) (by omega)])
      have L := Lib.hid (show (putL r).length = 3 by rw [e]; rfl)
      clear e
      go_enter Tryz.func40, Tryz.ntmps40
      go_wp2_with fail
      refine (risPt_any r _).mono ?_
      rintro e w1 ⟨rfl, rfl⟩
      go_wp2_with fail
      go_ret
      exact out_lit w 5 E.out L.out
     ·have e := putL_4 h (by omega)
      have E := Lib.hid (show bs (putL r) = [.int .u8 (240 + r / 262144), .int .u8 (128 + r / 4096 % 64), .int .u8 (128 + r / 64 % 64), .int .u8 (128 + r % 64)] by rw [e, bs_cons _ (by omega) (by omega), bs_cons _ (by omega) (by omega), bs_cons _ (by omega) (by omega), bs1 _ (by omega) (by omega)])
      have L := Lib.hid (show (putL r).length = 4 by rw [e]; rfl)
      clear e
      go_enter Tryz.func40, Tryz.ntmps40
      go_wp2_with fail
      refine (risPt_any r _).mono ?_
      rintro e w1 ⟨rfl, rfl⟩
      go_wp2_with fail
      go_ret
      exact out_lit w 5 E.out L.out
theorem find_take_no {k : Nat} {c : Int} (h : ∀ r ∈ roL.take k, inRo c r = false) {r : Ro} (hk : k < roL.length) (hr : roL[k] = r) (hi : inRo c r = true) : roL.find? (inRo c) = some r := by
 have e : roL = roL.take k ++ roL.drop k := (List.take_append_drop k roL).symm
 rw [List.drop_eq_getElem_cons hk, hr] at e
 rw [e, List.find?_append, List.find?_eq_none.2 (fun x hx => by rw [h x hx]; decide)]
 simp [hi]
theorem take_more {k : Nat} {c : Int} (h : ∀ r ∈ roL.take k, inRo c r = false) {r : Ro} (hk : k < roL.length) (hr : roL[k] = r) (hi : inRo c r = false) : ∀ r ∈ roL.take (k + 1), inRo c r = false := by
 rw [List.take_succ_eq_append_getElem hk, hr]
 intro x hx
 rcases List.mem_append.1 hx with hx | hx
 ·exact h x hx
 ·rw [List.mem_singleton.1 hx]; exact hi
theorem ro_mem {k : Nat} (hk : k < roL.length) {r : Ro} (hr : roL[k] = r) : r ∈ roL := hr ▸ List.getElem_mem hk
theorem find_all_no {c : Int} (h : ∀ r ∈ roL.take 22, inRo c r = false) : roL.find? (inRo c) = none := by
 rw [show roL.take 22 = roL from rfl] at h
 exact List.find?_eq_none.2 (fun x hx => by rw [h x hx]; decide)
theorem below_set5 {B : Nat} {a w : World} (h : Below B a w) {b : Nat} (hb : B ≤ b) (x y z u v : Value) : Below B a (((((w.setCell ⟨b, 0, none⟩ x).setCell ⟨b, 1, none⟩ y).setCell ⟨b, 2, none⟩ z).setCell ⟨b, 3, none⟩ u).setCell ⟨b, 4, none⟩ v) :=
 ((((h.setCell (p := ⟨b, 0, none⟩) hb x).setCell (p := ⟨b, 1, none⟩) hb y).setCell (p := ⟨b, 2, none⟩) hb z).setCell (p := ⟨b, 3, none⟩) hb u).setCell (p := ⟨b, 4, none⟩) hb v
set_option maxRecDepth 100000 in
set_option maxHeartbeats 4000000 in
theorem plook_any (c : Int) (w : World) (hs : Siz w) (hR : Rws w) : Calls Tryz.prog 15 #[.int .i64 c] w fun e w' => e = .returned (enV (lookE c)) ∧ Below w.heap.size w w' := by
 have HC := Lib.hid (lookP_eq c)
 obtain ⟨b, o, cp, t, fz, hg, hg0, hb0, hrd⟩ := hR
 have cg := cell_of_row w 0 0 _ t fz hg
 simp only [List.getElem?_toArray, List.getElem?_cons_zero] at cg
 have hG : ∀ x, (w.alloc x).cell? ⟨0, 0, none⟩ = some (.slice (some ⟨b, o, none⟩) 22 cp) := fun x => (((Below.refl _ w).alloc (Nat.le_refl _) x).cell (p := ⟨0, 0, none⟩) hg0).trans cg
 have p0 := Blk.new w 36 #[.int .i64 0, .int .u8 0, .int .i64 0, .int .i64 0, .bool false]
 have hB0 := (Below.refl w.heap.size w).alloc (Nat.le_refl _) (.cells #[.int .i64 0, .int .u8 0, .int .i64 0, .int .i64 0, .bool false] 36)
 go_enter Tryz.func15, Tryz.ntmps15
 go_wp2
 clear hG cg hg
 go_loopw [7] (fun i wr => ∃ k : Nat, k ≤ 22 ∧ i = .int .i64 k ∧ Hid (∀ r ∈ roL.take k, inRo c r = false) ∧ Blk wr w.heap.size 36 #[.int .i64 0, .int .u8 0, .int .i64 0, .int .i64 0, .bool false] ∧ Below w.heap.size w wr) (fun i _ => 22 - (intOf i).toNat)
 case atStart => exact ⟨0, by omega, rfl, Lib.hid (by simp), p0, hB0⟩
 case round =>
  obtain ⟨k, hk, rfl, HN, hp, hbw⟩ := hrel
  clear p0 hB0
  by_cases hlt : k < 22
  ·obtain ⟨r, hr⟩ : ∃ r, roL[k]'hlt = r := ⟨_, rfl⟩
   obtain ⟨A, cp1, hns, a0, a1, a2, a3, a4, a5, a6⟩ := (hrd.below hbw hb0).at_ hlt hr
   have hb1 : b < wr.heap.size := Nat.lt_of_lt_of_le hb0 hbw.size
   have HNS : Hid (∀ x, Rd (wr.alloc x) A (is_ r.nums)) := Lib.hid fun x => (hns.rd hbw.size).alloc x
   have k1 : (k : Int) < 22 := by omega
   have k0 : (0 : Int) ≤ (k : Int) := by omega
   have hx := ro_mem hlt hr
   clear hns
   by_cases h1 : r.first ≤ c
   ·by_cases h2 : c ≤ r.last
    ·have HF := Lib.hid (find_take_no HN.out hlt hr ((inRo_iff c r).2 ⟨h1, h2⟩))
     have HE : Hid (enV (entK r (c - r.first).toNat) = enV (lookE c)) := Lib.hid (by rw [← HC.out]; unfold lookP; rw [HF.out])
     obtain ⟨⟨K, F, N, C, B⟩, hE⟩ : ∃ E, entK r (c - r.first).toNat = E := ⟨_, rfl⟩
     have HQ : Hid (∀ W, Rd W A (is_ r.nums) → Calls Tryz.prog 25 #[.agg #[.int .i64 r.first, .int .i64 r.last, .int .i64 r.kind, .string ⟨r.finals.toArray⟩, .slice A r.nums.length cp1, .string ⟨r.chars.toArray⟩, .bool r.keys], .int .i64 c] W fun e w' => e = .returned (.agg #[.int .i64 K, .int .u8 F, .int .i64 N, .int .i64 C, .bool B]) ∧ Below W.heap.size W w') := Lib.hid fun W hW => by
      have := entry_ro r hx (c - r.first).toNat c (by omega) h2 A cp1 W hW
      rwa [hE] at this
     rw [hE] at HE
     clear hE hr
     go_wp2_with fail
     refine (HQ.out _ (HNS.out _)).mono ?_
     rintro e w2 ⟨rfl, hb2⟩
     have hp2 := (hp.alloc (.cells #[.int .i64 r.first, .int .i64 r.last, .int .i64 r.kind, .string ⟨r.finals.toArray⟩, .slice A r.nums.length cp1, .string ⟨r.chars.toArray⟩, .bool r.keys] 59)).below hb2 (by simp; exact Nat.lt_succ_of_lt hp.lt)
     have hbe := (hbw.alloc hbw.size (.cells #[.int .i64 r.first, .int .i64 r.last, .int .i64 r.kind, .string ⟨r.finals.toArray⟩, .slice A r.nums.length cp1, .string ⟨r.chars.toArray⟩, .bool r.keys] 59)).trans (hb2.mono (by simp; exact Nat.le_succ_of_le hbw.size))
     have q0 := hp2.frozen 0
     have q1 := hp2.frozen 1
     have q2 := hp2.frozen 2
     have q3 := hp2.frozen 3
     have q4 := hp2.frozen 4
     have c0 := hp2.cell 0
     have c1 := hp2.cell 1
     have c2 := hp2.cell 2
     have c3 := hp2.cell 3
     have c4 := hp2.cell 4
     go_wp2_with fail
     exact bodyPost_ret (v := .agg #[.int .i64 K, .int .u8 F, .int .i64 N, .int .i64 C, .bool B]) (by simp [results, Tryz.results15, go_sem, c0, c1, c2, c3, c4]) rfl ⟨by rw [← HE.out]; rfl, below_set5 hbe (Nat.le_refl _) _ _ _ _ _⟩
    ·have HN2 := Lib.hid (take_more HN.out hlt hr (inRo_no (c := c) (r := r) (fun h => h2 h.2)))
     clear hr
     go_wp2
     go_roundw
     case rel => exact ⟨k + 1, by omega, by go_num, HN2, hp.alloc _, hbw.alloc hbw.size _⟩
     case measure => simp [intOf]; omega
   ·have HN2 := Lib.hid (take_more HN.out hlt hr (inRo_no (c := c) (r := r) (fun h => h1 h.1)))
    clear hr
    go_wp2
    go_roundw
    case rel => exact ⟨k + 1, by omega, by go_num, HN2, hp.alloc _, hbw.alloc hbw.size _⟩
    case measure => simp [intOf]; omega
  ·obtain rfl : k = 22 := by omega
   have HF := Lib.hid (find_all_no HN.out)
   have hs2 := hs.below hbw (Nat.le_refl _)
   obtain ⟨T, hT⟩ : ∃ T, txK c = T := ⟨_, rfl⟩
   have HE : Hid ((if T then (⟨1, 0, 0, 0, false⟩ : En) else ⟨0, 0, 0, 0, false⟩) = lookE c) := Lib.hid (by rw [← HC.out, ← hT]; unfold lookP; rw [HF.out])
   have HQ := Lib.hid (isText_any c wr hs2)
   rw [hT] at HQ
   clear hT
   go_wp2_with fail
   refine HQ.out.mono ?_
   rintro e w2 ⟨rfl, hb2⟩
   have hp2 := hp.below hb2 hp.lt
   have hbe := hbw.trans (hb2.mono hbw.size)
   have q0 := hp2.frozen 0
   have q1 := hp2.frozen 1
   have q2 := hp2.frozen 2
   have q3 := hp2.frozen 3
   have q4 := hp2.frozen 4
   have c0 := hp2.cell 0
   have c1 := hp2.cell 1
   have c2 := hp2.cell 2
   have c3 := hp2.cell 3
   have c4 := hp2.cell 4
   cases T with
   | true =>
     go_wp2_with fail
     exact bodyPost_ret (v := .agg #[.int .i64 1, .int .u8 0, .int .i64 0, .int .i64 0, .bool false]) (by simp [results, Tryz.results15, go_sem, c0, c1, c2, c3, c4]) rfl ⟨by rw [← HE.out]; rfl, below_set5 hbe (Nat.le_refl _) _ _ _ _ _⟩
   | false =>
     go_wp2_with fail
     exact bodyPost_ret (v := .agg #[.int .i64 0, .int .u8 0, .int .i64 0, .int .i64 0, .bool false]) (by simp [results, Tryz.results15, go_sem, c0, c1, c2, c3, c4]) rfl ⟨by rw [← HE.out]; rfl, below_set5 hbe (Nat.le_refl _) _ _ _ _ _⟩
theorem last_kind {s : Sq} (h : ¬ (s.kind = 1 ∨ s.kind = 2 ∨ s.kind = 3 ∨ s.kind = 4 ∨ s.kind = 5)) : lastOk s = false := by
 unfold lastOk
 rw [if_neg (by omega), if_neg (by omega), decide_eq_false (by omega)]
 rfl
def frmC (f : Fm) : Array Value := #[.string ⟨f.letter.toArray⟩, .bool f.body, .bool f.inter, .int .u8 (f.first.toNat : Int), .string ⟨f.en.toArray⟩]
structure Two (w W : World) (s : Sq) (A : Option Addr) (c : Nat) (f : Fm) (g : Nat) : Prop where
 sq : Blk W w.heap.size 40 (seqC s A c)
 fm : Blk W g 65 (frmC f)
 be : Below w.heap.size w W
 lt : w.heap.size < g
theorem Two.next {w W W' : World} {s : Sq} {A : Option Addr} {c : Nat} {f : Fm} {g : Nat} (h : Two w W s A c f g) (hb : Below W.heap.size W W') : Two w W' s A c f g :=
 ⟨h.sq.below hb h.sq.lt, h.fm.below hb h.fm.lt, h.be.trans (hb.mono h.be.size), h.lt⟩
theorem Two.new {w w1 : World} {s : Sq} {A : Option Addr} {c : Nat} (f : Fm) (hb : Below (w.alloc (.cells (seqC s A c) 40)).heap.size (w.alloc (.cells (seqC s A c) 40)) w1) :
 Two w (w1.alloc (.cells (frmC f) 65)) s A c f w1.heap.size := by
 have h0 : Blk (w.alloc (.cells (seqC s A c) 40)) w.heap.size 40 (seqC s A c) := Blk.new w _ _
 have h1 := h0.below hb h0.lt
 have hb1 : Below w.heap.size w w1 := ((Below.refl _ w).alloc (Nat.le_refl _) _).trans (hb.mono (by simp))
 exact ⟨h1.alloc _, Blk.new _ _ _, hb1.alloc hb1.size _, h1.lt⟩
theorem Two.cells {w W : World} {s : Sq} {A : Option Addr} {c : Nat} {f : Fm} {g : Nat} (h : Two w W s A c f g) :
 (W.cell? ⟨w.heap.size, 0, none⟩ = some (.int .i64 s.kind) ∧ W.cell? ⟨w.heap.size, 1, none⟩ = some (.int .u8 (s.priv.toNat : Int)) ∧ W.cell? ⟨w.heap.size, 2, none⟩ = some (.slice A s.params.length c) ∧ W.cell? ⟨w.heap.size, 3, none⟩ = some (.string ⟨s.inter.toArray⟩) ∧ W.cell? ⟨w.heap.size, 4, none⟩ = some (.int .u8 (s.final.toNat : Int)) ∧ W.cell? ⟨w.heap.size, 5, none⟩ = some (.string ⟨s.data.toArray⟩)) ∧
 (W.cell? ⟨g, 0, none⟩ = some (.string ⟨f.letter.toArray⟩) ∧ W.cell? ⟨g, 1, none⟩ = some (.bool f.body) ∧ W.cell? ⟨g, 2, none⟩ = some (.bool f.inter) ∧ W.cell? ⟨g, 3, none⟩ = some (.int .u8 (f.first.toNat : Int)) ∧ W.cell? ⟨g, 4, none⟩ = some (.string ⟨f.en.toArray⟩)) :=
 ⟨Blk.cells6 h.sq, Blk.cells5 h.fm⟩
set_option maxRecDepth 100000 in
set_option maxHeartbeats 8000000 in
theorem pmay_any (s : Sq) (A : Option Addr) (c : Nat) (m : Int) (w : World) (hm : mayS s = m) (hp : s.params.length ≤ 4294967296) (hpp : ∀ p ∈ s.params, p.length ≤ 4294967296) (hi : s.inter.length ≤ 4294967296) (hr : RdP w A s.params) :
 Calls Tryz.prog 30 #[sqV s A c] w fun e w' => e = .returned (.int .i64 m) ∧ Below w.heap.size w w' := by
 by_cases hd : 4096 < s.data.length
 ·obtain rfl : 4 = m := (may_4 hd).symm.trans hm
  clear hm
  unfold sqV
  go_enter Tryz.func30, Tryz.ntmps30
  go_wp2_with fail
  go_ret
  exact ⟨rfl, (Below.refl _ _).alloc (Nat.le_refl _) _⟩
 ·have hd4 : s.data.length ≤ 4096 := by omega
  clear hd
  have hB : Below w.heap.size w (w.alloc (.cells #[.int .i64 s.kind, .int .u8 (s.priv.toNat : Int), .slice A s.params.length c, .string ⟨s.inter.toArray⟩, .int .u8 (s.final.toNat : Int), .string ⟨s.data.toArray⟩] 40)) := (Below.refl _ _).alloc (Nat.le_refl _) _
  by_cases hk : s.kind = 1 ∨ s.kind = 2 ∨ s.kind = 3 ∨ s.kind = 4 ∨ s.kind = 5
  ·have HK := Lib.hid hk
   have HKB := Lib.hid (show kindB s.kind = true from decide_eq_true hk)
   clear hk
   unfold sqV
   go_enter Tryz.func30, Tryz.ntmps30
   go_wp2_with fail
   refine (formOf_any s.kind _).mono ?_
   rw [HKB.out]
   rintro e w1 ⟨rfl, hb1⟩
   obtain ⟨f, hf⟩ : ∃ f, formF s.kind = f := ⟨_, rfl⟩
   have HF := Lib.hid hf
   rw [hf]
   clear hf
   have T1 : Two w (w1.alloc (.cells #[.string ⟨f.letter.toArray⟩, .bool f.body, .bool f.inter, .int .u8 (f.first.toNat : Int), .string ⟨f.en.toArray⟩] 65)) s A c f w1.heap.size := Two.new f hb1
   unfold fmV
   go_upto_region 4 with (fail)
   obtain ⟨⟨c0, c1, c2, c3, c4, c5⟩, f0, f1, f2, f3, f4⟩ := T1.cells
   generalize w1.alloc (.cells #[.string ⟨f.letter.toArray⟩, .bool f.body, .bool f.inter, .int .u8 (f.first.toNat : Int), .string ⟨f.en.toArray⟩] 65) = W1 at *
   have T := T1
   clear T1
   cases h1 : bareOk s with
   | false =>
     have V1 := Lib.hid h1
     clear h1
     obtain rfl : 1 = m := (may_1 hd4 (by simp [okS, V1.out])).symm.trans hm
     clear hm
     go_wp2_with fail
     rw [← HF.out]
     refine (holds_any s A c false _ HK.out V1.out).mono ?_
     rintro e w2 ⟨rfl, hb2⟩
     have T2 := T.next hb2
     go_wp2_with fail
     go_ret
     exact ⟨rfl, T2.be⟩
   | true =>
     have V1 := Lib.hid h1
     clear h1
     go_wp2_with fail
     rw [← HF.out]
     refine (holds_any s A c true _ HK.out V1.out).mono ?_
     rw [HF.out]
     rintro e w2 ⟨rfl, hb2⟩
     have T2 := T.next hb2
     clear T c0 c1 c2 c3 c4 c5 f0 f1 f2 f3 f4
     obtain ⟨⟨c0, c1, c2, c3, c4, c5⟩, f0, f1, f2, f3, f4⟩ := T2.cells
     cases h2 : lastOk s with
     | false =>
       have V2 := Lib.hid h2
       clear h2
       obtain rfl : 1 = m := (may_1 hd4 (by simp [okS, V1.out, V2.out])).symm.trans hm
       clear hm
       go_wp2_with fail
       rw [← HF.out]
       refine (ends_any s A c false _ HK.out V2.out).mono ?_
       rintro e w3 ⟨rfl, hb3⟩
       have T3 := T2.next hb3
       go_wp2_with fail
       go_ret
       exact ⟨rfl, T3.be⟩
     | true =>
       have V2 := Lib.hid h2
       clear h2
       go_wp2_with fail
       rw [← HF.out]
       refine (ends_any s A c true _ HK.out V2.out).mono ?_
       rw [HF.out]
       rintro e w3 ⟨rfl, hb3⟩
       have T3 := T2.next hb3
       clear T2 c0 c1 c2 c3 c4 c5 f0 f1 f2 f3 f4
       obtain ⟨⟨c0, c1, c2, c3, c4, c5⟩, f0, f1, f2, f3, f4⟩ := T3.cells
       cases h3 : parOk s.params with
       | false =>
         have V3 := Lib.hid h3
         clear h3
         obtain rfl : 1 = m := (may_1 hd4 (by simp [okS, V3.out])).symm.trans hm
         clear hm
         go_wp2_with fail
         refine (pparams_any A c s.params false _ V3.out hp hpp (hr.below T3.be)).mono ?_
         rintro e w4 ⟨rfl, rfl⟩
         go_wp2_with fail
         go_ret
         exact ⟨rfl, T3.be⟩
       | true =>
         have V3 := Lib.hid h3
         clear h3
         go_wp2_with fail
         refine (pparams_any A c s.params true _ V3.out hp hpp (hr.below T3.be)).mono ?_
         rintro e w4 ⟨rfl, rfl⟩
         cases h4 : privOk s.priv with
         | false =>
           obtain rfl : 1 = m := (may_1 hd4 (by simp [okS, h4])).symm.trans hm
           clear hm
           simp only [privOk, Bool.or_eq_false_iff, decide_eq_false_iff_not] at h4
           obtain ⟨p0, p1⟩ := h4
           have p2 := (btw_no _ _ _).1 p1
           have t1 := priv_ne p0
           have t2 : ((s.priv.toNat : Int) != 0) = true := by simp [bne, t1]
           clear p0 p1
           by_cases p3 : s.priv.toNat < 60
           all_goals
            go_wp2_with fail
            go_ret
            exact ⟨rfl, T3.be⟩
         | true =>
           have V4 := Lib.hid h4
           have key : ((s.priv.toNat : Int) == 0) = true ∧ ((s.priv.toNat : Int) != 0) = false ∨ ((s.priv.toNat : Int) == 0) = false ∧ ((s.priv.toNat : Int) != 0) = true ∧ 60 ≤ s.priv.toNat ∧ s.priv.toNat ≤ 63 := by
            simp only [privOk, Bool.or_eq_true, decide_eq_true_eq] at h4
            rcases h4 with h4 | h4
            ·left; rw [h4]; exact ⟨rfl, rfl⟩
            ·right
             have := (btw_iff _ _ _).1 h4
             have t1 : ((s.priv.toNat : Int) == 0) = false := beq_false_of_ne (by omega)
             exact ⟨t1, by simp [bne, t1], this⟩
           clear h4
           rcases key with ⟨t1, t2⟩ | ⟨t1, t2, p1, p2⟩
           all_goals
            by_cases h5 : 2 < s.inter.length
            ·obtain rfl : 1 = m := (may_1 hd4 (by
              have : ¬ s.inter.length ≤ 2 := by omega
              simp [okS, this])).symm.trans hm
             clear hm
             go_wp2_with fail
             go_ret
             exact ⟨rfl, T3.be⟩
            ·have h5 : s.inter.length ≤ 2 := by omega
             have V5 := Lib.hid h5
             cases h6 : s.inter.all (btw 32 47) with
             | false =>
               have V6 := Lib.hid h6
               clear h6
               obtain rfl : 1 = m := (may_1 hd4 (by simp [okS, V6.out])).symm.trans hm
               clear hm
               go_wp2_with fail
               refine (pwithin_any s.inter 32 47 false _ (by omega) V6.out).mono ?_
               rintro e w5 ⟨rfl, rfl⟩
               go_wp2_with fail
               go_ret
               exact ⟨rfl, T3.be⟩
             | true =>
               have V6 := Lib.hid h6
               clear h6
               cases h7 : s.data.all (btw 32 126) with
               | false =>
                 have V7 := Lib.hid h7
                 clear h7
                 obtain rfl : 1 = m := (may_1 hd4 (by simp [okS, V7.out])).symm.trans hm
                 clear hm
                 go_wp2_with fail
                 refine (pwithin_any s.inter 32 47 true _ (by omega) V6.out).mono ?_
                 rintro e w5 ⟨rfl, rfl⟩
                 go_wp2_with fail
                 refine (pwithin_any s.data 32 126 false _ (by omega) V7.out).mono ?_
                 rintro e w6 ⟨rfl, rfl⟩
                 go_wp2_with fail
                 go_ret
                 exact ⟨rfl, T3.be⟩
               | true =>
                 have V7 := Lib.hid h7
                 clear h7
                 obtain rfl : 0 = m := (may_0 hd4 (by simp [okS, V1.out, V2.out, V3.out, V4.out, V5.out, V6.out, V7.out])).symm.trans hm
                 clear hm
                 go_wp2_with fail
                 refine (pwithin_any s.inter 32 47 true _ (by omega) V6.out).mono ?_
                 rintro e w5 ⟨rfl, rfl⟩
                 go_wp2_with fail
                 refine (pwithin_any s.data 32 126 true _ (by omega) V7.out).mono ?_
                 rintro e w6 ⟨rfl, rfl⟩
                 go_wp2_with fail
                 go_ret
                 exact ⟨rfl, T3.be⟩
  ·obtain rfl : 1 = m := (may_1 hd4 (by simp [okS, last_kind hk])).symm.trans hm
   have HKB := Lib.hid (show kindB s.kind = false from decide_eq_false hk)
   clear hk hm
   unfold sqV
   go_enter Tryz.func30, Tryz.ntmps30
   go_wp2_with fail
   refine (formOf_any s.kind _).mono ?_
   rw [HKB.out]
   rintro e w1 ⟨rfl, hb1⟩
   unfold fmV
   go_wp2_with fail
   go_ret
   exact ⟨rfl, (hB.trans (hb1.mono (by simp))).alloc (Nat.le_trans (by simp) hb1.size) _⟩
set_option maxRecDepth 100000 in
set_option maxHeartbeats 2000000 in
theorem char_any (c : UInt8) (w : World) (h : c.toNat < 128) :
 Calls Tryz.prog 112 #[.int .u8 (c.toNat : Int)] w fun e w' => e = .returned (.string ⟨(privL c).toArray⟩) ∧ w = w' := by
 by_cases h0 : c = 0
 ·subst h0
  go_enter Tryz.func112, Tryz.ntmps112
  go_wp2
  go_ret
  exact ⟨rfl, rfl⟩
 ·have E := Lib.hid (show privL c = [c] from if_neg h0)
  have n0 : c.toNat ≠ 0 := fun e => h0 (UInt8.toNat_inj.1 e)
  have t0 : ((c.toNat : Int) == 0) = false := beq_false_of_ne (by omega)
  clear h0 n0
  go_enter Tryz.func112, Tryz.ntmps112
  go_wp2
  go_ret
  exact ⟨by rw [E.out, ← char_str c h]; rfl, rfl⟩
def numS (a b : UInt8) (l : List Int) : Sq := ⟨1, a, l.map fun n => [n], [], b, []⟩
def NumP (a b : UInt8) (l : List Int) (w : World) (e : Ending) (w' : World) : Prop :=
 (∃ A c, e = .returned (sqV (numS a b l) A c) ∧ RdP w' A (numS a b l).params) ∧ Below w.heap.size w w'
def NumPN (a b : UInt8) (l : List Int) (w : World) (e : Ending) (w' : World) : Prop :=
 (∃ A c g, e = .returned (sqV (numS a b l) A c) ∧ RdPN g w' A (numS a b l).params) ∧ Below w.heap.size w w'
set_option maxRecDepth 100000 in
set_option maxHeartbeats 8000000 in
theorem num_anyN (a b : UInt8) (A : Option Addr) (n c : Nat) (l : List Int) (w : World) (hn : l.length = n) (hl : n ≤ 4294967296) (hr : Rd w A (is_ l)) :
 Calls Tryz.prog 114 #[.int .u8 (a.toNat : Int), .int .u8 (b.toNat : Int), .slice A n c] w (NumPN a b l w) := by
 obtain ⟨j0, hj, hy0, hy1, hy2⟩ : ∃ i, Tryz.prog.info? 57 = some i ∧ i.zero = some (.slice none 0 0) ∧ i.size = 1 ∧ i.bytes = 24 := ⟨_, rfl, rfl, rfl, rfl⟩
 have HN := Lib.hid hn
 clear hn
 go_enter Tryz.func114, Tryz.ntmps114
 go_wp2_with fail
 have hb0 : Below w.heap.size w ((w.alloc (.cells #[.int .i64 0, .int .u8 0, .slice none 0 0, .string ⟨#[]⟩, .int .u8 0, .string ⟨#[]⟩] 40)).alloc (.cells #[.int .i64 1, .int .u8 (a.toNat : Int), .slice none 0 0, .string ⟨#[]⟩, .int .u8 (b.toNat : Int), .string ⟨#[]⟩] 40)) := ((Below.refl _ w).alloc (Nat.le_refl _) _).alloc (by simp) _
 have hz0 : Blk ((w.alloc (.cells #[.int .i64 0, .int .u8 0, .slice none 0 0, .string ⟨#[]⟩, .int .u8 0, .string ⟨#[]⟩] 40)).alloc (.cells #[.int .i64 1, .int .u8 (a.toNat : Int), .slice none 0 0, .string ⟨#[]⟩, .int .u8 (b.toNat : Int), .string ⟨#[]⟩] 40)) w.heap.size 40 #[.int .i64 0, .int .u8 0, .slice none 0 0, .string ⟨#[]⟩, .int .u8 0, .string ⟨#[]⟩] := (Blk.new w _ _).alloc _
 have hs0 := Blk.new (w.alloc (.cells #[.int .i64 0, .int .u8 0, .slice none 0 0, .string ⟨#[]⟩, .int .u8 0, .string ⟨#[]⟩] 40)) 40 #[.int .i64 1, .int .u8 (a.toNat : Int), .slice none 0 0, .string ⟨#[]⟩, .int .u8 (b.toNat : Int), .string ⟨#[]⟩]
 rw [World.size_alloc] at hs0
 have hsz : ((w.alloc (.cells #[.int .i64 0, .int .u8 0, .slice none 0 0, .string ⟨#[]⟩, .int .u8 0, .string ⟨#[]⟩] 40)).alloc (.cells #[.int .i64 1, .int .u8 (a.toNat : Int), .slice none 0 0, .string ⟨#[]⟩, .int .u8 (b.toNat : Int), .string ⟨#[]⟩] 40)).heap.size = w.heap.size + 2 := by simp
 have HSZ := Lib.hid hsz
 clear hsz
 generalize ((w.alloc (.cells #[.int .i64 0, .int .u8 0, .slice none 0 0, .string ⟨#[]⟩, .int .u8 0, .string ⟨#[]⟩] 40)).alloc (.cells #[.int .i64 1, .int .u8 (a.toNat : Int), .slice none 0 0, .string ⟨#[]⟩, .int .u8 (b.toNat : Int), .string ⟨#[]⟩] 40)) = W0 at *
 have hg1 : w.heap.size < w.heap.size + 1 := Nat.lt_succ_self _
 have hg2 : w.heap.size + 1 < W0.heap.size := hs0.lt
 generalize w.heap.size + 1 = g at *
 go_loopw [15] (fun i wr => ∃ (k : Nat) (v : Value) (xs : List Value), k ≤ n ∧ i = .int .i64 k ∧ Own wr W0.heap.size 57 1 v k xs ∧ (∃ B2, B2 ≤ wr.heap.size ∧ Rows wr B2 3 xs ((l.take k).map fun n => [n])) ∧ Blk wr w.heap.size 40 #[.int .i64 0, .int .u8 0, .slice none 0 0, .string ⟨#[]⟩, .int .u8 0, .string ⟨#[]⟩] ∧ Blk wr g 40 #[.int .i64 1, .int .u8 (a.toNat : Int), v, .string ⟨#[]⟩, .int .u8 (b.toNat : Int), .string ⟨#[]⟩] ∧ Below w.heap.size w wr ∧ W0.heap.size ≤ wr.heap.size) (fun i _ => n - (intOf i).toNat)
 case atStart => exact ⟨0, _, [], Nat.zero_le _, rfl, Own.nil_ _ _ _ _, ⟨0, Nat.zero_le _, by rfl, fun k hk => absurd hk (by simp)⟩, hz0, hs0, hb0, Nat.le_refl _⟩
 case round =>
  obtain ⟨k, v, xs, hk, rfl, ho, ⟨B2, hB2, hrs⟩, hz, hs, hbw, hW⟩ := hrel
  clear hz0 hs0 hb0
  obtain ⟨c0, c1, c2, c3, c4, c5⟩ := Blk.cells6 hs
  have fz2 := hs.frozen 2
  by_cases hlt : k < n
  ·have hkl : k < l.length := by rw [HN.out]; exact hlt
   obtain ⟨bb, oo, hA, hbb, hcc⟩ := (hr.below hbw).int_at (by rw [HN.out]; omega)
   cases hA
   have hck := hcc k hkl
   obtain ⟨x, hx⟩ : ∃ x, l[k]'hkl = x := ⟨_, rfl⟩
   rw [hx] at hck
   have HX := Lib.hid (show l.take (k + 1) = l.take k ++ [x] by rw [List.take_succ_eq_append_getElem hkl, hx])
   clear hx hcc
   obtain ⟨Av, cv, rfl, _⟩ := ho.form
   have hown1 := (ho.alloc (.cells #[.int .i64 x] 3)).alloc (.cells #[.slice (some ⟨wr.heap.size, 0, none⟩) 1 1] 57)
   have hrd1 : Rd ((wr.alloc (.cells #[.int .i64 x] 3)).alloc (.cells #[.slice (some ⟨wr.heap.size, 0, none⟩) 1 1] 57)) (some ⟨wr.heap.size + 1, 0, none⟩) [.slice (some ⟨wr.heap.size, 0, none⟩) 1 1] := by
    have := Rd.block (xs := [.slice (some ⟨wr.heap.size, 0, none⟩) 1 1]) (heap_alloc_new (wr.alloc (.cells #[.int .i64 x] 3)) (.cells #[.slice (some ⟨wr.heap.size, 0, none⟩) 1 1] 57)) (by simp)
    rwa [World.size_alloc] at this
   have hin : RowI (wr.alloc (.cells #[.int .i64 x] 3)) (wr.heap.size + 1) 3 (some ⟨wr.heap.size, 0, none⟩) [x] := by
    obtain ⟨_, A', c', h1, h2⟩ := own_row (p := [x]) (own_lit (wr.alloc (.cells #[.int .i64 x] 3)) 0 3 wr.heap.size (.int .i64 x) (Nat.zero_le _) (heap_alloc_new wr _))
    cases h1
    rwa [World.size_alloc] at h2
   have hrs1 := ((hrs.keep (Nat.le_refl B2) (fun q hq _ => Below.heap_alloc wr (.cells #[.int .i64 x] 3) q (by omega))).keep (B' := wr.heap.size + 1) (by omega) (fun _ _ _ => rfl)).snoc2 (n := 1) rfl (c := 1) hin
   have hrs2 := hrs1.keep (Nat.le_refl _) (fun q hq _ => Below.heap_alloc (wr.alloc (.cells #[.int .i64 x] 3)) (.cells #[.slice (some ⟨wr.heap.size, 0, none⟩) 1 1] 57) q (by simp; omega))
   have hz2 := (hz.alloc (.cells #[.int .i64 x] 3)).alloc (.cells #[.slice (some ⟨wr.heap.size, 0, none⟩) 1 1] 57)
   have hs2 := (hs.alloc (.cells #[.int .i64 x] 3)).alloc (.cells #[.slice (some ⟨wr.heap.size, 0, none⟩) 1 1] 57)
   have hb2 : Below w.heap.size w ((wr.alloc (.cells #[.int .i64 x] 3)).alloc (.cells #[.slice (some ⟨wr.heap.size, 0, none⟩) 1 1] 57)) := (hbw.alloc hbw.size _).alloc (Nat.le_trans hbw.size (by simp)) _
   have h63 : k + 1 ≤ maxLen := by simp only [maxLen]; omega
   have hlim : (k + 1) * 24 ≤ 140737488355328 := by omega
   have hbs : W0.heap.size ≤ ((wr.alloc (.cells #[.int .i64 x] 3)).alloc (.cells #[.slice (some ⟨wr.heap.size, 0, none⟩) 1 1] 57)).heap.size := by simp; omega
   have hsz2 : wr.heap.size + 1 ≤ ((wr.alloc (.cells #[.int .i64 x] 3)).alloc (.cells #[.slice (some ⟨wr.heap.size, 0, none⟩) 1 1] 57)).heap.size := by simp
   clear hrs hrs1 hin ho
   go_wp2_with (first | (at_builtin; refine list_app _ rfl (.tmp 20) (.tmp 23) 38 rfl W0.heap.size 57 j0 _ 1 24 Tryz.underlying38 hj hy0 hy1 hy2 rfl Nat.one_pos _ _ _ rfl hown1 _ 1 1 [.slice (some ⟨wr.heap.size, 0, none⟩) 1 1] rfl rfl hrd1 (sl_one _ _ _) h63 hlim hbs ?_; intro v5 w5 hown5 hg5; obtain ⟨A5, c5, rfl, hf5⟩ := hown5.form; clear hf5; have hs5 := hs2.grown hg5 (hown1.no_cells hs2 (by decide)); have fz5 := hs5.frozen 2; obtain ⟨e0, e1, e2, e3, e4, e5⟩ := Blk.cells6 hs5))
   have hz5 := hz2.grown hg5 (hown1.no_cells hz2 (by decide))
   have hrs5 := hrs2.keep (B' := wr.heap.size + 1) (Nat.le_refl _) (keep_out hown1 (by decide) hg5)
   have hb5 : Below w.heap.size w w5 := hb2.grown hg5 (Nat.le_trans hbw.size (by simp; omega)) (fun g hg => by have := (hown1.lt g hg).1; have := HSZ.out; omega)
   have hsz5 : wr.heap.size + 1 ≤ w5.heap.size := Nat.le_trans hsz2 hg5.size
   have hgs := grown_setCell g 2 (.slice A5 (k + 1) c5) w5
   clear hg5 hown1 hrd1 hz2 hs2 hb2 h63 hlim hbs hsz2 hrs2
   go_wp2_with fail
   go_roundw
   case rel =>
    refine ⟨k + 1, _, xs ++ [.slice (some ⟨wr.heap.size, 0, none⟩) 1 1], by omega, by go_num, hown5.kept hgs (.inr (hown5.no_cells hs5 (by decide))), ⟨wr.heap.size + 1, by simp; exact hsz5, ?_⟩, hz5.far (by show w.heap.size ≠ g; omega) _, hs5.set 2 _, hb5.setCell (p := ⟨g, 2, none⟩) (Nat.le_of_lt hg1) _, Nat.le_trans hW (Nat.le_trans (Nat.le_succ _) (by simpa using hsz5))⟩
    rw [HX.out, List.map_append]
    exact hrs5.keep (Nat.le_refl _) (fun q _ ⟨cur, fz, hh⟩ => hgs.block q (Array.getElem?_eq_some_iff.1 hh).1 (fun e => tag_ne hs5 hh (by decide) (by injection e)))
   case measure => simp [intOf]; omega
  ·obtain rfl : k = n := by omega
   have HT := Lib.hid (show l.take k = l from List.take_of_length_le (by rw [HN.out]; omega))
   obtain ⟨A3, c3, rfl, hrow⟩ := hrs.rdpn ho hs (by decide) (by decide)
   rw [HT.out] at hrow
   have hrow2 := hrow.other hz (by decide) (by decide) (grown_set6 wr w.heap.size (.int .i64 1) (.int .u8 (a.toNat : Int)) (.slice A3 k c3) (.string ⟨#[]⟩) (.int .u8 (b.toNat : Int)) (.string ⟨#[]⟩))
   have hb6 := below_set6 hbw (Nat.le_refl w.heap.size) (.int .i64 1) (.int .u8 (a.toNat : Int)) (.slice A3 k c3) (.string ⟨#[]⟩) (.int .u8 (b.toNat : Int)) (.string ⟨#[]⟩)
   obtain ⟨d0, d1, d2, d3, d4, d5⟩ := Blk.cells6 hz
   have z0 := hz.frozen 0
   have z1 := hz.frozen 1
   have z2 := hz.frozen 2
   have z3 := hz.frozen 3
   have z4 := hz.frozen 4
   have z5 := hz.frozen 5
   have HNL := Lib.hid (show (l.map fun n => [n]).length = k by rw [List.length_map]; exact HN.out)
   clear hrow hz ho hrs hs
   go_wp2_with fail
   refine bodyPost_ret (v := .agg #[.int .i64 1, .int .u8 (a.toNat : Int), .slice A3 k c3, .string ⟨#[]⟩, .int .u8 (b.toNat : Int), .string ⟨#[]⟩]) (by simp [results, Tryz.results114, go_sem, d0, d1, d2, d3, d4, d5]) rfl ⟨⟨A3, c3, g, ?_, hrow2⟩, hb6⟩
   unfold sqV numS
   dsimp only
   rw [HNL.out]
theorem num_any (a b : UInt8) (A : Option Addr) (n c : Nat) (l : List Int) (w : World) (hn : l.length = n) (hl : n ≤ 4294967296) (hr : Rd w A (is_ l)) :
 Calls Tryz.prog 114 #[.int .u8 (a.toNat : Int), .int .u8 (b.toNat : Int), .slice A n c] w (NumP a b l w) :=
 (num_anyN a b A n c l w hn hl hr).mono fun _ _ ⟨⟨B, d, _, h1, h2⟩, hb⟩ => ⟨⟨B, d, h1, h2.rdp⟩, hb⟩
def NumQ (f : Int) (l : List Int) (n : Nat) (w : World) (e : Ending) (w' : World) : Prop := ∃ A c, e = .returned (.agg #[.int .i64 1, .int .u8 0, .slice A n c, .string ⟨#[]⟩, .int .u8 f, .string ⟨#[]⟩]) ∧ RdP w' A (l.map fun n => [n]) ∧ Below w.heap.size w w'
theorem lnum_any (f : Int) (h0 : 0 ≤ f) (h1 : f < 256) (l : List Int) (n : Nat) (hn : l.length = n) (hl : n ≤ 4294967296) (A : Option Addr) (c : Nat) (w : World) (hr : Rd w A (is_ l)) : Calls Tryz.prog 114 #[.int .u8 0, .int .u8 f, .slice A n c] w (NumQ f l n w) := by
 have h := num_any 0 (byt f) A n c l w hn hl hr
 rw [byt_nat f h0 h1] at h
 refine h.mono ?_
 rintro e w' ⟨⟨B, d, rfl, hr'⟩, hb⟩
 exact ⟨B, d, by rw [show numS 0 (byt f) l = sqN 1 f l from rfl, sqn_v hn h0 h1], hr', hb⟩
def NumQN (f : Int) (l : List Int) (n : Nat) (w : World) (e : Ending) (w' : World) : Prop := ∃ A c g, e = .returned (.agg #[.int .i64 1, .int .u8 0, .slice A n c, .string ⟨#[]⟩, .int .u8 f, .string ⟨#[]⟩]) ∧ RdPN g w' A (l.map fun n => [n]) ∧ Below w.heap.size w w'
theorem lnum_anyN (f : Int) (h0 : 0 ≤ f) (h1 : f < 256) (l : List Int) (n : Nat) (hn : l.length = n) (hl : n ≤ 4294967296) (A : Option Addr) (c : Nat) (w : World) (hr : Rd w A (is_ l)) : Calls Tryz.prog 114 #[.int .u8 0, .int .u8 f, .slice A n c] w (NumQN f l n w) := by
 have h := num_anyN 0 (byt f) A n c l w hn hl hr
 rw [byt_nat f h0 h1] at h
 refine h.mono ?_
 rintro e w' ⟨⟨B, d, g, rfl, hr'⟩, hb⟩
 exact ⟨B, d, g, by rw [show numS 0 (byt f) l = sqN 1 f l from rfl, sqn_v hn h0 h1], hr', hb⟩
end Go.Proofs.YtceipblcdcgljaaGreatDoor
