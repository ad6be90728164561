/-
  Layer 13's mathematics: a key's event by progressive flags. Layer 2, walked: the size of a code point, and of what begins with a byte. Layer 2, walked: a code point's bytes, laid behind others. Layer 10, the landed mods: the map of what folds, and Fold.
-/
import Derived.Test.YtceipblcdcgljaaGreatDoorG01
import Derived.Test.YtceipblcdcgljaaGreatDoorG02
import Derived.Test.YtceipblcdcgljaaGreatDoorG07
import Derived.Laws.Rows
import Derived.Deep.RegionLaw
import Derived.BigRegion
namespace Go.Proofs.YtceipblcdcgljaaGreatDoor
def flagK (f one : Int) : Bool := flg f / one % 2 == 1
def frmK (c : Int) : Int × Int :=
 if (lookE c).kind = 0 then (0, 0) else if c = 57366 then (13, 126) else if (lookE c).kind = 3 ∧ (lookE c).keys = false then (1, (lookE c).fin) else if (lookE c).kind = 4 ∧ (lookE c).keys = false then ((lookE c).num, 126) else (c, 117)
def keyedK (c : Int) : Bool := c == 9 || c == 13 || c == 127
def astextK (k : Ky) : Bool := if (lookE k.code).kind = 1 then decide (k.mods - k.mods / 64 * 64 ≤ 1) else keyedK k.code && (k.mods - k.mods / 64 * 64 == 0)
def sentK (f : Int) (k : Ky) : Bool :=
 if mayK k = false then false else if k.typ = 3 ∧ (flagK f 2 = false ∨ flagK f 8 = false ∧ ((lookE k.code).kind = 1 ∨ keyedK k.code = true)) then false else decide ((lookE k.code).kind ≠ 7) || flagK f 8
def altK (shift base code : Int) (s1 : Bool) : List Int :=
 (if shift ≠ 0 ∧ s1 = true then [shift] else []) ++ ((if (base ≠ 0 ∧ base ≠ code) ∧ ¬ (shift ≠ 0 ∧ s1 = true) then [-1] else []) ++ (if base ≠ 0 ∧ base ≠ code then [base] else []))
def firstK (f : Int) (k : Ky) : List Int := (frmK k.code).1 :: (if flagK f 4 = true ∧ (frmK k.code).2 = 117 then altK k.shift k.base k.code (hasN k.mods 1) else [])
def secondK (f : Int) (k : Ky) : List Int := if flagK f 2 = true ∧ k.typ ≠ 1 then [1 + k.mods, k.typ] else if k.mods ≠ 0 then [1 + k.mods] else [-1]
def toldK (f : Int) (k : Ky) : Prop := flagK f 16 = true ∧ k.typ ≠ 3 ∧ k.text.data.toList ≠ []
instance (f : Int) (k : Ky) : Decidable (toldK f k) := by unfold toldK; infer_instance
def ptsK (k : Ky) : List Int := (allL k.text.data.toList).getD []
def paramsK (f : Int) (k : Ky) : List (List Int) :=
 if toldK f k then [firstK f k, secondK f k, ptsK k] else if secondK f k ≠ [-1] then [firstK f k, secondK f k] else if firstK f k ≠ [1] then [firstK f k] else []
def sqK (f : Int) (k : Ky) : Sq := ⟨1, 0, paramsK f k, [], byt (frmK k.code).2, []⟩
def putK (f : Int) (k : Ky) : List UInt8 := if mayS (sqK f k) = 0 then putS (sqK f k) else []
def plainK (k : Ky) : List UInt8 := if keyedK k.code = true then [byt k.code] else if k.text.data.toList ≠ [] then k.text.data.toList else putL (shownK k)
def kitL (f : Int) (k : Ky) : List UInt8 := if sentK f k = false then [] else if flagK f 8 = false ∧ k.typ ≠ 3 ∧ astextK k = true then plainK k else putK f k
theorem code_rng {c : Int} (h : (lookE c).kind ≠ 0) : 0 ≤ c ∧ c ≤ 1114111 := by
 by_cases ho : c < 57344 ∨ 57455 ≤ c
 ·rw [look_out ho] at h
  simp only at h
  unfold restN at h
  split at h
  ·omega
  ·split at h
   ·omega
   ·split at h
    ·omega
    ·split at h
     ·exact absurd rfl h
     ·rename_i h4
      have h5 : isPtK c = true := by
       cases e : isPtK c with
       | true => rfl
       | false => exact absurd (.inl e) h4
      have := of_decide_eq_true h5
      omega
 ·omega
theorem frm_main : ∀ k : Fin 111, (lookE (57344 + (k.1 : Int))).kind ≠ 0 → (frmK (57344 + (k.1 : Int)) = (57344 + (k.1 : Int), 117)) ∨ ((frmK (57344 + (k.1 : Int))).2 ≠ 117 ∧ 1 ≤ (frmK (57344 + (k.1 : Int))).1 ∧ (frmK (57344 + (k.1 : Int))).1 ≤ 100 ∧ 65 ≤ (frmK (57344 + (k.1 : Int))).2 ∧ (frmK (57344 + (k.1 : Int))).2 ≤ 126) := by decide +kernel
theorem frm_cases {c : Int} (h : (lookE c).kind ≠ 0) : frmK c = (c, 117) ∨ ((57344 ≤ c ∧ c < 57455) ∧ (frmK c).2 ≠ 117 ∧ 1 ≤ (frmK c).1 ∧ (frmK c).1 ≤ 100 ∧ 65 ≤ (frmK c).2 ∧ (frmK c).2 ≤ 126) := by
 by_cases ho : c < 57344 ∨ 57455 ≤ c
 ·left
  have hl := look_out ho
  have hr := rest_rng c
  unfold frmK
  rw [if_neg h, if_neg (by omega)]
  rw [hl]
  rw [if_neg (fun e => by have := e.1; simp only at this; omega), if_neg (fun e => by have := e.1; simp only at this; omega)]
 ·obtain ⟨k, rfl⟩ : ∃ k : Fin 111, c = 57344 + k.1 := ⟨⟨(c - 57344).toNat, by omega⟩, by simp; omega⟩
  rcases frm_main k h with h1 | h1
  ·exact .inl h1
  ·exact .inr ⟨by omega, h1⟩
theorem frm_rng {c : Int} (h : (lookE c).kind ≠ 0) : (0 ≤ (frmK c).1 ∧ (frmK c).1 ≤ 1114111) ∧ 65 ≤ (frmK c).2 ∧ (frmK c).2 ≤ 126 := by
 rcases frm_cases h with h1 | ⟨b1, h1⟩
 ·rw [h1]
  exact ⟨code_rng h, by show (65 : Int) ≤ 117; decide, by show (117 : Int) ≤ 126; decide⟩
 ·exact ⟨⟨by omega, by omega⟩, h1.2.2.2.1, h1.2.2.2.2⟩
theorem clean_pts {s : ByteArray} (h : cleanB s = true) : ∃ ks, allL s.data.toList = some ks ∧ ks.length ≤ 8 ∧ (∀ n ∈ ks, 0 ≤ n ∧ n ≤ 1114111) ∧ catL ks = s.data.toList := by
 unfold cleanB cleanL at h
 cases ho : allL s.data.toList with
 | none => rw [ho] at h; cases h
 | some ks =>
   rw [ho] at h
   have h2 : (decide (ks.length ≤ 8) && cleanP ks) = true := h
   simp only [Bool.and_eq_true, decide_eq_true_eq] at h2
   obtain ⟨g1, g2⟩ := text_all_n _ _ (Nat.le_refl _) ks ho
   refine ⟨ks, rfl, h2.1, fun n hn => ?_, g2⟩
   have := (isPt_iff n).1 (List.all_eq_true.1 g1 n hn)
   omega
theorem pts_is {k : Ky} {ks : List Int} (h : allL k.text.data.toList = some ks) : ptsK k = ks := by
 unfold ptsK
 rw [h]
 rfl
theorem alt_rng {s b c : Int} {t : Bool} (hs : 0 ≤ s ∧ s ≤ 1114111) (hb : 0 ≤ b ∧ b ≤ 1114111) : (altK s b c t).length ≤ 2 ∧ ∀ n ∈ altK s b c t, -1 ≤ n ∧ n ≤ 1114111 := by
 unfold altK
 by_cases p : s ≠ 0 ∧ t = true <;> by_cases q : b ≠ 0 ∧ b ≠ c <;> simp [p, q] <;> omega
theorem pt_rng {c : Int} (h : c = 0 ∨ textK c = true) : 0 ≤ c ∧ c ≤ 1114111 := by
 rcases h with h | h
 ·omega
 ·have := (isPt_iff c).1 (text_pt (eq_of_beq h))
  omega
theorem first_ok (f : Int) {k : Ky} (h : mayK k = true) : (firstK f k).length ≤ 8 ∧ ∀ n ∈ firstK f k, -1 ≤ n ∧ n ≤ 1114111 := by
 obtain ⟨⟨h1, _, _, _, _⟩, h2, h3, _⟩ := (may_parts k).1 h
 have hr := frm_rng h1
 obtain ⟨a1, a2⟩ := alt_rng (c := k.code) (t := hasN k.mods 1) (pt_rng h2) (pt_rng h3)
 unfold firstK
 split
 ·refine ⟨by simp; omega, fun n hn => ?_⟩
  rcases List.mem_cons.1 hn with rfl | hn
  ·omega
  ·exact a2 n hn
 ·exact ⟨by simp, fun n hn => by simp at hn; omega⟩
theorem second_ok (f : Int) {k : Ky} (h : mayK k = true) : (1 ≤ (secondK f k).length ∧ (secondK f k).length ≤ 8) ∧ ∀ n ∈ secondK f k, -1 ≤ n ∧ n ≤ 1114111 := by
 obtain ⟨⟨_, m0, m1, t1, t3⟩, _⟩ := (may_parts k).1 h
 unfold secondK
 split
 ·exact ⟨by simp, fun n hn => by simp at hn; omega⟩
 ·split
  ·exact ⟨by simp, fun n hn => by simp at hn; omega⟩
  ·exact ⟨by simp, fun n hn => by simp at hn; omega⟩
theorem par_ok {l : List (List Int)} (hl : l.length ≤ 16) (hn : l ≠ [[-1]]) (h : ∀ p ∈ l, 1 ≤ p.length ∧ p.length ≤ 8 ∧ ∀ n ∈ p, -1 ≤ n ∧ n ≤ 1114111) : parOk l = true := by
 unfold parOk
 simp only [Bool.and_eq_true, decide_eq_true_eq, List.all_eq_true]
 refine ⟨⟨hl, hn⟩, fun p hp => ?_⟩
 obtain ⟨a, b, c⟩ := h p hp
 exact ⟨⟨a, b⟩, c⟩
theorem may_kit (f : Int) {k : Ky} (h : mayK k = true) : mayS (sqK f k) = 0 := by
 obtain ⟨⟨h1, _, _, _, _⟩, _, _, hc⟩ := (may_parts k).1 h
 have hr := frm_rng h1
 obtain ⟨ks, k1, k2, k3, k4⟩ := clean_pts hc
 obtain ⟨a1, a2⟩ := first_ok f h
 obtain ⟨b1, b2⟩ := second_ok f h
 have a0 : 1 ≤ (firstK f k).length := by unfold firstK; simp
 have hp : parOk (paramsK f k) = true := by
  unfold paramsK
  split
  next ht =>
   have hp0 : 1 ≤ (ptsK k).length := by
    rw [pts_is k1]
    cases ks with
    | nil => exact absurd k4.symm ht.2.2
    | cons x l => simp
   refine par_ok (by simp) (by simp) fun p hp => ?_
   simp only [List.mem_cons, List.not_mem_nil, or_false] at hp
   rcases hp with rfl | rfl | rfl
   ·exact ⟨a0, a1, a2⟩
   ·exact ⟨b1.1, b1.2, b2⟩
   ·refine ⟨hp0, by rw [pts_is k1]; exact k2, fun n hn => ?_⟩
    rw [pts_is k1] at hn
    have := k3 n hn
    omega
  next =>
   split
   next =>
    refine par_ok (by simp) (by simp) fun p hp => ?_
    simp only [List.mem_cons, List.not_mem_nil, or_false] at hp
    rcases hp with rfl | rfl
    ·exact ⟨a0, a1, a2⟩
    ·exact ⟨b1.1, b1.2, b2⟩
   next =>
    split
    next =>
     refine par_ok (by simp) (fun e => ?_) fun p hp => ?_
     ·have e1 : firstK f k = [-1] := by simpa using e
      have e2 : (frmK k.code).1 = -1 := by
       unfold firstK at e1
       exact (List.cons.inj e1).1
      omega
     ·rw [List.mem_singleton.1 hp]
      exact ⟨a0, a1, a2⟩
    next => rfl
 have hb := byt_btw (f := (frmK k.code).2) (a := 64) (b := 126) (by omega) (by omega) (by decide)
 have ho : okS (sqK f k) = true := by
  unfold okS sqK
  simp [privOk, lastOk, bareOk, hp, hb]
 unfold mayS
 rw [if_neg (by simp [sqK]), if_pos ho]
theorem putK_is (f : Int) {k : Ky} (h : mayK k = true) : putK f k = putS (sqK f k) := if_pos (may_kit f h)
end Go.Proofs.YtceipblcdcgljaaGreatDoor
namespace Go.Proofs.YtceipblcdcgljaaGreatDoor
open Go.RowKit
theorem siz_cell {w : World} {t : TypeId} {fz : Nat × Nat} (h : w.heap[1]? = some (.cells sizC t fz)) (i : Nat) : w.cell? ⟨1, i, none⟩ = sizC[i]? := cell_of_row w _ i sizC t fz h
theorem szA_form (j : Nat) : ∃ a b c : Int, szA j = #[.int .i64 a, .int .i64 b, .int .i64 c] := by
 unfold szA
 split <;> exact ⟨_, _, _, rfl⟩
set_option maxRecDepth 100000 in
set_option maxHeartbeats 4000000 in
theorem sizeOf_any (r : Int) (w : World) (hs : Siz w) : Calls Tryz.prog 126 #[.int .i64 r] w fun e w' => e = .returned (.agg (szA (ixP r 4))) ∧ Below w.heap.size w w' := by
 obtain ⟨t, fz, hh⟩ := hs
 have hlt := (Array.getElem?_eq_some_iff.1 hh).1
 have hlt0 : 0 < w.heap.size := Nat.zero_lt_of_lt hlt
 have c0 : w.cell? ⟨1, 0, none⟩ = some (.int .i64 1) := siz_cell hh 0
 have c1 : w.cell? ⟨1, 1, none⟩ = some (.int .i64 0) := siz_cell hh 1
 have c2 : w.cell? ⟨1, 2, none⟩ = some (.int .i64 0) := siz_cell hh 2
 have c3 : w.cell? ⟨1, 3, none⟩ = some (.int .i64 2) := siz_cell hh 3
 have c4 : w.cell? ⟨1, 4, none⟩ = some (.int .i64 128) := siz_cell hh 4
 have c5 : w.cell? ⟨1, 5, none⟩ = some (.int .i64 192) := siz_cell hh 5
 have c6 : w.cell? ⟨1, 6, none⟩ = some (.int .i64 3) := siz_cell hh 6
 have c7 : w.cell? ⟨1, 7, none⟩ = some (.int .i64 2048) := siz_cell hh 7
 have c8 : w.cell? ⟨1, 8, none⟩ = some (.int .i64 224) := siz_cell hh 8
 have c9 : w.cell? ⟨1, 9, none⟩ = some (.int .i64 4) := siz_cell hh 9
 have c10 : w.cell? ⟨1, 10, none⟩ = some (.int .i64 65536) := siz_cell hh 10
 have c11 : w.cell? ⟨1, 11, none⟩ = some (.int .i64 240) := siz_cell hh 11
 go_enter Tryz.func126, Tryz.ntmps126
 go_wp2
 have b0 := Blk.new w 137 #[.int .i64 0, .int .i64 0, .int .i64 0]
 have b1 := Blk.new (w.alloc (.cells #[.int .i64 0, .int .i64 0, .int .i64 0] 137)) 137 #[.int .i64 1, .int .i64 0, .int .i64 0]
 rw [World.size_alloc] at b1
 have hb0 : Below w.heap.size w ((w.alloc (.cells #[.int .i64 0, .int .i64 0, .int .i64 0] 137)).alloc (.cells #[.int .i64 1, .int .i64 0, .int .i64 0] 137)) := ((Below.refl _ w).alloc (Nat.le_refl _) _).alloc (by simp) _
 go_loopw [9] (fun i wr => ∃ k : Nat, k ≤ 4 ∧ i = .int .i64 k ∧ Blk wr w.heap.size 137 #[.int .i64 0, .int .i64 0, .int .i64 0] ∧ Blk wr (w.heap.size + 1) 137 (szA (ixP r k)) ∧ Below w.heap.size w wr) (fun i _ => 4 - (intOf i).toNat)
 case atStart => exact ⟨0, by omega, rfl, b0.alloc _, b1, hb0⟩
 case round =>
  obtain ⟨k, hk, rfl, p0, p1, hbw⟩ := hrel
  clear b0 b1 hb0 c0 c1 c2 c3 c4 c5 c6 c7 c8 c9 c10 c11
  have hz := p1.lt
  have q0 := p1.frozen 0
  have q1 := p1.frozen 1
  have q2 := p1.frozen 2
  obtain rfl | rfl | rfl | rfl | rfl : k = 0 ∨ k = 1 ∨ k = 2 ∨ k = 3 ∨ k = 4 := by omega
  ·have i0 : ∀ w : World, (Instr.index 147 (.agg #[.int .i64 1, .int .i64 0, .int .i64 0, .int .i64 2, .int .i64 128, .int .i64 192, .int .i64 3, .int .i64 2048, .int .i64 224, .int .i64 4, .int .i64 65536, .int .i64 240]) (.int .i64 0)).run Tryz.prog w = .ok (.agg #[.int .i64 1, .int .i64 0, .int .i64 0]) w := fun _ => by kernel_rfl
   by_cases hr : 0 ≤ r
   ·have f0 := Lib.hid (show szA (ixP r (0 + 1)) = szA 0 by rw [show ixP r (0 + 1) = 0 by unfold ixP; (repeat' split) <;> omega])
    obtain ⟨u0, u1, u2, hu⟩ := szA_form (ixP r 0)
    rw [hu] at p1
    have g0 := p1.cell 0
    have g1 := p1.cell 1
    have g2 := p1.cell 2
    go_wp2
    go_roundw
    case rel => exact ⟨0 + 1, by omega, by go_num, (p0.far3 (Nat.ne_of_lt (Nat.lt_succ_self _)) _ _ _).alloc _, by rw [f0.out]; exact (p1.set3 _ _ _).alloc _, (below_set3 hbw (Nat.le_succ _) _ _ _).alloc (by rw [set3_size]; exact hbw.size) _⟩
    case measure => simp [intOf]
   ·have f0 := Lib.hid (show szA (ixP r (0 + 1)) = szA (ixP r 0) by rw [show ixP r (0 + 1) = ixP r 0 by unfold ixP; (repeat' split) <;> omega])
    go_wp2
    go_roundw
    case rel => exact ⟨0 + 1, by omega, by go_num, p0.alloc _, by rw [f0.out]; exact p1.alloc _, hbw.alloc hbw.size _⟩
    case measure => simp [intOf]
  ·have i0 : ∀ w : World, (Instr.index 147 (.agg #[.int .i64 1, .int .i64 0, .int .i64 0, .int .i64 2, .int .i64 128, .int .i64 192, .int .i64 3, .int .i64 2048, .int .i64 224, .int .i64 4, .int .i64 65536, .int .i64 240]) (.int .i64 1)).run Tryz.prog w = .ok (.agg #[.int .i64 2, .int .i64 128, .int .i64 192]) w := fun _ => by kernel_rfl
   by_cases hr : 128 ≤ r
   ·have f0 := Lib.hid (show szA (ixP r (1 + 1)) = szA 1 by rw [show ixP r (1 + 1) = 1 by unfold ixP; (repeat' split) <;> omega])
    obtain ⟨u0, u1, u2, hu⟩ := szA_form (ixP r 1)
    rw [hu] at p1
    have g0 := p1.cell 0
    have g1 := p1.cell 1
    have g2 := p1.cell 2
    go_wp2
    go_roundw
    case rel => exact ⟨1 + 1, by omega, by go_num, (p0.far3 (Nat.ne_of_lt (Nat.lt_succ_self _)) _ _ _).alloc _, by rw [f0.out]; exact (p1.set3 _ _ _).alloc _, (below_set3 hbw (Nat.le_succ _) _ _ _).alloc (by rw [set3_size]; exact hbw.size) _⟩
    case measure => simp [intOf]
   ·have f0 := Lib.hid (show szA (ixP r (1 + 1)) = szA (ixP r 1) by rw [show ixP r (1 + 1) = ixP r 1 by unfold ixP; (repeat' split) <;> omega])
    go_wp2
    go_roundw
    case rel => exact ⟨1 + 1, by omega, by go_num, p0.alloc _, by rw [f0.out]; exact p1.alloc _, hbw.alloc hbw.size _⟩
    case measure => simp [intOf]
  ·have i0 : ∀ w : World, (Instr.index 147 (.agg #[.int .i64 1, .int .i64 0, .int .i64 0, .int .i64 2, .int .i64 128, .int .i64 192, .int .i64 3, .int .i64 2048, .int .i64 224, .int .i64 4, .int .i64 65536, .int .i64 240]) (.int .i64 2)).run Tryz.prog w = .ok (.agg #[.int .i64 3, .int .i64 2048, .int .i64 224]) w := fun _ => by kernel_rfl
   by_cases hr : 2048 ≤ r
   ·have f0 := Lib.hid (show szA (ixP r (2 + 1)) = szA 2 by rw [show ixP r (2 + 1) = 2 by unfold ixP; (repeat' split) <;> omega])
    obtain ⟨u0, u1, u2, hu⟩ := szA_form (ixP r 2)
    rw [hu] at p1
    have g0 := p1.cell 0
    have g1 := p1.cell 1
    have g2 := p1.cell 2
    go_wp2
    go_roundw
    case rel => exact ⟨2 + 1, by omega, by go_num, (p0.far3 (Nat.ne_of_lt (Nat.lt_succ_self _)) _ _ _).alloc _, by rw [f0.out]; exact (p1.set3 _ _ _).alloc _, (below_set3 hbw (Nat.le_succ _) _ _ _).alloc (by rw [set3_size]; exact hbw.size) _⟩
    case measure => simp [intOf]
   ·have f0 := Lib.hid (show szA (ixP r (2 + 1)) = szA (ixP r 2) by rw [show ixP r (2 + 1) = ixP r 2 by unfold ixP; (repeat' split) <;> omega])
    go_wp2
    go_roundw
    case rel => exact ⟨2 + 1, by omega, by go_num, p0.alloc _, by rw [f0.out]; exact p1.alloc _, hbw.alloc hbw.size _⟩
    case measure => simp [intOf]
  ·have i0 : ∀ w : World, (Instr.index 147 (.agg #[.int .i64 1, .int .i64 0, .int .i64 0, .int .i64 2, .int .i64 128, .int .i64 192, .int .i64 3, .int .i64 2048, .int .i64 224, .int .i64 4, .int .i64 65536, .int .i64 240]) (.int .i64 3)).run Tryz.prog w = .ok (.agg #[.int .i64 4, .int .i64 65536, .int .i64 240]) w := fun _ => by kernel_rfl
   by_cases hr : 65536 ≤ r
   ·have f0 := Lib.hid (show szA (ixP r (3 + 1)) = szA 3 by rw [show ixP r (3 + 1) = 3 by unfold ixP; (repeat' split) <;> omega])
    obtain ⟨u0, u1, u2, hu⟩ := szA_form (ixP r 3)
    rw [hu] at p1
    have g0 := p1.cell 0
    have g1 := p1.cell 1
    have g2 := p1.cell 2
    go_wp2
    go_roundw
    case rel => exact ⟨3 + 1, by omega, by go_num, (p0.far3 (Nat.ne_of_lt (Nat.lt_succ_self _)) _ _ _).alloc _, by rw [f0.out]; exact (p1.set3 _ _ _).alloc _, (below_set3 hbw (Nat.le_succ _) _ _ _).alloc (by rw [set3_size]; exact hbw.size) _⟩
    case measure => simp [intOf]
   ·have f0 := Lib.hid (show szA (ixP r (3 + 1)) = szA (ixP r 3) by rw [show ixP r (3 + 1) = ixP r 3 by unfold ixP; (repeat' split) <;> omega])
    go_wp2
    go_roundw
    case rel => exact ⟨3 + 1, by omega, by go_num, p0.alloc _, by rw [f0.out]; exact p1.alloc _, hbw.alloc hbw.size _⟩
    case measure => simp [intOf]
  ·obtain ⟨u0, u1, u2, hu⟩ := szA_form (ixP r 4)
   rw [hu] at p1
   have g0 := p1.cell 0
   have g1 := p1.cell 1
   have g2 := p1.cell 2
   have y0 := p0.cell 0
   have y1 := p0.cell 1
   have y2 := p0.cell 2
   have x0 := p0.frozen 0
   have x1 := p0.frozen 1
   have x2 := p0.frozen 2
   have hlt2 := p0.lt
   go_wp2
   exact bodyPost_ret (v := .agg #[.int .i64 u0, .int .i64 u1, .int .i64 u2]) (by simp [results, Tryz.results126, go_sem, y0, y1, y2]) rfl ⟨by rw [hu], below_set3 hbw (Nat.le_refl _) _ _ _⟩
theorem Tryz.u8info : (Tryz.prog.info? 5).map (fun i => (i.zero, i.size, i.bytes)) = some (some (.int .u8 0), 1, 1) := by kernel_rfl
def wei : Nat → Int
 | 0 => 1
 | k + 1 => wei k * 64
theorem wei_pos (k : Nat) : 1 ≤ wei k := by
 induction k with
 | zero => exact Int.le_refl _
 | succ k ih => unfold wei; omega
theorem wei_le {k : Nat} (h : k ≤ 3) : wei k ≤ 262144 := by
 obtain rfl | rfl | rfl | rfl : k = 0 ∨ k = 1 ∨ k = 2 ∨ k = 3 := by omega
 all_goals simp [wei]
def tailL (r : Int) : Nat → List UInt8
 | 0 => []
 | k + 1 => byt (128 + r / wei k % 64) :: tailL r k
theorem put_split {r : Int} (h : isPt r = true) : ∃ (j : Nat) (least lead : Int), j ≤ 3 ∧ cnt r = j + 1 ∧ szA (ixP r 4) = #[.int .i64 ((j : Int) + 1), .int .i64 least, .int .i64 lead] ∧ 0 ≤ lead ∧ 0 ≤ lead + r / wei j ∧ lead + r / wei j ≤ 255 ∧ 0 ≤ r / wei j ∧ r / wei j ≤ 255 ∧ lead ≤ 240 ∧
 putL r = byt (lead + r / wei j) :: tailL r j := by
 obtain ⟨h0, h1, _⟩ := (isPt_iff r).1 h
 have w0 : wei 0 = 1 := rfl
 have w1 : wei 1 = 64 := rfl
 have w2 : wei 2 = 4096 := rfl
 have w3 : wei 3 = 262144 := rfl
 by_cases a1 : r < 128
 ·refine ⟨0, 0, 0, by omega, by simp [cnt, a1], ?_, by omega, ?_, ?_, ?_, ?_, by omega, ?_⟩
  ·rw [show ixP r 4 = 0 by unfold ixP; (repeat' split) <;> omega]; rfl
  ·rw [w0]; omega
  ·rw [w0]; omega
  ·rw [w0]; omega
  ·rw [w0]; omega
  ·rw [putL_1 h a1, w0, Int.ediv_one, Int.zero_add]; rfl
 ·by_cases a2 : r < 2048
  ·refine ⟨1, 128, 192, by omega, by simp [cnt, a1, a2], ?_, by omega, ?_, ?_, ?_, ?_, by omega, ?_⟩
   ·rw [show ixP r 4 = 1 by unfold ixP; (repeat' split) <;> omega]; rfl
   ·rw [w1]; omega
   ·rw [w1]; omega
   ·rw [w1]; omega
   ·rw [w1]; omega
   ·rw [putL_2 h (by omega) a2, w1]; simp only [tailL, w0, Int.ediv_one]
  ·by_cases a3 : r < 65536
   ·refine ⟨2, 2048, 224, by omega, by simp [cnt, a1, a2, a3], ?_, by omega, ?_, ?_, ?_, ?_, by omega, ?_⟩
    ·rw [show ixP r 4 = 2 by unfold ixP; (repeat' split) <;> omega]; rfl
    ·rw [w2]; omega
    ·rw [w2]; omega
    ·rw [w2]; omega
    ·rw [w2]; omega
    ·rw [putL_3 h (by omega) a3, w2]; simp only [tailL, w0, w1, Int.ediv_one]
   ·refine ⟨3, 65536, 240, by omega, by simp [cnt, a1, a2, a3], ?_, by omega, ?_, ?_, ?_, ?_, by omega, ?_⟩
    ·rw [show ixP r 4 = 3 by unfold ixP; (repeat' split) <;> omega]; rfl
    ·rw [w3]; omega
    ·rw [w3]; omega
    ·rw [w3]; omega
    ·rw [w3]; omega
    ·rw [putL_4 h (by omega), w3]; simp only [tailL, w0, w1, w2, Int.ediv_one]
theorem tail_step (ys : List Value) (r Y : Int) (j : Nat) (h : Y = wei j) : ys ++ bs [byt (128 + r / Y % 64)] ++ bs (tailL r j) = ys ++ bs (tailL r (j + 1)) := by
 subst h
 rw [List.append_assoc]
 rfl
set_option maxRecDepth 100000 in
set_option maxHeartbeats 4000000 in
theorem put_any (r : Int) (h : isPt r = true) (base : Nat) (v : Value) (n : Nat) (xs : List Value) (w : World) (hs : Siz w) (hown : Own w base 5 1 v n xs) (hbase : base ≤ w.heap.size) (hn : n ≤ 4294967296) :
 Calls Tryz.prog 91 #[v, .int .i64 r] w fun e w' => ∃ v', e = .returned v' ∧ Own w' base 5 1 v' (n + cnt r) (xs ++ bs (putL r)) ∧ Below base w w' := by
 obtain ⟨i0, hi, hz0, hz1, hz2⟩ := info_parts Tryz.u8info
 obtain ⟨j, least, lead, hj, hc, hz, l0, l1, l2, l3, l4, l5, hp⟩ := put_split h
 obtain ⟨h0, h1, _⟩ := (isPt_iff r).1 h
 have HF := byt_val (lead + r / wei j) l1 (by omega)
 obtain ⟨f, hf⟩ : ∃ f, byt (lead + r / wei j) = f := ⟨_, rfl⟩
 rw [hf] at hp HF
 rw [hc, hp]
 have HG := Lib.hid HF
 clear hf hp hc HF
 go_enter Tryz.func91, Tryz.ntmps91
 go_wp2_with fail
 refine (sizeOf_any r _ hs).mono ?_
 rw [hz]
 rintro e w1 ⟨rfl, hb1⟩
 go_wp2_with fail
 have hown1 : Own w1 base 5 1 v n xs := hown.behind hb1
 have hB1 : Below base w w1 := hb1.mono hbase
 have hs1 := hb1.size
 have p1 := Blk.new w1 137 #[.int .i64 ((j : Int) + 1), .int .i64 least, .int .i64 lead]
 have g2 := p1.cell 2
 clear hb1 hz
 go_loop [6, 12] (fun a i => ∃ k : Nat, k ≤ j ∧ a = .int .i64 (wei k) ∧ i = .int .i64 k) (fun _ i => j - (intOf i).toNat)
 case atStart => exact ⟨0, Nat.zero_le _, rfl, rfl⟩
 case round =>
  obtain ⟨k, hk, rfl, rfl⟩ := hrel
  by_cases hlt : k < j
  ·have b1 := wei_pos k
   have b2 := wei_le (k := k) (by omega)
   have e1 : wei (k + 1) = wei k * 64 := rfl
   have E1 := Lib.hid e1
   clear e1
   go_wp2
   go_round
   case rel => exact ⟨k + 1, by omega, by rw [E1.out], by go_num⟩
   case measure => simp [intOf]; omega
  ·obtain rfl : k = j := by omega
   have b1 := wei_pos k
   have b2 := wei_le (k := k) (by omega)
   have e1 : r.tdiv (wei k) = r / wei k := Int.tdiv_eq_ediv_of_nonneg h0
   have e2 : IntKind.i64.wrap (r / wei k) = r / wei k := IntWalk.i64_in _ (by omega)
   have e3 : IntKind.i64.wrap (lead + r / wei k) = lead + r / wei k := IntWalk.i64_in _ (by omega)
   have e4 : IntKind.u8.wrap (lead + r / wei k) = lead + r / wei k := by rw [IntKind.wrap_u8]; omega
   have hB2 : Below base w (w1.alloc (.cells #[.int .i64 ((k : Int) + 1), .int .i64 least, .int .i64 lead] 137)) := hB1.alloc (Nat.le_trans hbase hs1) _
   have hownA : ∀ o, Own ((w1.alloc (.cells #[.int .i64 ((k : Int) + 1), .int .i64 least, .int .i64 lead] 137)).alloc o).drew base 5 1 v n xs := fun o => ((hown1.alloc _).alloc o).drew
   have hBA : ∀ o, Below base w ((w1.alloc (.cells #[.int .i64 ((k : Int) + 1), .int .i64 least, .int .i64 lead] 137)).alloc o).drew := fun o => (hB2.alloc (Nat.le_trans hbase hB2.size) o).drew
   have hrA : ∀ x, Rd ((w1.alloc (.cells #[.int .i64 ((k : Int) + 1), .int .i64 least, .int .i64 lead] 137)).alloc (.cells #[x] 5)).drew (some ⟨w1.heap.size + 1, 0, none⟩) [x] := fun x => by
    have := rd_lit (w1.alloc (.cells #[.int .i64 ((k : Int) + 1), .int .i64 least, .int .i64 lead] 137)) x 5
    rw [World.size_alloc] at this
    exact this
   have hw0 : ¬ wei k = 0 := by omega
   have h63 : n + 1 ≤ maxLen := by simp only [maxLen]; omega
   have hlim : (n + 1) * 1 ≤ 140737488355328 := by omega
   have one1 : ∀ x : Int, ∀ u ∈ [Value.int .u8 x], u.oneCell' = true := fun x => ints_one [x]
   go_wp2
   go_region_law (refine step_app _ rfl (.tmp 17) (.tmp 25) 27 rfl base 5 i0 _ 1 1 Tryz.underlying27 hi hz0 hz1 hz2 rfl Nat.one_pos v n xs (by simp [Act.eval]) (hownA _) (some ⟨w1.heap.size + 1, 0, none⟩) 1 1 _ (by simp [Act.eval]) rfl (hrA _) (one1 _) h63 hlim (Nat.le_trans hbase (hBA _).size) ?_; intro v' w' hown' hg')
   all_goals
    have hB3 : Below base w w' := (hBA _).grown hg' (Nat.le_trans hbase (hBA _).size) (fun g hg => (hown1.lt g hg).1)
    rw [HG.out] at hown'
    clear hg' hBA hownA hrA hB2 one1 h63 hlim e1 e2 e3 e4 hw0 p1 g2 hown1 hB1 hs1
    clear l1 l2 l3 l4 HG
    go_wp2
    simp only [Act.put, List.getElem_toArray, List.getElem_cons_succ, List.getElem_cons_zero, List.setIfInBounds_toArray, List.set_cons_zero]
    go_loopw [0, 6] (fun a wt wr => ∃ (j m : Nat) (ys : List Value), j ≤ k ∧ wt = .int .i64 (wei j) ∧ Own wr base 5 1 a m ys ∧ m + j = n + (k + 1) ∧ ys ++ bs (tailL r j) = xs ++ bs (f :: tailL r k) ∧ Below base w wr) (fun _ wt _ => (intOf wt).toNat)
    case atStart => exact ⟨k, n + 1, _, Nat.le_refl _, rfl, hown', by omega, by simp [bs], hB3⟩
    case round =>
     clear hown' hB3
     obtain ⟨j, m, ys, hjk, rfl, hown, hm, hy, hbw⟩ := hrel
     have HY := Lib.hid hy
     have HM := Lib.hid hm
     have hml : m ≤ 4294967300 := by omega
     clear hy hm
     cases j with
     | zero =>
       have e0 : wei 0 = 1 := rfl
       go_wp2
       go_ret
       refine ⟨_, rfl, ?_, hbw⟩
       have h1 := HY.out
       simp only [tailL, bs, List.map_nil, List.append_nil] at h1
       rw [show n + (k + 1) = m from HM.out.symm]
       simp only [bs] at *
       rw [← h1]; exact hown
     | succ j =>
       have b1 := wei_pos j
       have b2 := wei_le (k := j) (by omega)
       obtain ⟨X, hX⟩ : ∃ X, wei (j + 1) = X := ⟨_, rfl⟩
       have hX2 : X = wei j * 64 := hX.symm
       have hXd := Lib.hid (show X / 64 = wei j by omega)
       have x1 : 64 ≤ X := by omega
       have x2 : X ≤ 16777216 := by omega
       have x3 : ¬ X / 64 = 0 := by omega
       have x4 : 1 ≤ X / 64 := by omega
       have x5 : 0 ≤ r / (X / 64) := Int.ediv_nonneg h0 (by omega)
       have x6 : r / (X / 64) ≤ 1114111 := Int.le_trans (Int.ediv_le_self _ h0) h1
       have x7 : 0 ≤ r / (X / 64) % 64 := by omega
       have x8 : r / (X / 64) % 64 < 64 := by omega
       have hXX := Lib.hid hX
       have hbv := Lib.hid (byt_val (128 + r / (X / 64) % 64) (by omega) (by omega))
       rw [hX]
       clear hX hX2 b1 b2
       have h63 : m + 1 ≤ maxLen := by simp only [maxLen]; omega
       have hlim : (m + 1) * 1 ≤ 140737488355328 := by omega
       have one1 : ∀ x : Int, ∀ u ∈ [Value.int .u8 x], u.oneCell' = true := fun x => ints_one [x]
       have hbs := Nat.le_trans hbase hbw.size
       go_wp2_with (at_builtin; refine list_app _ rfl (.tmp 31) (.tmp 38) 27 rfl base 5 i0 _ 1 1 Tryz.underlying27 hi hz0 hz1 hz2 rfl Nat.one_pos _ _ _ rfl (hown.alloc _) (some ⟨wr.heap.size, 0, none⟩) 1 1 _ rfl rfl (rd_lit wr _ _) (one1 _) h63 hlim (by simp; omega) ?_; intro v4 w4 hown4 hg4)
       have hb4 : Below base w w4 := (hbw.alloc hbs _).grown hg4 (by simp; omega) (fun g hg => (hown.lt g hg).1)
       rw [hbv.out] at hown4
       clear hg4
       go_wp2
       go_roundw
       case rel =>
        refine ⟨j, m + 1, _, by omega, by rw [hXd.out], hown4, by have := HM.out; omega, ?_, hb4⟩
        rw [← HY.out]
        exact tail_step _ _ _ _ hXd.out
       case measure => simp [intOf]; omega
end Go.Proofs.YtceipblcdcgljaaGreatDoor
namespace Go.Proofs.YtceipblcdcgljaaGreatDoor
open Go.RowKit Go.Maps
def foldP : List (Int × Int) := [(32, 0), (47, 31), (50, 0), (51, 27), (52, 28), (53, 29), (54, 30), (55, 31), (56, 127), (63, 127), (64, 0), (91, 27), (92, 28), (93, 29), (94, 30), (95, 31), (97, 1), (98, 2), (99, 3), (100, 4), (101, 5), (102, 6), (103, 7), (104, 8), (105, 9), (106, 10), (107, 11), (108, 12), (109, 13), (110, 14), (111, 15), (112, 16), (113, 17), (114, 18), (115, 19), (116, 20), (117, 21), (118, 22), (119, 23), (120, 24), (121, 25), (122, 26)]
def foldsL : List (Lit × DataW Value) := foldP.map fun q => (.int .i32 q.1, .held (.int .i64 q.2))
def foldE : List (Lit × Value) := [(.int .i32 32, .int .i64 0), (.int .i32 50, .int .i64 0), (.int .i32 64, .int .i64 0), (.int .i32 97, .int .i64 1), (.int .i32 98, .int .i64 2), (.int .i32 99, .int .i64 3), (.int .i32 100, .int .i64 4), (.int .i32 101, .int .i64 5), (.int .i32 102, .int .i64 6), (.int .i32 103, .int .i64 7), (.int .i32 104, .int .i64 8), (.int .i32 105, .int .i64 9), (.int .i32 106, .int .i64 10), (.int .i32 107, .int .i64 11), (.int .i32 108, .int .i64 12), (.int .i32 109, .int .i64 13), (.int .i32 110, .int .i64 14), (.int .i32 111, .int .i64 15), (.int .i32 112, .int .i64 16), (.int .i32 113, .int .i64 17), (.int .i32 114, .int .i64 18), (.int .i32 115, .int .i64 19), (.int .i32 116, .int .i64 20), (.int .i32 117, .int .i64 21), (.int .i32 118, .int .i64 22), (.int .i32 119, .int .i64 23), (.int .i32 120, .int .i64 24), (.int .i32 121, .int .i64 25), (.int .i32 122, .int .i64 26), (.int .i32 51, .int .i64 27), (.int .i32 91, .int .i64 27), (.int .i32 52, .int .i64 28), (.int .i32 92, .int .i64 28), (.int .i32 53, .int .i64 29), (.int .i32 93, .int .i64 29), (.int .i32 54, .int .i64 30), (.int .i32 94, .int .i64 30), (.int .i32 55, .int .i64 31), (.int .i32 47, .int .i64 31), (.int .i32 95, .int .i64 31), (.int .i32 56, .int .i64 127), (.int .i32 63, .int .i64 127)]
theorem fold_rise : foldsL.Pairwise (fun p q => p.1.before q.1 = true) := List.pairwise_map.2 ((show foldP.Pairwise (fun a b => a.1 < b.1) by decide +kernel).imp fun h => by simpa [Lit.before] using h)
def lowC (c : Int) : Int := if 65 ≤ c ∧ c ≤ 90 then c + 32 else c
theorem fold_row : ∀ c : Fin 128, ((foldN (c.val : Int)).2 = true → (lowC (c.val : Int), (foldN (c.val : Int)).1) ∈ foldP) ∧ ((foldN (c.val : Int)).2 = false → ∀ q ∈ foldP, q.1 ≠ lowC (c.val : Int)) := by decide +kernel
theorem fold_large_no {c : Int} (h : c < 0 ∨ 128 ≤ c) : foldN c = (0, false) := by
 unfold foldN
 rw [if_neg (by omega), if_neg (by omega), if_neg (by omega), if_neg (by omega), if_neg (by omega), if_neg (by omega)]
theorem fold_at_map {c : Int} (h0 : 0 ≤ c) (h1 : c < 128) : (DataW.map foldsL : DataW Value).atKey (.int .i32 (lowC c)) (.held (.int .i64 0)) = .held (.int .i64 (foldN c).1) ∧ Maps.has (DataW.map foldsL : DataW Value) (.int .i32 (lowC c)) = (foldN c).2 := by
 obtain ⟨n, rfl⟩ := Int.eq_ofNat_of_zero_le h0
 have hr := fold_row ⟨n, by omega⟩
 have hrng := fold_rng (n : Int)
 cases hb : (foldN (n : Int)).2 with
 | true =>
   have hm : ((.int .i32 (lowC (n : Int)), .held (.int .i64 (foldN (n : Int)).1)) : Lit × DataW Value) ∈ foldsL := List.mem_map.2 ⟨_, hr.1 hb, rfl⟩
   exact ⟨WideAt.atKey_mem _ trivial (apart_of_rising fold_rise) hm, has_true_of_atKey fun z => WideAt.atKey_mem z trivial (apart_of_rising fold_rise) hm⟩
 | false =>
   have key : ∀ q ∈ foldsL, q.1 ≠ Lit.int .i32 (lowC (n : Int)) := by
    intro q hq
    obtain ⟨x, hx, rfl⟩ := List.mem_map.1 hq
    intro e
    exact hr.2 hb x hx (by injection e)
   rw [hrng.2 hb]
   exact ⟨WideAt.atKey_none _ key, has_false_of_atKey fun z => WideAt.atKey_none z key⟩
theorem below_but10 {B b : Nat} {a w w' : World} (h : Below B a w) (hg : w.grownBy w' (some b)) (hB : B ≤ w.heap.size) (hb : B ≤ b) : Below B a w' :=
 ⟨hg.os.trans h.os, hg.tape.trans h.tape, hg.output.trans h.output, Nat.le_trans h.size hg.size, fun k hk => (hg.block k (Nat.lt_of_lt_of_le hk hB) (fun e => by injection e with e; omega)).trans (h.block k hk)⟩
inductive InsL (P : Program) (T K : TypeId) (a : Act) (b : Nat) : List Oper → List (Lit × Value) → List Oper → Prop
 | nil {l : List Oper} : InsL P T K a b l [] l
 | cons {o : Oper} {l r : List Oper} {k : Lit} {v : Value} {es : List (Lit × Value)} (h : ∃ m x y key, o.op = .insert T m x y ∧ o.guard = none ∧ o.dst = none ∧ a.eval m = .map (some b) ∧ a.eval x = key ∧ keyOf P K key = some k ∧ a.eval y = v)
    (hs : InsL P T K a b l es r) : InsL P T K a b (o :: l) ((k, v) :: es) r
def putsD : List (Lit × Value) → DataW Value → DataW Value
 | [], D => D
 | (k, v) :: es, D => putsD es (D.put k (.held v))
theorem wpList_insL {P : Program} {ops : Array Oper} {Q : Exit → Act → World → Prop} {T K E : TypeId} (KK : Keyed P K) (hT : P.underlying T = some (.map K E)) {a : Act} {b : Nat} {os r : List Oper} {es : List (Lit × Value)} (h : InsL P T K a b os es r) :
 ∀ {n : Nat} {D : DataW Value} {w : World}, w.ownsMap P K hel b n D → n + es.length < maxLen → (∀ w' m, w'.ownsMap P K hel b m (putsD es D) → w.grownBy w' (some b) → wpList P ops Q r a w') → wpList P ops Q os a w := by
 induction h with
 | nil => exact fun hown _ hK => hK _ _ hown (World.grownBy.refl _ _)
 | @cons o l r k v es ho _ ih =>
   intro n D w hown hn hK
   obtain ⟨m, x, y, key, hop, hg, hd, hm, hx, hkey, hv⟩ := ho
   obtain ⟨w', hrun, h1, h2⟩ := hown.store KK hT (by simp at hn; omega) hkey (show hel v = some (.held v, []) from rfl)
   refine wpList_plain hg fun K hKK => ?_
   unfold Oper.wp
   have e : (execOp a.eval o).run P w = .ok .skip w' := by
    unfold execOp
    rw [hop]
    simp [hm, hx, hv, hrun, Result.andThen]
   rw [e, Oper.upon_skip, hd]
   refine hKK _ _ (ih h1 (by simp at hn; omega) fun w2 m2 o2 g2 => hK w2 m2 o2 (h2.grown.trans g2))
def FoldsE (w : World) (e : Ending) (w' : World) : Prop := ∃ b n, e = .returned (.map (some b)) ∧ w'.ownsMap Tryz.prog 21 hel b n (.map foldsL) ∧ Below w.heap.size w w'
theorem fold_puts : putsD foldE (.map []) = .map foldsL := by kernel_rfl
set_option maxRecDepth 100000 in
set_option maxHeartbeats 8000000 in
theorem folds_any (w : World) : Calls Tryz.prog 149 #[] w (FoldsE w) := by
 go_enter Tryz.func149, Tryz.ntmps149
 go_wp2_with fail
 rename_i K hK
 rw [run_makeMap, Result.andThen_ok, Oper.upon_value]
 refine hK _ _ ?_
 have hown := World.ownsMap_made w Tryz.prog 21 hel
 have hb2 : Below w.heap.size w (w.alloc (.map #[] 0)) := (Below.refl _ w).alloc (Nat.le_refl _) _
 obtain ⟨b, hb⟩ : ∃ b, w.heap.size = b := ⟨_, rfl⟩
 have hsz : b ≤ (w.alloc (.map #[] 0)).heap.size := by simp; omega
 rw [hb] at hown hb2 ⊢
 obtain ⟨w2, hw2⟩ : ∃ w2, w.alloc (.map #[] 0) = w2 := ⟨_, rfl⟩
 rw [hw2] at hown hb2 hsz ⊢
 clear hw2 hK
 refine wpList_insL (T := 161) (K := 21) (E := 3) (int_keyed Tryz.underlying21) Tryz.underlying161 (b := b) (es := foldE) ((.cons ⟨_, _, _, _, rfl, rfl, rfl, by kernel_rfl, rfl, by kernel_rfl, by kernel_rfl⟩ (.cons ⟨_, _, _, _, rfl, rfl, rfl, by kernel_rfl, rfl, by kernel_rfl, by kernel_rfl⟩ (.cons ⟨_, _, _, _, rfl, rfl, rfl, by kernel_rfl, rfl, by kernel_rfl, by kernel_rfl⟩ (.cons ⟨_, _, _, _, rfl, rfl, rfl, by kernel_rfl, rfl, by kernel_rfl, by kernel_rfl⟩ (.cons ⟨_, _, _, _, rfl, rfl, rfl, by kernel_rfl, rfl, by kernel_rfl, by kernel_rfl⟩ (.cons ⟨_, _, _, _, rfl, rfl, rfl, by kernel_rfl, rfl, by kernel_rfl, by kernel_rfl⟩ (.cons ⟨_, _, _, _, rfl, rfl, rfl, by kernel_rfl, rfl, by kernel_rfl, by kernel_rfl⟩ (.cons ⟨_, _, _, _, rfl, rfl, rfl, by kernel_rfl, rfl, by kernel_rfl, by kernel_rfl⟩ (.cons ⟨_, _, _, _, rfl, rfl, rfl, by kernel_rfl, rfl, by kernel_rfl, by kernel_rfl⟩ (.cons ⟨_, _, _, _, rfl, rfl, rfl, by kernel_rfl, rfl, by kernel_rfl, by kernel_rfl⟩ (.cons ⟨_, _, _, _, rfl, rfl, rfl, by kernel_rfl, rfl, by kernel_rfl, by kernel_rfl⟩ (.cons ⟨_, _, _, _, rfl, rfl, rfl, by kernel_rfl, rfl, by kernel_rfl, by kernel_rfl⟩ (.cons ⟨_, _, _, _, rfl, rfl, rfl, by kernel_rfl, rfl, by kernel_rfl, by kernel_rfl⟩ (.cons ⟨_, _, _, _, rfl, rfl, rfl, by kernel_rfl, rfl, by kernel_rfl, by kernel_rfl⟩ (.cons ⟨_, _, _, _, rfl, rfl, rfl, by kernel_rfl, rfl, by kernel_rfl, by kernel_rfl⟩ (.cons ⟨_, _, _, _, rfl, rfl, rfl, by kernel_rfl, rfl, by kernel_rfl, by kernel_rfl⟩ (.cons ⟨_, _, _, _, rfl, rfl, rfl, by kernel_rfl, rfl, by kernel_rfl, by kernel_rfl⟩ (.cons ⟨_, _, _, _, rfl, rfl, rfl, by kernel_rfl, rfl, by kernel_rfl, by kernel_rfl⟩ (.cons ⟨_, _, _, _, rfl, rfl, rfl, by kernel_rfl, rfl, by kernel_rfl, by kernel_rfl⟩ (.cons ⟨_, _, _, _, rfl, rfl, rfl, by kernel_rfl, rfl, by kernel_rfl, by kernel_rfl⟩ (.cons ⟨_, _, _, _, rfl, rfl, rfl, by kernel_rfl, rfl, by kernel_rfl, by kernel_rfl⟩ (.cons ⟨_, _, _, _, rfl, rfl, rfl, by kernel_rfl, rfl, by kernel_rfl, by kernel_rfl⟩ (.cons ⟨_, _, _, _, rfl, rfl, rfl, by kernel_rfl, rfl, by kernel_rfl, by kernel_rfl⟩ (.cons ⟨_, _, _, _, rfl, rfl, rfl, by kernel_rfl, rfl, by kernel_rfl, by kernel_rfl⟩ (.cons ⟨_, _, _, _, rfl, rfl, rfl, by kernel_rfl, rfl, by kernel_rfl, by kernel_rfl⟩ (.cons ⟨_, _, _, _, rfl, rfl, rfl, by kernel_rfl, rfl, by kernel_rfl, by kernel_rfl⟩ (.cons ⟨_, _, _, _, rfl, rfl, rfl, by kernel_rfl, rfl, by kernel_rfl, by kernel_rfl⟩ (.cons ⟨_, _, _, _, rfl, rfl, rfl, by kernel_rfl, rfl, by kernel_rfl, by kernel_rfl⟩ (.cons ⟨_, _, _, _, rfl, rfl, rfl, by kernel_rfl, rfl, by kernel_rfl, by kernel_rfl⟩ (.cons ⟨_, _, _, _, rfl, rfl, rfl, by kernel_rfl, rfl, by kernel_rfl, by kernel_rfl⟩ (.cons ⟨_, _, _, _, rfl, rfl, rfl, by kernel_rfl, rfl, by kernel_rfl, by kernel_rfl⟩ (.cons ⟨_, _, _, _, rfl, rfl, rfl, by kernel_rfl, rfl, by kernel_rfl, by kernel_rfl⟩ (.cons ⟨_, _, _, _, rfl, rfl, rfl, by kernel_rfl, rfl, by kernel_rfl, by kernel_rfl⟩ (.cons ⟨_, _, _, _, rfl, rfl, rfl, by kernel_rfl, rfl, by kernel_rfl, by kernel_rfl⟩ (.cons ⟨_, _, _, _, rfl, rfl, rfl, by kernel_rfl, rfl, by kernel_rfl, by kernel_rfl⟩ (.cons ⟨_, _, _, _, rfl, rfl, rfl, by kernel_rfl, rfl, by kernel_rfl, by kernel_rfl⟩ (.cons ⟨_, _, _, _, rfl, rfl, rfl, by kernel_rfl, rfl, by kernel_rfl, by kernel_rfl⟩ (.cons ⟨_, _, _, _, rfl, rfl, rfl, by kernel_rfl, rfl, by kernel_rfl, by kernel_rfl⟩ (.cons ⟨_, _, _, _, rfl, rfl, rfl, by kernel_rfl, rfl, by kernel_rfl, by kernel_rfl⟩ (.cons ⟨_, _, _, _, rfl, rfl, rfl, by kernel_rfl, rfl, by kernel_rfl, by kernel_rfl⟩ (.cons ⟨_, _, _, _, rfl, rfl, rfl, by kernel_rfl, rfl, by kernel_rfl, by kernel_rfl⟩ (.cons ⟨_, _, _, _, rfl, rfl, rfl, by kernel_rfl, rfl, by kernel_rfl, by kernel_rfl⟩ .nil))))))))))))))))))))))))))))))))))))))))))) hown (by show 0 + 42 < maxLen; decide) (fun w3 m hown3 hg3 => ?_)
 rw [fold_puts] at hown3
 have hB3 := below_but10 hb2 hg3 hsz (Nat.le_refl _)
 go_wp2_with fail
 go_ret
 rw [← hb] at hB3
 exact ⟨b, _, rfl, hown3, hB3⟩
theorem zero_int (w : World) : (zeroValue 3).run Tryz.prog w = .ok (.int .i64 0) w := by kernel_rfl
theorem key_i32 {n : Int} (h0 : 0 ≤ n) (h1 : n < 128) : keyOf Tryz.prog 21 (.int .i32 n) = some (.int .i32 n) := keyOf_int_mk Tryz.underlying21 (WalkArith.wf_i32 (by omega))
theorem fold_look {w : World} {b k : Nat} {n v : Int} {q : Bool} (h : w.ownsMap Tryz.prog 21 hel b k (.map foldsL)) (hn0 : 0 ≤ n) (hn1 : n < 128) (ha : (DataW.map foldsL : DataW Value).atKey (.int .i32 n) (.held (.int .i64 0)) = .held (.int .i64 v)) (hq : Maps.has (DataW.map foldsL : DataW Value) (.int .i32 n) = q) :
 (Instr.lookup 161 (.map (some b)) (.int .i32 n) true).run Tryz.prog w = .ok (.tuple #[.int .i64 v, .bool q]) w := by
 obtain ⟨v1, p1, h1, e1⟩ := h.look_ok (int_keyed Tryz.underlying21) Tryz.underlying161 (zero_int w) (show hel (.int .i64 0) = some (.held (.int .i64 0), []) from rfl) (key_i32 hn0 hn1)
 rw [ha] at e1
 have e1' : v1 = .int .i64 v := by simpa [hel] using congrArg (Option.map Prod.fst) e1
 rw [e1', hq] at h1
 exact h1
set_option maxRecDepth 100000 in
set_option maxHeartbeats 8000000 in
theorem pfold_any (c : Int) (w : World) (_hc : in10 c) : Calls Tryz.prog 138 #[.int .i64 c] w fun e w' => e = .returned (.tuple #[.int .i64 (foldN c).1, .bool (foldN c).2]) ∧ Below w.heap.size w w' := by
 by_cases h0 : c < 0
 ·rw [fold_large_no (.inl h0)]
  go_enter Tryz.func138, Tryz.ntmps138
  go_wp2_with fail
  go_ret2
  exact ⟨rfl, Below.refl _ _⟩
 by_cases h1 : 128 ≤ c
 ·rw [fold_large_no (.inr h1)]
  go_enter Tryz.func138, Tryz.ntmps138
  go_wp2_with fail
  go_ret2
  exact ⟨rfl, Below.refl _ _⟩
 obtain ⟨ha, hq⟩ := fold_at_map (c := c) (by omega) (by omega)
 obtain ⟨v, hv⟩ : ∃ v, (foldN c).1 = v := ⟨_, rfl⟩
 obtain ⟨q, hq2⟩ : ∃ q, (foldN c).2 = q := ⟨_, rfl⟩
 rw [hv] at ha ⊢
 rw [hq2] at hq ⊢
 clear hv hq2
 have e0 : IntKind.i32.wrap c = c := by rw [IntKind.wrap_i32]; omega
 obtain ⟨d, hd⟩ : ∃ d, lowC c = d := ⟨_, rfl⟩
 rw [hd] at ha hq
 have HA := Lib.hid ha
 have HQ := Lib.hid hq
 clear ha hq
 by_cases hcap : 65 ≤ c ∧ c ≤ 90
 ·obtain ⟨c1, c2⟩ := hcap
  have hdc : c + 32 = d := by rw [← hd]; unfold lowC; rw [if_pos ⟨c1, c2⟩]
  have e1 : IntKind.i32.wrap (c - 65) = c - 65 := by rw [IntKind.wrap_i32]; omega
  have e2 : IntKind.i32.wrap (c - 65 + 97) = d := by rw [IntKind.wrap_i32]; omega
  have d0 : 0 ≤ d := by omega
  have d1 : d < 128 := by omega
  clear hd hdc
  go_enter Tryz.func138, Tryz.ntmps138
  go_wp2_with fail
  refine (folds_any _).mono ?_
  rintro e w1 ⟨b, n, rfl, hown, hb1⟩
  have hl := fold_look hown d0 d1 HA.out HQ.out
  go_wp2_with fail
  go_ret2
  exact ⟨rfl, hb1⟩
 ·have hdc : c = d := by rw [← hd]; unfold lowC; rw [if_neg hcap]
  subst hdc
  clear hd
  by_cases c1 : 65 ≤ c
  ·have c2 : ¬ c ≤ 90 := by omega
   clear hcap
   go_enter Tryz.func138, Tryz.ntmps138
   go_wp2_with fail
   refine (folds_any _).mono ?_
   rintro e w1 ⟨b, n, rfl, hown, hb1⟩
   have hl := fold_look hown (by omega) (by omega) HA.out HQ.out
   go_wp2_with fail
   go_ret2
   exact ⟨rfl, hb1⟩
  ·clear hcap
   go_enter Tryz.func138, Tryz.ntmps138
   go_wp2_with fail
   refine (folds_any _).mono ?_
   rintro e w1 ⟨b, n, rfl, hown, hb1⟩
   have hl := fold_look hown (by omega) (by omega) HA.out HQ.out
   go_wp2_with fail
   go_ret2
   exact ⟨rfl, hb1⟩
end Go.Proofs.YtceipblcdcgljaaGreatDoor
