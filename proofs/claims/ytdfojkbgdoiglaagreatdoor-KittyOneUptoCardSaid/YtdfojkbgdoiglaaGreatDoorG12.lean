/-
  Layer 13's mathematics: a key's event by progressive flags. Layer 2, walked: the size of a code point, and of what begins with a byte.
-/
import Derived.Test.YtdfojkbgdoiglaaGreatDoorG03
import Derived.Test.YtdfojkbgdoiglaaGreatDoorG09
import Derived.Test.YtdfojkbgdoiglaaGreatDoorG10
import Derived.Laws.Rows
namespace Go.Proofs.YtdfojkbgdoiglaaGreatDoor
def flagK (f one : Int) : Bool := flg f / one % 2 == 1
def frmK (c : Int) : Int × Int :=
 if (lookE c).kind = 0 then (0, 0) else if c = 57366 then (13, 126) else if (lookE c).kind = 3 ∧ (lookE c).keys = false then (1, (lookE c).fin) else if (lookE c).kind = 4 ∧ (lookE c).keys = false then ((lookE c).num, 126) else (c, 117)
def keyedK (c : Int) : Bool := c == 9 || c == 13 || c == 127
def astextK (k : Ky) : Bool := if (lookE k.code).kind = 1 then decide (k.mods - k.mods / 64 * 64 ≤ 1) else keyedK k.code && (k.mods - k.mods / 64 * 64 == 0)
def sentK (f : Int) (k : Ky) : Bool :=
 if mayK k = false then false else if k.typ = 3 ∧ (flagK f 2 = false ∨ flagK f 8 = false ∧ ((lookE k.code).kind = 1 ∨ keyedK k.code = true)) then false else decide ((lookE k.code).kind ≠ 7) || flagK f 8
def altK (shift base code : Int) (s1 : Bool) : List Int :=
 (if shift ≠ 0 ∧ s1 = true then [shift] else []) ++ ((if (base ≠ 0 ∧ base ≠ code) ∧ ¬ (shift ≠ 0 ∧ s1 = true) then [-1] else []) ++ (if base ≠ 0 ∧ base ≠ code then [base] else []))
def firstK (f : Int) (k : Ky) : List Int := (frmK k.code).1 :: (if flagK f 4 = true ∧ (frmK k.code).2 = 117 then altK k.shift k.base k.code (hasN k.mods 1) else [])
def secondK (f : Int) (k : Ky) : List Int := if flagK f 2 = true ∧ k.typ ≠ 1 then [1 + k.mods, k.typ] else if k.mods ≠ 0 then [1 + k.mods] else [-1]
def toldK (f : Int) (k : Ky) : Prop := flagK f 16 = true ∧ k.typ ≠ 3 ∧ k.text.data.toList ≠ []
instance (f : Int) (k : Ky) : Decidable (toldK f k) := by unfold toldK; infer_instance
def ptsK (k : Ky) : List Int := (allL k.text.data.toList).getD []
def paramsK (f : Int) (k : Ky) : List (List Int) :=
 if toldK f k then [firstK f k, secondK f k, ptsK k] else if secondK f k ≠ [-1] then [firstK f k, secondK f k] else if firstK f k ≠ [1] then [firstK f k] else []
def sqK (f : Int) (k : Ky) : Sq := ⟨1, 0, paramsK f k, [], byt (frmK k.code).2, []⟩
def putK (f : Int) (k : Ky) : List UInt8 := if mayS (sqK f k) = 0 then putS (sqK f k) else []
def plainK (k : Ky) : List UInt8 := if keyedK k.code = true then [byt k.code] else if k.text.data.toList ≠ [] then k.text.data.toList else putL (shownK k)
def kitL (f : Int) (k : Ky) : List UInt8 := if sentK f k = false then [] else if flagK f 8 = false ∧ k.typ ≠ 3 ∧ astextK k = true then plainK k else putK f k
theorem code_rng {c : Int} (h : (lookE c).kind ≠ 0) : 0 ≤ c ∧ c ≤ 1114111 := by
 by_cases ho : c < 57344 ∨ 57455 ≤ c
 ·rw [look_out ho] at h
  simp only at h
  unfold restN at h
  split at h
  ·omega
  ·split at h
   ·omega
   ·split at h
    ·omega
    ·split at h
     ·exact absurd rfl h
     ·rename_i h4
      have h5 : isPtK c = true := by
       cases e : isPtK c with
       | true => rfl
       | false => exact absurd (.inl e) h4
      have := of_decide_eq_true h5
      omega
 ·omega
theorem frm_main : ∀ k : Fin 111, (lookE (57344 + (k.1 : Int))).kind ≠ 0 → (frmK (57344 + (k.1 : Int)) = (57344 + (k.1 : Int), 117)) ∨ ((frmK (57344 + (k.1 : Int))).2 ≠ 117 ∧ 1 ≤ (frmK (57344 + (k.1 : Int))).1 ∧ (frmK (57344 + (k.1 : Int))).1 ≤ 100 ∧ 65 ≤ (frmK (57344 + (k.1 : Int))).2 ∧ (frmK (57344 + (k.1 : Int))).2 ≤ 126) := by decide +kernel
theorem frm_cases {c : Int} (h : (lookE c).kind ≠ 0) : frmK c = (c, 117) ∨ ((57344 ≤ c ∧ c < 57455) ∧ (frmK c).2 ≠ 117 ∧ 1 ≤ (frmK c).1 ∧ (frmK c).1 ≤ 100 ∧ 65 ≤ (frmK c).2 ∧ (frmK c).2 ≤ 126) := by
 by_cases ho : c < 57344 ∨ 57455 ≤ c
 ·left
  have hl := look_out ho
  have hr := rest_rng c
  unfold frmK
  rw [if_neg h, if_neg (by omega)]
  rw [hl]
  rw [if_neg (fun e => by have := e.1; simp only at this; omega), if_neg (fun e => by have := e.1; simp only at this; omega)]
 ·obtain ⟨k, rfl⟩ : ∃ k : Fin 111, c = 57344 + k.1 := ⟨⟨(c - 57344).toNat, by omega⟩, by simp; omega⟩
  rcases frm_main k h with h1 | h1
  ·exact .inl h1
  ·exact .inr ⟨by omega, h1⟩
theorem frm_rng {c : Int} (h : (lookE c).kind ≠ 0) : (0 ≤ (frmK c).1 ∧ (frmK c).1 ≤ 1114111) ∧ 65 ≤ (frmK c).2 ∧ (frmK c).2 ≤ 126 := by
 rcases frm_cases h with h1 | ⟨b1, h1⟩
 ·rw [h1]
  exact ⟨code_rng h, by show (65 : Int) ≤ 117; decide, by show (117 : Int) ≤ 126; decide⟩
 ·exact ⟨⟨by omega, by omega⟩, h1.2.2.2.1, h1.2.2.2.2⟩
theorem clean_pts {s : ByteArray} (h : cleanB s = true) : ∃ ks, allL s.data.toList = some ks ∧ ks.length ≤ 8 ∧ (∀ n ∈ ks, 0 ≤ n ∧ n ≤ 1114111) ∧ catL ks = s.data.toList := by
 unfold cleanB cleanL at h
 cases ho : allL s.data.toList with
 | none => rw [ho] at h; cases h
 | some ks =>
   rw [ho] at h
   have h2 : (decide (ks.length ≤ 8) && cleanP ks) = true := h
   simp only [Bool.and_eq_true, decide_eq_true_eq] at h2
   obtain ⟨g1, g2⟩ := text_all_n _ _ (Nat.le_refl _) ks ho
   refine ⟨ks, rfl, h2.1, fun n hn => ?_, g2⟩
   have := (isPt_iff n).1 (List.all_eq_true.1 g1 n hn)
   omega
theorem pts_is {k : Ky} {ks : List Int} (h : allL k.text.data.toList = some ks) : ptsK k = ks := by
 unfold ptsK
 rw [h]
 rfl
theorem alt_rng {s b c : Int} {t : Bool} (hs : 0 ≤ s ∧ s ≤ 1114111) (hb : 0 ≤ b ∧ b ≤ 1114111) : (altK s b c t).length ≤ 2 ∧ ∀ n ∈ altK s b c t, -1 ≤ n ∧ n ≤ 1114111 := by
 unfold altK
 by_cases p : s ≠ 0 ∧ t = true <;> by_cases q : b ≠ 0 ∧ b ≠ c <;> simp [p, q] <;> omega
theorem pt_rng {c : Int} (h : c = 0 ∨ textK c = true) : 0 ≤ c ∧ c ≤ 1114111 := by
 rcases h with h | h
 ·omega
 ·have := (isPt_iff c).1 (text_pt (eq_of_beq h))
  omega
theorem first_ok (f : Int) {k : Ky} (h : mayK k = true) : (firstK f k).length ≤ 8 ∧ ∀ n ∈ firstK f k, -1 ≤ n ∧ n ≤ 1114111 := by
 obtain ⟨⟨h1, _, _, _, _⟩, h2, h3, _⟩ := (may_parts k).1 h
 have hr := frm_rng h1
 obtain ⟨a1, a2⟩ := alt_rng (c := k.code) (t := hasN k.mods 1) (pt_rng h2) (pt_rng h3)
 unfold firstK
 split
 ·refine ⟨by simp; omega, fun n hn => ?_⟩
  rcases List.mem_cons.1 hn with rfl | hn
  ·omega
  ·exact a2 n hn
 ·exact ⟨by simp, fun n hn => by simp at hn; omega⟩
theorem second_ok (f : Int) {k : Ky} (h : mayK k = true) : (1 ≤ (secondK f k).length ∧ (secondK f k).length ≤ 8) ∧ ∀ n ∈ secondK f k, -1 ≤ n ∧ n ≤ 1114111 := by
 obtain ⟨⟨_, m0, m1, t1, t3⟩, _⟩ := (may_parts k).1 h
 unfold secondK
 split
 ·exact ⟨by simp, fun n hn => by simp at hn; omega⟩
 ·split
  ·exact ⟨by simp, fun n hn => by simp at hn; omega⟩
  ·exact ⟨by simp, fun n hn => by simp at hn; omega⟩
theorem par_ok {l : List (List Int)} (hl : l.length ≤ 16) (hn : l ≠ [[-1]]) (h : ∀ p ∈ l, 1 ≤ p.length ∧ p.length ≤ 8 ∧ ∀ n ∈ p, -1 ≤ n ∧ n ≤ 1114111) : parOk l = true := by
 unfold parOk
 simp only [Bool.and_eq_true, decide_eq_true_eq, List.all_eq_true]
 refine ⟨⟨hl, hn⟩, fun p hp => ?_⟩
 obtain ⟨a, b, c⟩ := h p hp
 exact ⟨⟨a, b⟩, c⟩
theorem may_kit (f : Int) {k : Ky} (h : mayK k = true) : mayS (sqK f k) = 0 := by
 obtain ⟨⟨h1, _, _, _, _⟩, _, _, hc⟩ := (may_parts k).1 h
 have hr := frm_rng h1
 obtain ⟨ks, k1, k2, k3, k4⟩ := clean_pts hc
 obtain ⟨a1, a2⟩ := first_ok f h
 obtain ⟨b1, b2⟩ := second_ok f h
 have a0 : 1 ≤ (firstK f k).length := by unfold firstK; simp
 have hp : parOk (paramsK f k) = true := by
  unfold paramsK
  split
  next ht =>
   have hp0 : 1 ≤ (ptsK k).length := by
    rw [pts_is k1]
    cases ks with
    | nil => exact absurd k4.symm ht.2.2
    | cons x l => simp
   refine par_ok (by simp) (by simp) fun p hp => ?_
   simp only [List.mem_cons, List.not_mem_nil, or_false] at hp
   rcases hp with rfl | rfl | rfl
   ·exact ⟨a0, a1, a2⟩
   ·exact ⟨b1.1, b1.2, b2⟩
   ·refine ⟨hp0, by rw [pts_is k1]; exact k2, fun n hn => ?_⟩
    rw [pts_is k1] at hn
    have := k3 n hn
    omega
  next =>
   split
   next =>
    refine par_ok (by simp) (by simp) fun p hp => ?_
    simp only [List.mem_cons, List.not_mem_nil, or_false] at hp
    rcases hp with rfl | rfl
    ·exact ⟨a0, a1, a2⟩
    ·exact ⟨b1.1, b1.2, b2⟩
   next =>
    split
    next =>
     refine par_ok (by simp) (fun e => ?_) fun p hp => ?_
     ·have e1 : firstK f k = [-1] := by simpa using e
      have e2 : (frmK k.code).1 = -1 := by
       unfold firstK at e1
       exact (List.cons.inj e1).1
      omega
     ·rw [List.mem_singleton.1 hp]
      exact ⟨a0, a1, a2⟩
    next => rfl
 have hb := byt_btw (f := (frmK k.code).2) (a := 64) (b := 126) (by omega) (by omega) (by decide)
 have ho : okS (sqK f k) = true := by
  unfold okS sqK
  simp [privOk, lastOk, bareOk, hp, hb]
 unfold mayS
 rw [if_neg (by simp [sqK]), if_pos ho]
theorem putK_is (f : Int) {k : Ky} (h : mayK k = true) : putK f k = putS (sqK f k) := if_pos (may_kit f h)
end Go.Proofs.YtdfojkbgdoiglaaGreatDoor
namespace Go.Proofs.YtdfojkbgdoiglaaGreatDoor
open Go.RowKit
theorem siz_cell {w : World} {t : TypeId} {fz : Nat × Nat} (h : w.heap[1]? = some (.cells sizC t fz)) (i : Nat) : w.cell? ⟨1, i, none⟩ = sizC[i]? := cell_of_row w _ i sizC t fz h
theorem szA_form (j : Nat) : ∃ a b c : Int, szA j = #[.int .i64 a, .int .i64 b, .int .i64 c] := by
 unfold szA
 split <;> exact ⟨_, _, _, rfl⟩
set_option maxRecDepth 100000 in
set_option maxHeartbeats 4000000 in
theorem sizeOf_any (r : Int) (w : World) (hs : Siz w) : Calls Tryz.prog 92 #[.int .i64 r] w fun e w' => e = .returned (.agg (szA (ixP r 4))) ∧ Below w.heap.size w w' := by
 obtain ⟨t, fz, hh⟩ := hs
 have hlt := (Array.getElem?_eq_some_iff.1 hh).1
 have hlt0 : 0 < w.heap.size := Nat.zero_lt_of_lt hlt
 have c0 : w.cell? ⟨1, 0, none⟩ = some (.int .i64 1) := siz_cell hh 0
 have c1 : w.cell? ⟨1, 1, none⟩ = some (.int .i64 0) := siz_cell hh 1
 have c2 : w.cell? ⟨1, 2, none⟩ = some (.int .i64 0) := siz_cell hh 2
 have c3 : w.cell? ⟨1, 3, none⟩ = some (.int .i64 2) := siz_cell hh 3
 have c4 : w.cell? ⟨1, 4, none⟩ = some (.int .i64 128) := siz_cell hh 4
 have c5 : w.cell? ⟨1, 5, none⟩ = some (.int .i64 192) := siz_cell hh 5
 have c6 : w.cell? ⟨1, 6, none⟩ = some (.int .i64 3) := siz_cell hh 6
 have c7 : w.cell? ⟨1, 7, none⟩ = some (.int .i64 2048) := siz_cell hh 7
 have c8 : w.cell? ⟨1, 8, none⟩ = some (.int .i64 224) := siz_cell hh 8
 have c9 : w.cell? ⟨1, 9, none⟩ = some (.int .i64 4) := siz_cell hh 9
 have c10 : w.cell? ⟨1, 10, none⟩ = some (.int .i64 65536) := siz_cell hh 10
 have c11 : w.cell? ⟨1, 11, none⟩ = some (.int .i64 240) := siz_cell hh 11
 go_enter Tryz.func92, Tryz.ntmps92
 go_wp2
 have b0 := Blk.new w 106 #[.int .i64 0, .int .i64 0, .int .i64 0]
 have b1 := Blk.new (w.alloc (.cells #[.int .i64 0, .int .i64 0, .int .i64 0] 106)) 106 #[.int .i64 1, .int .i64 0, .int .i64 0]
 rw [World.size_alloc] at b1
 have hb0 : Below w.heap.size w ((w.alloc (.cells #[.int .i64 0, .int .i64 0, .int .i64 0] 106)).alloc (.cells #[.int .i64 1, .int .i64 0, .int .i64 0] 106)) := ((Below.refl _ w).alloc (Nat.le_refl _) _).alloc (by simp) _
 go_loopw [9] (fun i wr => ∃ k : Nat, k ≤ 4 ∧ i = .int .i64 k ∧ Blk wr w.heap.size 106 #[.int .i64 0, .int .i64 0, .int .i64 0] ∧ Blk wr (w.heap.size + 1) 106 (szA (ixP r k)) ∧ Below w.heap.size w wr) (fun i _ => 4 - (intOf i).toNat)
 case atStart => exact ⟨0, by omega, rfl, b0.alloc _, b1, hb0⟩
 case round =>
  obtain ⟨k, hk, rfl, p0, p1, hbw⟩ := hrel
  clear b0 b1 hb0 c0 c1 c2 c3 c4 c5 c6 c7 c8 c9 c10 c11
  have hz := p1.lt
  have q0 := p1.frozen 0
  have q1 := p1.frozen 1
  have q2 := p1.frozen 2
  obtain rfl | rfl | rfl | rfl | rfl : k = 0 ∨ k = 1 ∨ k = 2 ∨ k = 3 ∨ k = 4 := by omega
  ·have i0 : ∀ w : World, (Instr.index 114 (.agg #[.int .i64 1, .int .i64 0, .int .i64 0, .int .i64 2, .int .i64 128, .int .i64 192, .int .i64 3, .int .i64 2048, .int .i64 224, .int .i64 4, .int .i64 65536, .int .i64 240]) (.int .i64 0)).run Tryz.prog w = .ok (.agg #[.int .i64 1, .int .i64 0, .int .i64 0]) w := fun _ => by kernel_rfl
   by_cases hr : 0 ≤ r
   ·have f0 := Lib.hid (show szA (ixP r (0 + 1)) = szA 0 by rw [show ixP r (0 + 1) = 0 by unfold ixP; (repeat' split) <;> omega])
    obtain ⟨u0, u1, u2, hu⟩ := szA_form (ixP r 0)
    rw [hu] at p1
    have g0 := p1.cell 0
    have g1 := p1.cell 1
    have g2 := p1.cell 2
    go_wp2
    go_roundw
    case rel => exact ⟨0 + 1, by omega, by go_num, (p0.far3 (Nat.ne_of_lt (Nat.lt_succ_self _)) _ _ _).alloc _, by rw [f0.out]; exact (p1.set3 _ _ _).alloc _, (below_set3 hbw (Nat.le_succ _) _ _ _).alloc (by rw [set3_size]; exact hbw.size) _⟩
    case measure => simp [intOf]
   ·have f0 := Lib.hid (show szA (ixP r (0 + 1)) = szA (ixP r 0) by rw [show ixP r (0 + 1) = ixP r 0 by unfold ixP; (repeat' split) <;> omega])
    go_wp2
    go_roundw
    case rel => exact ⟨0 + 1, by omega, by go_num, p0.alloc _, by rw [f0.out]; exact p1.alloc _, hbw.alloc hbw.size _⟩
    case measure => simp [intOf]
  ·have i0 : ∀ w : World, (Instr.index 114 (.agg #[.int .i64 1, .int .i64 0, .int .i64 0, .int .i64 2, .int .i64 128, .int .i64 192, .int .i64 3, .int .i64 2048, .int .i64 224, .int .i64 4, .int .i64 65536, .int .i64 240]) (.int .i64 1)).run Tryz.prog w = .ok (.agg #[.int .i64 2, .int .i64 128, .int .i64 192]) w := fun _ => by kernel_rfl
   by_cases hr : 128 ≤ r
   ·have f0 := Lib.hid (show szA (ixP r (1 + 1)) = szA 1 by rw [show ixP r (1 + 1) = 1 by unfold ixP; (repeat' split) <;> omega])
    obtain ⟨u0, u1, u2, hu⟩ := szA_form (ixP r 1)
    rw [hu] at p1
    have g0 := p1.cell 0
    have g1 := p1.cell 1
    have g2 := p1.cell 2
    go_wp2
    go_roundw
    case rel => exact ⟨1 + 1, by omega, by go_num, (p0.far3 (Nat.ne_of_lt (Nat.lt_succ_self _)) _ _ _).alloc _, by rw [f0.out]; exact (p1.set3 _ _ _).alloc _, (below_set3 hbw (Nat.le_succ _) _ _ _).alloc (by rw [set3_size]; exact hbw.size) _⟩
    case measure => simp [intOf]
   ·have f0 := Lib.hid (show szA (ixP r (1 + 1)) = szA (ixP r 1) by rw [show ixP r (1 + 1) = ixP r 1 by unfold ixP; (repeat' split) <;> omega])
    go_wp2
    go_roundw
    case rel => exact ⟨1 + 1, by omega, by go_num, p0.alloc _, by rw [f0.out]; exact p1.alloc _, hbw.alloc hbw.size _⟩
    case measure => simp [intOf]
  ·have i0 : ∀ w : World, (Instr.index 114 (.agg #[.int .i64 1, .int .i64 0, .int .i64 0, .int .i64 2, .int .i64 128, .int .i64 192, .int .i64 3, .int .i64 2048, .int .i64 224, .int .i64 4, .int .i64 65536, .int .i64 240]) (.int .i64 2)).run Tryz.prog w = .ok (.agg #[.int .i64 3, .int .i64 2048, .int .i64 224]) w := fun _ => by kernel_rfl
   by_cases hr : 2048 ≤ r
   ·have f0 := Lib.hid (show szA (ixP r (2 + 1)) = szA 2 by rw [show ixP r (2 + 1) = 2 by unfold ixP; (repeat' split) <;> omega])
    obtain ⟨u0, u1, u2, hu⟩ := szA_form (ixP r 2)
    rw [hu] at p1
    have g0 := p1.cell 0
    have g1 := p1.cell 1
    have g2 := p1.cell 2
    go_wp2
    go_roundw
    case rel => exact ⟨2 + 1, by omega, by go_num, (p0.far3 (Nat.ne_of_lt (Nat.lt_succ_self _)) _ _ _).alloc _, by rw [f0.out]; exact (p1.set3 _ _ _).alloc _, (below_set3 hbw (Nat.le_succ _) _ _ _).alloc (by rw [set3_size]; exact hbw.size) _⟩
    case measure => simp [intOf]
   ·have f0 := Lib.hid (show szA (ixP r (2 + 1)) = szA (ixP r 2) by rw [show ixP r (2 + 1) = ixP r 2 by unfold ixP; (repeat' split) <;> omega])
    go_wp2
    go_roundw
    case rel => exact ⟨2 + 1, by omega, by go_num, p0.alloc _, by rw [f0.out]; exact p1.alloc _, hbw.alloc hbw.size _⟩
    case measure => simp [intOf]
  ·have i0 : ∀ w : World, (Instr.index 114 (.agg #[.int .i64 1, .int .i64 0, .int .i64 0, .int .i64 2, .int .i64 128, .int .i64 192, .int .i64 3, .int .i64 2048, .int .i64 224, .int .i64 4, .int .i64 65536, .int .i64 240]) (.int .i64 3)).run Tryz.prog w = .ok (.agg #[.int .i64 4, .int .i64 65536, .int .i64 240]) w := fun _ => by kernel_rfl
   by_cases hr : 65536 ≤ r
   ·have f0 := Lib.hid (show szA (ixP r (3 + 1)) = szA 3 by rw [show ixP r (3 + 1) = 3 by unfold ixP; (repeat' split) <;> omega])
    obtain ⟨u0, u1, u2, hu⟩ := szA_form (ixP r 3)
    rw [hu] at p1
    have g0 := p1.cell 0
    have g1 := p1.cell 1
    have g2 := p1.cell 2
    go_wp2
    go_roundw
    case rel => exact ⟨3 + 1, by omega, by go_num, (p0.far3 (Nat.ne_of_lt (Nat.lt_succ_self _)) _ _ _).alloc _, by rw [f0.out]; exact (p1.set3 _ _ _).alloc _, (below_set3 hbw (Nat.le_succ _) _ _ _).alloc (by rw [set3_size]; exact hbw.size) _⟩
    case measure => simp [intOf]
   ·have f0 := Lib.hid (show szA (ixP r (3 + 1)) = szA (ixP r 3) by rw [show ixP r (3 + 1) = ixP r 3 by unfold ixP; (repeat' split) <;> omega])
    go_wp2
    go_roundw
    case rel => exact ⟨3 + 1, by omega, by go_num, p0.alloc _, by rw [f0.out]; exact p1.alloc _, hbw.alloc hbw.size _⟩
    case measure => simp [intOf]
  ·obtain ⟨u0, u1, u2, hu⟩ := szA_form (ixP r 4)
   rw [hu] at p1
   have g0 := p1.cell 0
   have g1 := p1.cell 1
   have g2 := p1.cell 2
   have y0 := p0.cell 0
   have y1 := p0.cell 1
   have y2 := p0.cell 2
   have x0 := p0.frozen 0
   have x1 := p0.frozen 1
   have x2 := p0.frozen 2
   have hlt2 := p0.lt
   go_wp2
   exact bodyPost_ret (v := .agg #[.int .i64 u0, .int .i64 u1, .int .i64 u2]) (by simp [results, Tryz.results92, go_sem, y0, y1, y2]) rfl ⟨by rw [hu], below_set3 hbw (Nat.le_refl _) _ _ _⟩
end Go.Proofs.YtdfojkbgdoiglaaGreatDoor
