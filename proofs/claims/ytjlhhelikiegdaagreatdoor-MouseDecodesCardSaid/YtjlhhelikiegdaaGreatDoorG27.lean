/-
  Stage 16, the landed mouse: mathematics: marks by bits, numbers by groups, an event looked for by its button. Layer 16, walked: the document's number, marks, Code, lost. Layer 2, the document's Is and Put, walked. (Nothing of the program's.)
-/
import Derived.Test.YtjlhhelikiegdaaGreatDoorG06
import Derived.Test.YtjlhhelikiegdaaGreatDoorG26
import Derived.Laws.Entries
import Derived.BigQuiet
import Derived.Deep.QuietTactic
namespace Go.Proofs.YtjlhhelikiegdaaGreatDoor
open Go.RowKit
def bT (x d : Int) : Bool := bits .and .i64 x d != 0
def wR (x : Int) : Int := wrap64 x
theorem wR_id {x : Int} (h0 : -9223372036854775808 ≤ x) (h1 : x ≤ 9223372036854775807) : wR x = x := by unfold wR wrap64; omega
def wh (b : Bool) (n : Int) : Int := if b = true then n else 0
def numW (b : Int) : Int := if b = 0 then 3 else if b < 4 then wR (b - 1) else wR (wR (wR (b.tdiv 4) * 64) + b % 4)
theorem numW_eq {b : Int} (h0 : 0 ≤ b) (h1 : b ≤ 11) : numW b = numbM b := by
 obtain ⟨n, rfl⟩ := Int.eq_ofNat_of_zero_le h0
 have h : n < 12 := by omega
 have : ∀ n : Fin 12, numW ((n.1 : Nat) : Int) = numbM ((n.1 : Nat) : Int) := by decide +kernel
 exact this ⟨n, h⟩
def hasW (mode mods d : Int) : Bool := (mode != 9) && bT mods d
def mkW (mode typ mods : Int) : Int := wh (typ == 4) 32 + wh (hasW mode mods 1) 4 + wh (hasW mode mods 2) 8 + wh (hasW mode mods 4) 16
theorem wh_rng (b : Bool) {n : Int} (h : 0 ≤ n) : 0 ≤ wh b n ∧ wh b n ≤ n := by unfold wh; split <;> omega
theorem mkW_rng (mode typ mods : Int) : 0 ≤ mkW mode typ mods ∧ mkW mode typ mods ≤ 60 := by
 have a := wh_rng (typ == 4) (n := 32) (by decide)
 have b := wh_rng (hasW mode mods 1) (n := 4) (by decide)
 have c := wh_rng (hasW mode mods 2) (n := 8) (by decide)
 have d := wh_rng (hasW mode mods 4) (n := 16) (by decide)
 unfold mkW
 omega
theorem mods_bits {m : Int} (h0 : 0 ≤ m) (h1 : m ≤ 255) : wh (bT m 1) 4 + wh (bT m 2) 8 + wh (bT m 4) 16 = 4 * (m % 8) := by
 obtain ⟨n, rfl⟩ := Int.eq_ofNat_of_zero_le h0
 have h : n < 256 := by omega
 have : ∀ n : Fin 256, wh (bT ((n.1 : Nat) : Int) 1) 4 + wh (bT ((n.1 : Nat) : Int) 2) 8 + wh (bT ((n.1 : Nat) : Int) 4) 16 = 4 * (((n.1 : Nat) : Int) % 8) := by decide +kernel
 exact this ⟨n, h⟩
theorem mkW_eq (mode : Int) {e : Ms} (h0 : 0 ≤ e.mods) (h1 : e.mods ≤ 255) : mkW mode e.typ e.mods = marksM mode e := by
 have hb := mods_bits h0 h1
 unfold mkW marksM
 have ht : wh (e.typ == 4) 32 = if e.typ = 4 then 32 else 0 := by
  unfold wh
  by_cases h : e.typ = 4
  ·rw [if_pos h, if_pos (by rw [h]; rfl)]
  ·rw [if_neg h, if_neg (by rw [beq_false_of_ne h]; decide)]
 rw [ht]
 by_cases hm : mode = 9
 ·subst hm
  rw [if_neg (show ¬ ((9 : Int) ≠ 9) by decide)]
  simp [hasW, wh]
 ·have hq : (mode != 9) = true := bne_iff_ne.2 hm
  rw [if_pos hm]
  unfold hasW
  rw [hq, Bool.true_and, Bool.true_and, Bool.true_and]
  omega
def codeW (mode : Int) (e : Ms) : Int := wR (numW e.btn + mkW mode e.typ e.mods)
theorem codeW_eq (mode : Int) {e : Ms} (h : mayT e = true) : codeW mode e = codeM mode e := by
 obtain ⟨⟨b0, b1⟩, ⟨m0, m1⟩, _⟩ := may_rng h
 have hr := mcode_rng (mode := mode) h
 unfold codeW
 rw [numW_eq b0 b1, mkW_eq mode m0 m1, ← code_eq h, wR_id (by omega) (by omega)]
theorem code_no {mode : Int} {e : Ms} (h : mayT e = false) : codeM mode e = 0 := by unfold codeM; rw [if_neg (by rw [h]; decide)]
theorem lostW_eq (mode : Int) {e : Ms} (h : mayT e = true) : 32 + numW (wh (!(e.typ == 3)) e.btn) + mkW mode e.typ e.mods = 32 + lostM mode e := by
 obtain ⟨⟨b0, b1⟩, ⟨m0, m1⟩, _⟩ := may_rng h
 unfold lostM
 by_cases h3 : e.typ = 3
 ·rw [if_pos h3, show wh (!(e.typ == 3)) e.btn = 0 by rw [h3]; rfl, mkW_eq mode m0 m1, show numW 0 = 3 from rfl]
  omega
 ·rw [if_neg h3, show wh (!(e.typ == 3)) e.btn = e.btn by unfold wh; rw [if_pos (by rw [beq_false_of_ne h3]; rfl)], numW_eq b0 b1, mkW_eq mode m0 m1, code_eq h]
  omega
def typP (n : Int) (f : UInt8) : Int := if f = 109 then 3 else if bT n 32 = true then 4 else 1
def modP (n : Int) : Int := wh (bT n 4) 1 + wh (bT n 8) 2 + wh (bT n 16) 4
theorem modP_rng (n : Int) : 0 ≤ modP n ∧ modP n ≤ 7 := by
 have a := wh_rng (bT n 4) (n := 1) (by decide)
 have b := wh_rng (bT n 8) (n := 2) (by decide)
 have c := wh_rng (bT n 16) (n := 4) (by decide)
 unfold modP
 omega
theorem num_bits {n : Int} (h0 : 0 ≤ n) (h1 : n ≤ 191) : modP n = n / 4 % 8 ∧ (bT n 32 = true ↔ n / 32 % 2 = 1) := by
 obtain ⟨n, rfl⟩ := Int.eq_ofNat_of_zero_le h0
 have h : n < 192 := by omega
 have : ∀ n : Fin 192, modP ((n.1 : Nat) : Int) = ((n.1 : Nat) : Int) / 4 % 8 ∧ (bT ((n.1 : Nat) : Int) 32 = true ↔ ((n.1 : Nat) : Int) / 32 % 2 = 1) := by decide +kernel
 exact this ⟨n, h⟩
def cand (n : Int) (f : UInt8) (x y b : Int) : Ms := ⟨b, typP n f, x, y, modP n⟩
def hitB (l : List UInt8) (e : Ms) : Bool := mayT e && (encM 1003 1006 e == l)
theorem hit_dec {l : List UInt8} {n : Int} {f : UInt8} {x y b : Int} (h : hitB l (cand n f x y b) = true) : decM l = (cand n f x y b, true) := by
 unfold hitB at h
 rw [Bool.and_eq_true, beq_iff_eq] at h
 have := mou_back h.1
 rw [h.2] at this
 rw [this]
 have hm := modP_rng n
 unfold cand
 simp only [Prod.mk.injEq, and_true, Ms.mk.injEq, true_and]
 omega
def codeS (s : Sq) : Int := argL s.params 0 (-1)
theorem args_of {s : Sq} {k : Nat} {l : List UInt8} {e : Ms} (h : mayT e = true) (hl : encM 1003 1006 e = l) (ht : takeS l = some (s, k)) : codeS s = codeM 1003 e ∧ argL s.params 0 0 = codeM 1003 e ∧ argL s.params 1 0 = e.x ∧ argL s.params 2 0 = e.y := by
 obtain ⟨hm, he⟩ := enc_1006 1003 h
 have hc := mcode_rng (mode := 1003) h
 have hx := may_cell h
 have h2 := takeS_put hm []
 rw [List.append_nil, ← he, hl, ht] at h2
 injection h2 with h2
 injection h2 with h3 _
 subst h3
 obtain ⟨a0, a1, a2⟩ := args3 (codeM 1003 e) e.x e.y ⟨hc.1, by omega, by omega⟩
 refine ⟨?_, a0, a1, a2⟩
 unfold codeS argL
 rw [if_neg (by simp [sqP])]
 show (if codeM 1003 e < 0 then (-1 : Int) else codeM 1003 e) = codeM 1003 e
 rw [if_neg (by omega)]
theorem no_hit {l : List UInt8} {s : Sq} {k : Nat} (ht : takeS l = some (s, k)) (hn : ∀ b : Int, 0 ≤ b → b ≤ 11 → hitB l (cand (codeS s) s.final (argL s.params 1 0) (argL s.params 2 0) b) = false) : decM l = (⟨0, 0, 0, 0, 0⟩, false) := by
 unfold decM
 rw [ht]
 show decS s l = _
 unfold decS
 split
 ·rfl
 ·split
  ·rfl
  ·rename_i h1 h2
   simp only [not_or, Bool.not_eq_false] at h2
   obtain ⟨_, hm, he⟩ := h2
   have he := Classical.not_not.1 he
   obtain ⟨g, hg⟩ : ∃ g, guessM (argL s.params 0 0) (argL s.params 1 0) (argL s.params 2 0) (s.final == 109) = g := ⟨_, rfl⟩
   rw [hg] at hm he ⊢
   obtain ⟨a, a0, a1, a2⟩ := args_of hm he ht
   have hc := mcode_rng (mode := 1003) hm
   obtain ⟨⟨b0, b1⟩, _⟩ := may_rng hm
   obtain ⟨p1, p2⟩ := num_bits hc.1 hc.2
   obtain ⟨C, hC⟩ : ∃ C, codeM 1003 g = C := ⟨_, rfl⟩
   rw [hC] at a a0 hc p1 p2
   have hcand : cand (codeS s) s.final (argL s.params 1 0) (argL s.params 2 0) g.btn = g := by
    have hgg := hg
    rw [a0] at hgg
    unfold guessM at hgg
    unfold cand typP
    rw [a]
    rw [← hgg]
    simp only [Ms.mk.injEq, true_and, beq_iff_eq]
    refine ⟨?_, p1⟩
    by_cases hf : s.final = 109
    ·rw [if_pos hf, if_pos hf]
    ·rw [if_neg hf, if_neg hf]
     by_cases hq : bT C 32 = true
     ·rw [if_pos hq, if_pos (p2.1 hq)]
     ·rw [if_neg hq, if_neg (fun h => hq (p2.2 h))]
   have := hn g.btn b0 b1
   rw [hcand] at this
   unfold hitB at this
   rw [hm, he] at this
   simp at this
theorem no_take {l : List UInt8} (ht : takeS l = none) : decM l = (⟨0, 0, 0, 0, 0⟩, false) := by unfold decM; rw [ht]
theorem no_take_hit {l : List UInt8} (ht : takeS l = none) (e : Ms) : hitB l e = false := by
 cases h : hitB l e with
 | false => rfl
 | true =>
   unfold hitB at h
   rw [Bool.and_eq_true, beq_iff_eq] at h
   have := mou_back h.1
   rw [h.2, no_take ht] at this
   simp at this
set_option maxRecDepth 100000 in
set_option maxHeartbeats 4000000 in
theorem rnumber16_any (b q : Int) (h0 : 0 ≤ b) (h1 : b ≤ 11) (hq : numbM b = q) (w : World) : Calls Tryz.prog 21 #[.int .i64 b] w fun e w' => e = .returned (.int .i64 q) ∧ Below w.heap.size w w' := by
 unfold numbM at hq
 by_cases c0 : b = 0
 ·subst c0
  have HF := Lib.hid (show 3 = q from hq)
  clear hq
  go_enter Tryz.func21, Tryz.ntmps21
  go_wp2_with fail
  go_ret
  exact ⟨ret_i HF.out, Below.refl _ _⟩
 rw [if_neg c0] at hq
 have t0 : (b == 0) = false := beq_false_of_ne c0
 by_cases c3 : b ≤ 3
 ·rw [if_pos c3] at hq
  have HF := Lib.hid hq
  have hw : IntKind.i64.wrap (b - 1) = b - 1 := by rw [IntKind.wrap_i64]; omega
  clear hq c0
  go_enter Tryz.func21, Tryz.ntmps21
  go_wp2_with fail
  go_ret
  exact ⟨ret_i HF.out, Below.refl _ _⟩
 rw [if_neg c3] at hq
 by_cases c7 : b ≤ 7
 ·rw [if_pos c7] at hq
  have HF := Lib.hid hq
  have hw : IntKind.i64.wrap (60 + b) = 60 + b := by rw [IntKind.wrap_i64]; omega
  clear hq c0
  go_enter Tryz.func21, Tryz.ntmps21
  go_wp2_with fail
  go_ret
  exact ⟨ret_i HF.out, Below.refl _ _⟩
 rw [if_neg c7] at hq
 have HF := Lib.hid hq
 have hw : IntKind.i64.wrap (120 + b) = 120 + b := by rw [IntKind.wrap_i64]; omega
 clear hq c0
 go_enter Tryz.func21, Tryz.ntmps21
 go_wp2_with fail
 go_ret
 exact ⟨ret_i HF.out, Below.refl _ _⟩
set_option maxRecDepth 100000 in
set_option maxHeartbeats 4000000 in
theorem rmarks16_any (mode btn typ x y md q : Int) (m0 : 0 ≤ md) (_m1 : md ≤ 255) (hq : marksM mode ⟨btn, typ, x, y, md⟩ = q) (w : World) : Calls Tryz.prog 22 #[.int .i64 mode, .agg #[.int .i64 btn, .int .i64 typ, .int .i64 x, .int .i64 y, .int .i64 md]] w fun e w' => e = .returned (.int .i64 q) ∧ Below w.heap.size w w' := by
 have hB := (Below.refl w.heap.size w).alloc (Nat.le_refl _) (.cells #[.int .i64 btn, .int .i64 typ, .int .i64 x, .int .i64 y, .int .i64 md] 23)
 have k0 := Blk.new w 23 #[.int .i64 btn, .int .i64 typ, .int .i64 x, .int .i64 y, .int .i64 md]
 obtain ⟨a0, a1, a2, a3, a4⟩ := Blk.cells5 k0
 obtain ⟨t, ht⟩ : ∃ t : Int, (if typ = 4 then 32 else 0) = t := ⟨_, rfl⟩
 have ht2 : 0 ≤ t ∧ t ≤ 32 := by rw [← ht]; split <;> omega
 obtain ⟨r, hr⟩ : ∃ r : Int, md % 8 = r := ⟨_, rfl⟩
 have tm : Int.tmod md 8 = r := by rw [Int.tmod_eq_emod_of_nonneg m0, hr]
 have hr2 : 0 ≤ r ∧ r < 8 := by omega
 unfold marksM at hq
 simp only at hq
 rw [ht, hr] at hq
 have w1 : IntKind.i64.wrap (4 * r) = 4 * r := by rw [IntKind.wrap_i64]; omega
 have w2 : IntKind.i64.wrap (t + 4 * r) = t + 4 * r := by rw [IntKind.wrap_i64]; omega
 by_cases h4 : typ = 4
 ·rw [if_pos h4] at ht
  subst ht
  have t4 : (typ == 4) = true := by rw [h4]; rfl
  clear h4
  by_cases h9 : mode = 9
  ·subst h9
   rw [if_neg (show ¬ ((9 : Int) ≠ 9) by decide)] at hq
   have HF := Lib.hid (show 32 = q by rw [← hq]; rfl)
   clear hq
   go_enter Tryz.func22, Tryz.ntmps22
   go_wp2_with fail
   go_ret
   exact ⟨ret_i HF.out, hB⟩
  ·have t9 : (mode != 9) = true := bne_iff_ne.2 h9
   rw [if_pos h9] at hq
   have HF := Lib.hid hq
   clear hq h9
   go_enter Tryz.func22, Tryz.ntmps22
   go_wp2_with fail
   go_ret
   exact ⟨ret_i HF.out, hB⟩
 ·rw [if_neg h4] at ht
  subst ht
  have t4 : (typ == 4) = false := beq_false_of_ne h4
  clear h4
  by_cases h9 : mode = 9
  ·subst h9
   rw [if_neg (show ¬ ((9 : Int) ≠ 9) by decide)] at hq
   have HF := Lib.hid (show 0 = q by rw [← hq]; rfl)
   clear hq
   go_enter Tryz.func22, Tryz.ntmps22
   go_wp2_with fail
   go_ret
   exact ⟨ret_i HF.out, hB⟩
  ·have t9 : (mode != 9) = true := bne_iff_ne.2 h9
   rw [if_pos h9] at hq
   have HF := Lib.hid hq
   clear hq h9
   go_enter Tryz.func22, Tryz.ntmps22
   go_wp2_with fail
   go_ret
   exact ⟨ret_i (by simpa using HF.out), hB⟩
set_option maxHeartbeats 1000000 in
theorem risPt_any (r : Int) (w : World) : Calls Tryz.prog 44 #[.int .i64 r] w fun e w' => e = .returned (.bool (isPt r)) ∧ w = w' := by
 by_cases h0 : 0 ≤ r
 ·by_cases h1 : r ≤ 1114111
  ·by_cases h2 : r < 55296
   ·go_enter Tryz.func44, Tryz.ntmps44
    go_wp2
    go_ret
    exact ⟨ret_b (((isPt_iff r).2 (by omega)).symm), rfl⟩
   ·by_cases h3 : 57343 < r
    ·go_enter Tryz.func44, Tryz.ntmps44
     go_wp2
     go_ret
     exact ⟨ret_b (((isPt_iff r).2 (by omega)).symm), rfl⟩
    ·go_enter Tryz.func44, Tryz.ntmps44
     go_wp2
     go_ret
     exact ⟨ret_b (((isPt_no r).2 (by omega)).symm), rfl⟩
  ·go_enter Tryz.func44, Tryz.ntmps44
   go_wp2
   go_ret
   exact ⟨ret_b (((isPt_no r).2 (by omega)).symm), rfl⟩
 ·go_enter Tryz.func44, Tryz.ntmps44
  go_wp2
  go_ret
  exact ⟨ret_b (((isPt_no r).2 (by omega)).symm), rfl⟩
set_option maxHeartbeats 2000000 in
theorem rPut_any (r : Int) (w : World) : Calls Tryz.prog 17 #[.int .i64 r] w (Out (putL r) w) := by
 cases h : isPt r with
 | false =>
   rw [putL_no h]
   go_enter Tryz.func17, Tryz.ntmps17
   go_wp2_with fail
   refine (risPt_any r _).mono ?_
   rintro e w1 ⟨rfl, rfl⟩
   go_wp2_with fail
   go_ret
   exact ⟨none, 0, rfl, Rd.nil _ _, Below.refl _ _⟩
 | true =>
   obtain ⟨h0, h1, h2⟩ := (isPt_iff r).1 h
   clear h2
   by_cases a1 : r < 128
   ·have e := putL_1 h a1
    have E := Lib.hid (show bs (putL r) = [.int .u8 r] by rw [e, bs1 r (by omega) (by omega)])
    have L := Lib.hid (show (putL r).length = 1 by rw [e]; rfl)
    clear e
    go_enter Tryz.func17, Tryz.ntmps17
    go_wp2_with fail
    refine (risPt_any r _).mono ?_
    rintro e w1 ⟨rfl, rfl⟩
    go_wp2_with fail
    go_ret
    exact out_lit w 5 E.out L.out
   ·by_cases a2 : r < 2048
    ·have e := putL_2 h (by omega) a2
     have E := Lib.hid (show bs (putL r) = [.int .u8 (192 + r / 64), .int .u8 (128 + r % 64)] by rw [e, bs_cons _ (by omega) (by omega), bs1 _ (by omega) (by omega)])
     have L := Lib.hid (show (putL r).length = 2 by rw [e]; rfl)
     clear e
     go_enter Tryz.func17, Tryz.ntmps17
     go_wp2_with fail
     refine (risPt_any r _).mono ?_
     rintro e w1 ⟨rfl, rfl⟩
     go_wp2_with fail
     go_ret
     exact out_lit w 5 E.out L.out
    ·by_cases a3 : r < 65536
     ·have e := putL_3 h (by omega) a3
      have E := Lib.hid (show bs (putL r) = [.int .u8 (224 + r / 4096), .int .u8 (128 + r / 64 % 64), .int .u8 (128 + r % 64)] by rw [e, bs_cons _ (by omega) (by omega), bs_cons _ (by omega) (by omega), bs1 _ (by omega) (by omega)])
      have L := Lib.hid (show (putL r).length = 3 by rw [e]; rfl)
      clear e
      go_enter Tryz.func17, Tryz.ntmps17
      go_wp2_with fail
      refine (risPt_any r _).mono ?_
      rintro e w1 ⟨rfl, rfl⟩
      go_wp2_with fail
      go_ret
      exact out_lit w 5 E.out L.out
     ·have e := putL_4 h (by omega)
      have E := Lib.hid (show bs (putL r) = [.int .u8 (240 + r / 262144), .int .u8 (128 + r / 4096 % 64), .int .u8 (128 + r / 64 % 64), .int .u8 (128 + r % 64)] by rw [e, bs_cons _ (by omega) (by omega), bs_cons _ (by omega) (by omega), bs_cons _ (by omega) (by omega), bs1 _ (by omega) (by omega)])
      have L := Lib.hid (show (putL r).length = 4 by rw [e]; rfl)
      clear e
      go_enter Tryz.func17, Tryz.ntmps17
      go_wp2_with fail
      refine (risPt_any r _).mono ?_
      rintro e w1 ⟨rfl, rfl⟩
      go_wp2_with fail
      go_ret
      exact out_lit w 5 E.out L.out
end Go.Proofs.YtjlhhelikiegdaaGreatDoor
