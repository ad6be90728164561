/-
  Layer 12's mathematics: a key's event as a sequence of its own, and what such a sequence tells. Cut out of KeyT: what names no function of any dump. Layer 2, the document's Is and Put, walked. (Nothing of the program's.) Layer 2, walked: the document's Take. A sequence of numbers, as the program's Num tells it. Cut out of LegPw. Layer 3, walked: the program's char (in a text of its own: a dump that doesn't call it can load the others). Layer 3's mathematics: a part of a sequence's parameters. Layer 3, walked: Arg, the program's and the document's. Layer 3, walked: Same, the program's (the document's: Same).
-/
import Derived.Test.YtmagokkegadmiaaGreatDoorG01
import Derived.Test.YtmagokkegadmiaaGreatDoorG03
import Derived.Test.YtmagokkegadmiaaGreatDoorG07
import Derived.Test.YtmagokkegadmiaaGreatDoorG08
import Derived.Test.YtmagokkegadmiaaGreatDoorG09
import Derived.Test.YtmagokkegadmiaaGreatDoorG10
import Derived.Test.YtmagokkegadmiaaGreatDoorG12
import Derived.Test.YtmagokkegadmiaaGreatDoorG13
import Derived.Test.YtmagokkegadmiaaGreatDoorG14
import Derived.BigQuiet
import Derived.Deep.QuietTactic
import Derived.Deep.RegionHeld3
namespace Go.Proofs.YtmagokkegadmiaaGreatDoor

/-- A key's character. -/
def charK (k : Ky) : Int := if (lookE k.code).kind = 1 then shownK k else k.code
/-- What is told with Other 1, too. -/
def lessK (k : Ky) : Bool := hasN k.mods 4 && if (lookE k.code).kind = 2 then k.code == 9 || k.code == 13 else hasN k.mods 1 || !(foldN (shownK k)).2
/-- Is there a sequence? -/
def isO (o : Int) (k : Ky) : Bool :=
  !(!mayK k || k.typ == 3 || (o != 1 && o != 2) || ((lookE k.code).kind != 1 && (lookE k.code).kind != 2) || oldN k.mods == 0 || ((lookE k.code).kind == 1 && oldN k.mods == 1) || (o == 1 && !lessK k))
def othB (p c : Int) : List UInt8 := seqB 1 126 [27, p, c]
def othL (o : Int) (k : Ky) : List UInt8 := if isO o k = true then othB (1 + oldN k.mods) (charK k) else []
theorem othL_yes {o : Int} {k : Ky} (h : isO o k = true) : othL o k = othB (1 + oldN k.mods) (charK k) := if_pos h
theorem othL_no {o : Int} {k : Ky} (h : isO o k = false) : othL o k = [] := if_neg (by rw [h]; decide)
/-- What a sequence tells. -/
def backP (l : List (List Int)) : Int × Int × Bool :=
  match l with
  | [[a], [p], [c]] => if a = 27 ∧ 2 ≤ p ∧ p ≤ 8 ∧ 0 ≤ c then (c, p - 1, true) else (0, 0, false)
  | _ => (0, 0, false)
def backS (s : Sq) (m n : Nat) : Int × Int × Bool := if m = n ∧ s.kind = 1 ∧ s.final = 126 ∧ s.priv = 0 ∧ s.inter = [] then backP s.params else (0, 0, false)
def backO (l : List UInt8) : Int × Int × Bool :=
  match takeS l with
  | some (s, m) => backS s m l.length
  | none => (0, 0, false)
theorem backS_at {s : Sq} {m n : Nat} (h : m = n ∧ s.kind = 1 ∧ s.final = 126 ∧ s.priv = 0 ∧ s.inter = []) : backS s m n = backP s.params := if_pos h
theorem backP_at (a p c : Int) : backP [[a], [p], [c]] = if a = 27 ∧ 2 ≤ p ∧ p ≤ 8 ∧ 0 ≤ c then (c, p - 1, true) else (0, 0, false) := rfl
theorem oth_may {p c : Int} (h0 : 0 ≤ p) (h1 : p ≤ 1114111) (h2 : 0 ≤ c) (h3 : c ≤ 1114111) : mayS (sqN 1 126 [27, p, c]) = 0 := may_csi (by decide) (by decide) (by simp) (by simp; omega)
/-- There and back. -/
theorem back_oth {p c : Int} (h0 : 2 ≤ p) (h1 : p ≤ 8) (h2 : 0 ≤ c) (h3 : c ≤ 1114111) : backO (othB p c) = (c, p - 1, true) := by
  have hm := oth_may (p := p) (c := c) (by omega) (by omega) h2 h3
  have ht := takeS_put hm []
  rw [List.append_nil] at ht
  unfold backO othB
  rw [seqB_is hm, ht]
  show backS (sqN 1 126 [27, p, c]) (putS (sqN 1 126 [27, p, c])).length (putS (sqN 1 126 [27, p, c])).length = _
  unfold backS
  rw [if_pos ⟨rfl, rfl, rfl, rfl, rfl⟩]
  show (if (27 : Int) = 27 ∧ 2 ≤ p ∧ p ≤ 8 ∧ 0 ≤ c then (c, p - 1, true) else (0, 0, false)) = _
  rw [if_pos ⟨rfl, h0, h1, h2⟩]
theorem back_nil : backO [] = (0, 0, false) := by decide +kernel
/-- A plain key's code is a control character's. -/
theorem plain_code : ∀ k : Fin 111, (lookE (57344 + (k.1 : Int))).kind ≠ 2 := by decide +kernel
theorem plain_is {c : Int} (h : (lookE c).kind = 2) : c = 9 ∨ c = 13 ∨ c = 27 ∨ c = 127 := by
  by_cases ho : c < 57344 ∨ 57455 ≤ c
  · rw [look_out ho] at h
    simp only at h
    unfold restN at h
    by_cases h1 : c = 9 ∨ c = 13 ∨ c = 27 ∨ c = 127
    · exact h1
    · rw [if_neg h1, if_neg (by omega), if_neg (by omega)] at h
      split at h <;> cases h
  · exfalso
    obtain ⟨k, rfl⟩ : ∃ k : Fin 111, c = 57344 + k.1 := ⟨⟨(c - 57344).toNat, by omega⟩, by simp; omega⟩
    exact plain_code k h
theorem isO_parts {o : Int} {k : Ky} (h : isO o k = true) : mayK k = true ∧ k.typ ≠ 3 ∧ (o = 1 ∨ o = 2) ∧ ((lookE k.code).kind = 1 ∨ (lookE k.code).kind = 2) ∧ oldN k.mods ≠ 0 ∧ ¬ ((lookE k.code).kind = 1 ∧ oldN k.mods = 1) ∧ (o = 1 → lessK k = true) := by
  unfold isO at h
  simp only [Bool.not_eq_true', Bool.or_eq_false_iff, Bool.not_eq_false', Bool.and_eq_false_iff, bne_eq_false_iff_eq, beq_eq_false_iff_ne] at h
  obtain ⟨⟨⟨⟨⟨⟨h1, h2⟩, h3⟩, h4⟩, h5⟩, h6⟩, h7⟩ := h
  refine ⟨h1, h2, h3, h4, h5, fun hh => ?_, fun hh => ?_⟩
  · rcases h6 with h6 | h6
    · exact h6 hh.1
    · exact h6 hh.2
  · rcases h7 with h7 | h7
    · exact absurd hh h7
    · exact h7
theorem old_rng (n : Int) : 0 ≤ oldN n ∧ oldN n < 8 := by unfold oldN; omega
theorem char_rng {k : Ky} (hm : mayK k = true) (hk : (lookE k.code).kind = 1 ∨ (lookE k.code).kind = 2) : 0 ≤ charK k ∧ charK k ≤ 1114111 := by
  unfold charK
  by_cases h : (lookE k.code).kind = 1
  · rw [if_pos h, shownK_eq]
    have := (isPt_iff _).1 (shown_pt h ((may_parts k).1 hm).2.1 (hasN k.mods 1))
    omega
  · rw [if_neg h]
    have := plain_is (hk.resolve_left h)
    omega
/-- What is told so is told back. -/
theorem back_is {o : Int} {k : Ky} (h : isO o k = true) : backO (othL o k) = (charK k, oldN k.mods, true) := by
  obtain ⟨h1, _, _, h4, h5, _, _⟩ := isO_parts h
  have hr := old_rng k.mods
  obtain ⟨c0, c1⟩ := char_rng h1 h4
  rw [othL_yes h, back_oth (by omega) (by omega) c0 c1, show 1 + oldN k.mods - 1 = oldN k.mods by omega]
theorem back_no {o : Int} {k : Ky} (h : isO o k = false) : backO (othL o k) = (0, 0, false) := by rw [othL_no h, back_nil]
/-- Two keys are told by the same bytes just if they have one character, and the same old modifiers. -/
theorem oth_same {o p : Int} {k j : Ky} (h : isO o k = true) (g : isO p j = true) : (othL o k = othL p j) ↔ (charK k = charK j ∧ oldN k.mods = oldN j.mods) := by
  constructor
  · intro e
    have h1 := back_is h
    rw [e, back_is g] at h1
    simp only [Prod.mk.injEq, and_true] at h1
    exact ⟨h1.1.symm, h1.2.symm⟩
  · rintro ⟨e1, e2⟩
    rw [othL_yes h, othL_yes g, e1, e2]
/-- With 1 no more is told so than with 2. -/
theorem oth_levels (k : Ky) : isO 0 k = false ∧ (isO 1 k = true → isO 2 k = true ∧ othL 1 k = othL 2 k) := by
  refine ⟨by unfold isO; simp, fun h => ?_⟩
  have h2 : isO 2 k = true := by
    obtain ⟨h1, h2, _, h4, h5, h6, _⟩ := isO_parts h
    unfold isO
    simp only [Bool.not_eq_true', Bool.or_eq_false_iff, Bool.not_eq_false', Bool.and_eq_false_iff, bne_eq_false_iff_eq, beq_eq_false_iff_ne]
    refine ⟨⟨⟨⟨⟨⟨h1, h2⟩, .inr (by decide)⟩, h4⟩, h5⟩, ?_⟩, .inl (by decide)⟩
    by_cases hk : (lookE k.code).kind = 1
    · exact .inr fun e => h6 ⟨hk, e⟩
    · exact .inl hk
  exact ⟨h2, by rw [othL_yes h, othL_yes h2]⟩
/-- A repeat is told as a press, a release never; other modifiers, and a text, change nothing. -/
theorem oth_types (o : Int) {k : Ky} (h : mayK k = true) {j : Int} (h0 : 0 ≤ j) (h1 : j < 32) :
    (isO o { k with typ := 2, text := ByteArray.empty, mods := k.mods % 8 + 8 * j } = isO o { k with typ := 1 } ∧ othL o { k with typ := 2, text := ByteArray.empty, mods := k.mods % 8 + 8 * j } = othL o { k with typ := 1 })
      ∧ isO o { k with typ := 3, text := ByteArray.empty, mods := k.mods % 8 + 8 * j } = false := by
  obtain ⟨⟨_, a, b, _, _⟩, _⟩ := (may_parts k).1 h
  obtain ⟨e1, e2, e3, e4⟩ := has_8 a h0
  have hm1 : mayK { k with typ := 1 } = true := may_typ h (t := 1) (by decide) (by decide)
  have hm2 : mayK { k with typ := 2, text := ByteArray.empty, mods := k.mods % 8 + 8 * j } = true := may_mods (may_mute (may_typ h (t := 2) (by decide) (by decide))) (n := k.mods % 8 + 8 * j) (by omega) (by omega)
  have hsh : shownK { k with typ := 2, text := ByteArray.empty, mods := k.mods % 8 + 8 * j } = shownK { k with typ := 1 } := by
    rw [shownK_eq, shownK_eq]
    simp only [e1]
  have hless : lessK { k with typ := 2, text := ByteArray.empty, mods := k.mods % 8 + 8 * j } = lessK { k with typ := 1 } := by
    unfold lessK
    rw [hsh]
    simp only [e1, e3]
  have hch : charK { k with typ := 2, text := ByteArray.empty, mods := k.mods % 8 + 8 * j } = charK { k with typ := 1 } := by
    unfold charK
    rw [hsh]
  have his : isO o { k with typ := 2, text := ByteArray.empty, mods := k.mods % 8 + 8 * j } = isO o { k with typ := 1 } := by
    unfold isO
    rw [hm1, hm2, hless]
    simp only [e4]
    rfl
  refine ⟨⟨his, ?_⟩, ?_⟩
  · unfold othL
    rw [his, hch]
    simp only [e4]
  · unfold isO
    simp
end Go.Proofs.YtmagokkegadmiaaGreatDoor
namespace Go.Proofs.YtmagokkegadmiaaGreatDoor
open Go.RowKit

def enV (e : En) : Value := .agg #[.int .i64 e.kind, .int .u8 e.fin, .int .i64 e.num, .int .i64 e.char, .bool e.keys]
theorem below_two {w : World} (x y : Obj) : Below w.heap.size w ((w.alloc x).alloc y) := ((Below.refl _ w).alloc (Nat.le_refl _) _).alloc (by simp) _
end Go.Proofs.YtmagokkegadmiaaGreatDoor
namespace Go.Proofs.YtmagokkegadmiaaGreatDoor
open Go.RowKit

set_option maxHeartbeats 1000000 in
theorem risPt_any (r : Int) (w : World) : Calls Tryz.prog 73 #[.int .i64 r] w fun e w' => e = .returned (.bool (isPt r)) ∧ w = w' := by
  by_cases h0 : 0 ≤ r
  · by_cases h1 : r ≤ 1114111
    · by_cases h2 : r < 55296
      · go_enter Tryz.func73, Tryz.ntmps73
        go_wp2
        go_ret
        exact ⟨ret_b (((isPt_iff r).2 (by omega)).symm), rfl⟩
      · by_cases h3 : 57343 < r
        · go_enter Tryz.func73, Tryz.ntmps73
          go_wp2
          go_ret
          exact ⟨ret_b (((isPt_iff r).2 (by omega)).symm), rfl⟩
        · go_enter Tryz.func73, Tryz.ntmps73
          go_wp2
          go_ret
          exact ⟨ret_b (((isPt_no r).2 (by omega)).symm), rfl⟩
    · go_enter Tryz.func73, Tryz.ntmps73
      go_wp2
      go_ret
      exact ⟨ret_b (((isPt_no r).2 (by omega)).symm), rfl⟩
  · go_enter Tryz.func73, Tryz.ntmps73
    go_wp2
    go_ret
    exact ⟨ret_b (((isPt_no r).2 (by omega)).symm), rfl⟩

set_option maxHeartbeats 2000000 in
theorem rPut_any (r : Int) (w : World) : Calls Tryz.prog 103 #[.int .i64 r] w (Out (putL r) w) := by
  cases h : isPt r with
  | false =>
    rw [putL_no h]
    go_enter Tryz.func103, Tryz.ntmps103
    go_wp2_with fail
    refine (risPt_any r _).mono ?_
    rintro e w1 ⟨rfl, rfl⟩
    go_wp2_with fail
    go_ret
    exact ⟨none, 0, rfl, Rd.nil _ _, Below.refl _ _⟩
  | true =>
    obtain ⟨h0, h1, h2⟩ := (isPt_iff r).1 h
    clear h2
    by_cases a1 : r < 128
    · have e := putL_1 h a1
      have E := Lib.hid (show bs (putL r) = [.int .u8 r] by rw [e, bs1 r (by omega) (by omega)])
      have L := Lib.hid (show (putL r).length = 1 by rw [e]; rfl)
      clear e
      go_enter Tryz.func103, Tryz.ntmps103
      go_wp2_with fail
      refine (risPt_any r _).mono ?_
      rintro e w1 ⟨rfl, rfl⟩
      go_wp2_with fail
      go_ret
      exact out_lit w 5 E.out L.out
    · by_cases a2 : r < 2048
      · have e := putL_2 h (by omega) a2
        have E := Lib.hid (show bs (putL r) = [.int .u8 (192 + r / 64), .int .u8 (128 + r % 64)] by rw [e, bs_cons _ (by omega) (by omega), bs1 _ (by omega) (by omega)])
        have L := Lib.hid (show (putL r).length = 2 by rw [e]; rfl)
        clear e
        go_enter Tryz.func103, Tryz.ntmps103
        go_wp2_with fail
        refine (risPt_any r _).mono ?_
        rintro e w1 ⟨rfl, rfl⟩
        go_wp2_with fail
        go_ret
        exact out_lit w 5 E.out L.out
      · by_cases a3 : r < 65536
        · have e := putL_3 h (by omega) a3
          have E := Lib.hid (show bs (putL r) = [.int .u8 (224 + r / 4096), .int .u8 (128 + r / 64 % 64), .int .u8 (128 + r % 64)] by rw [e, bs_cons _ (by omega) (by omega), bs_cons _ (by omega) (by omega), bs1 _ (by omega) (by omega)])
          have L := Lib.hid (show (putL r).length = 3 by rw [e]; rfl)
          clear e
          go_enter Tryz.func103, Tryz.ntmps103
          go_wp2_with fail
          refine (risPt_any r _).mono ?_
          rintro e w1 ⟨rfl, rfl⟩
          go_wp2_with fail
          go_ret
          exact out_lit w 5 E.out L.out
        · have e := putL_4 h (by omega)
          have E := Lib.hid (show bs (putL r) = [.int .u8 (240 + r / 262144), .int .u8 (128 + r / 4096 % 64), .int .u8 (128 + r / 64 % 64), .int .u8 (128 + r % 64)] by rw [e, bs_cons _ (by omega) (by omega), bs_cons _ (by omega) (by omega), bs_cons _ (by omega) (by omega), bs1 _ (by omega) (by omega)])
          have L := Lib.hid (show (putL r).length = 4 by rw [e]; rfl)
          clear e
          go_enter Tryz.func103, Tryz.ntmps103
          go_wp2_with fail
          refine (risPt_any r _).mono ?_
          rintro e w1 ⟨rfl, rfl⟩
          go_wp2_with fail
          go_ret
          exact out_lit w 5 E.out L.out
end Go.Proofs.YtmagokkegadmiaaGreatDoor
namespace Go.Proofs.YtmagokkegadmiaaGreatDoor
open Go.RowKit

/-- What might be. -/
def gs (l : List UInt8) (n : Nat) : Int :=
  match n, l with
  | 1, a :: _ => a.toNat
  | 2, a :: b :: _ => ((a.toNat : Int) - 192) % 256 * 64 + ((b.toNat : Int) - 128) % 256
  | 3, a :: b :: c :: _ => ((a.toNat : Int) - 224) % 256 * 4096 + ((b.toNat : Int) - 128) % 256 * 64 + ((c.toNat : Int) - 128) % 256
  | 4, a :: b :: c :: d :: _ => ((a.toNat : Int) - 240) % 256 * 262144 + ((b.toNat : Int) - 128) % 256 * 4096 + ((c.toNat : Int) - 128) % 256 * 64 + ((d.toNat : Int) - 128) % 256
  | _, _ => 0
theorem gs_bd (l : List UInt8) (n : Nat) : 0 ≤ gs l n ∧ gs l n ≤ 68000000 := by
  unfold gs
  split
  · rename_i a _
    have := a.toNat_lt
    omega
  all_goals omega
theorem gs_put {r : Int} (h : isPt r = true) (m : List UInt8) : gs (putL r ++ m) (cnt r) = r := by
  obtain ⟨h0, h1, _⟩ := (isPt_iff r).1 h
  have hc : cnt r = if r < 128 then 1 else if r < 2048 then 2 else if r < 65536 then 3 else 4 := rfl
  by_cases a1 : r < 128
  · rw [putL_1 h a1, hc, if_pos a1]
    exact byt_nat r (by omega) (by omega)
  · by_cases a2 : r < 2048
    · rw [putL_2 h (by omega) a2, hc, if_neg a1, if_pos a2]
      have b0 := byt_nat (192 + r / 64) (by omega) (by omega)
      have b1 := byt_nat (128 + r % 64) (by omega) (by omega)
      simp only [List.cons_append, List.nil_append, gs]
      rw [b0, b1]; omega
    · by_cases a3 : r < 65536
      · rw [putL_3 h (by omega) a3, hc, if_neg a1, if_neg a2, if_pos a3]
        have b0 := byt_nat (224 + r / 4096) (by omega) (by omega)
        have b1 := byt_nat (128 + r / 64 % 64) (by omega) (by omega)
        have b2 := byt_nat (128 + r % 64) (by omega) (by omega)
        simp only [List.cons_append, List.nil_append, gs]
        rw [b0, b1, b2]; omega
      · rw [putL_4 h (by omega), hc, if_neg a1, if_neg a2, if_neg a3]
        have b0 := byt_nat (240 + r / 262144) (by omega) (by omega)
        have b1 := byt_nat (128 + r / 4096 % 64) (by omega) (by omega)
        have b2 := byt_nat (128 + r / 64 % 64) (by omega) (by omega)
        have b3 := byt_nat (128 + r % 64) (by omega) (by omega)
        simp only [List.cons_append, List.nil_append, gs]
        rw [b0, b1, b2, b3]; omega
/-- Where what might be has just these bytes, it is what is told; and what is told might be. -/
theorem gs_hit {l : List UInt8} {n : Nat} (hn : 1 ≤ n) (hl : (putL (gs l n)).length = n) (h : putL (gs l n) = l.take n) : takeL l = (gs l n, n) := by
  have hp : isPt (gs l n) = true := by
    cases hp : isPt (gs l n) with
    | true => rfl
    | false => rw [putL_no hp] at hl; simp at hl; omega
  have e : l = putL (gs l n) ++ l.drop n := by rw [h, List.take_append_drop]
  have := take_put hp (l.drop n)
  rw [← e] at this
  rw [this, ← putL_length hp, hl]
theorem gs_told {l : List UInt8} {n : Nat} (hn : 1 ≤ n) (h : (takeL l).2 = n) : gs l n = (takeL l).1 ∧ (putL (gs l n)).length = n ∧ putL (gs l n) = l.take n := by
  rcases take_is l with hz | ⟨r, m, hp, e, ht⟩
  · rw [hz] at h; simp at h; omega
  · rw [ht] at h ⊢
    have h : cnt r = n := h
    subst h
    have hg : gs l (cnt r) = r := by rw [e]; exact gs_put hp m
    refine ⟨hg, by rw [hg]; exact putL_length hp, ?_⟩
    rw [hg, e, ← putL_length hp, List.take_left]

set_option maxRecDepth 100000 in
set_option maxHeartbeats 4000000 in
theorem guess_any (A : Option Addr) (c : Nat) (l : List UInt8) (n : Nat) (w : World) (hl : l.length ≤ 4294967296) (hn1 : 1 ≤ n) (hn4 : n ≤ 4) (hnl : n ≤ l.length) (hr : Rd w A (bs l)) :
    Calls Tryz.prog 102 #[.slice A l.length c, .int .i64 n] w fun e w' => e = .returned (.int .i64 (gs l n)) ∧ Below w.heap.size w w' := by
  obtain rfl | rfl | rfl | rfl : n = 1 ∨ n = 2 ∨ n = 3 ∨ n = 4 := by omega
  · match l, hnl, hr, hl with
    | a :: l, _, hr, hl =>
      obtain ⟨b, o, rfl, hb, hc⟩ := hr.at_ (by simp)
      have c0 := hc 0 (by simp)
      simp only [Nat.add_zero, List.getElem_cons_zero] at c0
      have ha := a.toNat_lt
      clear hc
      go_enter Tryz.func102, Tryz.ntmps102
      go_wp2
      go_ret
      exact ⟨rfl, Below.refl _ _⟩
  · match l, hnl, hr, hl with
    | a :: a1 :: l, _, hr, hl =>
      obtain ⟨b, o, rfl, hb, hc⟩ := hr.at_ (by simp)
      have c0 := hc 0 (by simp)
      have c1 := hc 1 (by simp)
      simp only [Nat.add_zero, List.getElem_cons_zero, List.getElem_cons_succ] at c0 c1
      have ha := a.toNat_lt
      have e0 : IntKind.u8.wrap ((a.toNat : Int) - 192) = ((a.toNat : Int) - 192) % 256 := by rw [IntKind.wrap_u8]
      have ha1 := a1.toNat_lt
      have e1 : IntKind.u8.wrap ((a1.toNat : Int) - 128) = ((a1.toNat : Int) - 128) % 256 := by rw [IntKind.wrap_u8]
      clear hc
      go_enter Tryz.func102, Tryz.ntmps102
      go_wp2
      go_quiet (fail)
      go_wp2
      go_ret
      exact ⟨rfl, below_drewN (Below.refl _ _) _⟩
  · match l, hnl, hr, hl with
    | a :: a1 :: a2 :: l, _, hr, hl =>
      obtain ⟨b, o, rfl, hb, hc⟩ := hr.at_ (by simp)
      have c0 := hc 0 (by simp)
      have c1 := hc 1 (by simp)
      have c2 := hc 2 (by simp)
      simp only [Nat.add_zero, List.getElem_cons_zero, List.getElem_cons_succ] at c0 c1 c2
      have ha := a.toNat_lt
      have e0 : IntKind.u8.wrap ((a.toNat : Int) - 224) = ((a.toNat : Int) - 224) % 256 := by rw [IntKind.wrap_u8]
      have ha1 := a1.toNat_lt
      have e1 : IntKind.u8.wrap ((a1.toNat : Int) - 128) = ((a1.toNat : Int) - 128) % 256 := by rw [IntKind.wrap_u8]
      have ha2 := a2.toNat_lt
      have e2 : IntKind.u8.wrap ((a2.toNat : Int) - 128) = ((a2.toNat : Int) - 128) % 256 := by rw [IntKind.wrap_u8]
      clear hc
      go_enter Tryz.func102, Tryz.ntmps102
      go_wp2
      go_quiet (fail)
      go_wp2
      go_ret
      exact ⟨rfl, below_drewN (Below.refl _ _) _⟩
  · match l, hnl, hr, hl with
    | a :: a1 :: a2 :: a3 :: l, _, hr, hl =>
      obtain ⟨b, o, rfl, hb, hc⟩ := hr.at_ (by simp)
      have c0 := hc 0 (by simp)
      have c1 := hc 1 (by simp)
      have c2 := hc 2 (by simp)
      have c3 := hc 3 (by simp)
      simp only [Nat.add_zero, List.getElem_cons_zero, List.getElem_cons_succ] at c0 c1 c2 c3
      have ha := a.toNat_lt
      have e0 : IntKind.u8.wrap ((a.toNat : Int) - 240) = ((a.toNat : Int) - 240) % 256 := by rw [IntKind.wrap_u8]
      have ha1 := a1.toNat_lt
      have e1 : IntKind.u8.wrap ((a1.toNat : Int) - 128) = ((a1.toNat : Int) - 128) % 256 := by rw [IntKind.wrap_u8]
      have ha2 := a2.toNat_lt
      have e2 : IntKind.u8.wrap ((a2.toNat : Int) - 128) = ((a2.toNat : Int) - 128) % 256 := by rw [IntKind.wrap_u8]
      have ha3 := a3.toNat_lt
      have e3 : IntKind.u8.wrap ((a3.toNat : Int) - 128) = ((a3.toNat : Int) - 128) % 256 := by rw [IntKind.wrap_u8]
      clear hc
      go_enter Tryz.func102, Tryz.ntmps102
      go_wp2
      go_quiet (fail)
      go_wp2
      go_ret
      exact ⟨rfl, below_drewN (Below.refl _ _) _⟩
end Go.Proofs.YtmagokkegadmiaaGreatDoor
namespace Go.Proofs.YtmagokkegadmiaaGreatDoor
open Go.RowKit

/-- What Num tells. -/
def NumQ (f : Int) (l : List Int) (n : Nat) (w : World) (e : Ending) (w' : World) : Prop := ∃ A c, e = .returned (.agg #[.int .i64 1, .int .u8 0, .slice A n c, .string ⟨#[]⟩, .int .u8 f, .string ⟨#[]⟩]) ∧ RdP w' A (l.map fun n => [n]) ∧ Below w.heap.size w w'
theorem lnum_any (f : Int) (h0 : 0 ≤ f) (h1 : f < 256) (l : List Int) (n : Nat) (hn : l.length = n) (hl : n ≤ 4294967296) (A : Option Addr) (c : Nat) (w : World) (hr : Rd w A (is_ l)) : Calls Tryz.prog 45 #[.int .u8 0, .int .u8 f, .slice A n c] w (NumQ f l n w) := by
  have h := num_any 0 (byt f) A n c l w hn hl hr
  rw [byt_nat f h0 h1] at h
  refine h.mono ?_
  rintro e w' ⟨⟨B, d, rfl, hr'⟩, hb⟩
  exact ⟨B, d, by rw [show numS 0 (byt f) l = sqN 1 f l from rfl, sqn_v hn h0 h1], hr', hb⟩
/-- The same, with its blocks' kinds. -/
def NumQN (f : Int) (l : List Int) (n : Nat) (w : World) (e : Ending) (w' : World) : Prop := ∃ A c g, e = .returned (.agg #[.int .i64 1, .int .u8 0, .slice A n c, .string ⟨#[]⟩, .int .u8 f, .string ⟨#[]⟩]) ∧ RdPN g w' A (l.map fun n => [n]) ∧ Below w.heap.size w w'
theorem lnum_anyN (f : Int) (h0 : 0 ≤ f) (h1 : f < 256) (l : List Int) (n : Nat) (hn : l.length = n) (hl : n ≤ 4294967296) (A : Option Addr) (c : Nat) (w : World) (hr : Rd w A (is_ l)) : Calls Tryz.prog 45 #[.int .u8 0, .int .u8 f, .slice A n c] w (NumQN f l n w) := by
  have h := num_anyN 0 (byt f) A n c l w hn hl hr
  rw [byt_nat f h0 h1] at h
  refine h.mono ?_
  rintro e w' ⟨⟨B, d, g, rfl, hr'⟩, hb⟩
  exact ⟨B, d, g, by rw [show numS 0 (byt f) l = sqN 1 f l from rfl, sqn_v hn h0 h1], hr', hb⟩
end Go.Proofs.YtmagokkegadmiaaGreatDoor
namespace Go.Proofs.YtmagokkegadmiaaGreatDoor
open Go.RowKit

set_option maxRecDepth 100000 in
set_option maxHeartbeats 2000000 in
theorem char_any (c : UInt8) (w : World) (h : c.toNat < 128) :
    Calls Tryz.prog 43 #[.int .u8 (c.toNat : Int)] w fun e w' => e = .returned (.string ⟨(privL c).toArray⟩) ∧ w = w' := by
  by_cases h0 : c = 0
  · subst h0
    go_enter Tryz.func43, Tryz.ntmps43
    go_wp2
    go_ret
    exact ⟨rfl, rfl⟩
  · have E := Lib.hid (show privL c = [c] from if_neg h0)
    have n0 : c.toNat ≠ 0 := fun e => h0 (UInt8.toNat_inj.1 e)
    have t0 : ((c.toNat : Int) == 0) = false := beq_false_of_ne (by omega)
    clear h0 n0
    go_enter Tryz.func43, Tryz.ntmps43
    go_wp2
    go_ret
    exact ⟨by rw [E.out, ← char_str c h]; rfl, rfl⟩
end Go.Proofs.YtmagokkegadmiaaGreatDoor
namespace Go.Proofs.YtmagokkegadmiaaGreatDoor

/-- The first part of a parameter; or another number. -/
def headI (o : Int) : List Int → Int
  | n :: _ => if n < 0 then o else n
  | [] => o
def argL (ps : List (List Int)) (i o : Int) : Int := if i < 0 ∨ (ps.length : Int) ≤ i then o else headI o (ps.getD i.toNat [])
end Go.Proofs.YtmagokkegadmiaaGreatDoor
namespace Go.Proofs.YtmagokkegadmiaaGreatDoor
open Go.RowKit

set_option maxRecDepth 100000 in
set_option maxHeartbeats 4000000 in
theorem parg_any (s : Sq) (A : Option Addr) (c : Nat) (i o v : Int) (w : World) (hv : argL s.params i o = v) (hi0 : -9223372036854775808 ≤ i) (hi1 : i ≤ 9223372036854775807) (hl : s.params.length ≤ 4294967296) (hr : RdP w A s.params) :
    Calls Tryz.prog 27 #[sqV s A c, .int .i64 i, .int .i64 o] w fun e w' => e = .returned (.int .i64 v) ∧ Below w.heap.size w w' := by
  have hB : ∀ o, Below w.heap.size w (w.alloc o) := fun o => (Below.refl _ w).alloc (Nat.le_refl _) _
  have hr2 := hr.alloc (.cells (seqC s A c) 52)
  unfold seqC at hr2
  obtain ⟨np, hnp⟩ : ∃ np, s.params.length = np := ⟨_, rfl⟩
  have HNP := Lib.hid hnp
  rw [hnp] at hl hr2
  have HV := Lib.hid hv
  clear hv hr
  unfold sqV
  rw [hnp]
  clear hnp
  by_cases h1 : i < 0
  · have E := Lib.hid (show o = v by rw [← HV.out]; unfold argL; rw [if_pos (by omega)])
    go_enter Tryz.func27, Tryz.ntmps27
    go_wp2_with fail
    go_ret
    exact ⟨ret_i E.out, hB _⟩
  · by_cases h2 : (np : Int) ≤ i
    · have E := Lib.hid (show o = v by rw [← HV.out]; unfold argL; rw [if_pos (by rw [HNP.out]; omega)])
      go_enter Tryz.func27, Tryz.ntmps27
      go_wp2_with fail
      go_ret
      exact ⟨ret_i E.out, hB _⟩
    · obtain ⟨k, rfl⟩ : ∃ k : Nat, i = (k : Int) := ⟨i.toNat, by omega⟩
      have hk : k < np := by omega
      have hk1 : (k : Int) < (np : Int) := by omega
      have hk0 : (0 : Int) ≤ (k : Int) := by omega
      have hkp : k < s.params.length := by rw [HNP.out]; exact hk
      clear h1 h2
      obtain ⟨b, oo, hA, hb, hcc⟩ := hr2 (by rw [HNP.out]; omega)
      obtain ⟨A', c', hck, hrk⟩ := hcc k hkp
      cases hA
      obtain ⟨p, hp⟩ : ∃ p, s.params[k]'hkp = p := ⟨_, rfl⟩
      rw [hp] at hck hrk
      have HAL := Lib.hid (show headI o p = v by
        rw [← HV.out]
        unfold argL
        rw [if_neg (by rw [HNP.out]; omega), Int.toNat_natCast, List.getD_eq_getElem?_getD, List.getElem?_eq_getElem hkp, hp]; rfl)
      clear hp hcc
      cases p with
      | nil =>
        have E := Lib.hid (show o = v from HAL.out)
        clear HAL
        go_enter Tryz.func27, Tryz.ntmps27
        go_wp2_with fail
        go_ret
        exact ⟨ret_i E.out, hB _⟩
      | cons x p =>
        obtain ⟨b2, o2, hA2, hb2, hc2⟩ := hrk.int_at (by simp)
        cases hA2
        have hc0 := hc2 0 (by simp)
        rw [Nat.add_zero, List.getElem_cons_zero] at hc0
        obtain ⟨m, hm⟩ : ∃ m, (x :: p).length = m := ⟨_, rfl⟩
        have hm1 : 0 < m := by rw [← hm]; simp
        rw [hm] at hck
        have t1 : ((m : Int) == 0) = false := beq_false_of_ne (by omega)
        clear hc2 hrk hm
        by_cases hx : x < 0
        · have E := Lib.hid (show o = v by have : (if x < 0 then o else x) = v := HAL.out; rw [if_pos hx] at this; exact this)
          clear HAL
          go_enter Tryz.func27, Tryz.ntmps27
          go_wp2_with fail
          go_ret
          exact ⟨ret_i E.out, hB _⟩
        · have E := Lib.hid (show x = v by have : (if x < 0 then o else x) = v := HAL.out; rw [if_neg hx] at this; exact this)
          clear HAL
          go_enter Tryz.func27, Tryz.ntmps27
          go_wp2_with fail
          go_ret
          exact ⟨ret_i E.out, hB _⟩

end Go.Proofs.YtmagokkegadmiaaGreatDoor
namespace Go.Proofs.YtmagokkegadmiaaGreatDoor
open Go.RowKit

set_option maxRecDepth 100000 in
set_option maxHeartbeats 8000000 in
theorem psame_any (s t : Sq) (A B : Option Addr) (c d : Nat) (q : Bool) (w : World) (hq : sameB s t = q) (hl : s.params.length ≤ 4294967296) (hl2 : t.params.length ≤ 4294967296) (hp : ∀ p ∈ s.params, p.length ≤ 4294967296) (hp2 : ∀ p ∈ t.params, p.length ≤ 4294967296) (hra : RdP w A s.params) (hrb : RdP w B t.params) :
    Calls Tryz.prog 28 #[sqV s A c, sqV t B d] w fun e w' => e = .returned (.bool q) ∧ Below w.heap.size w w' := by
  have hB : ∀ (x y : Obj), Below w.heap.size w ((w.alloc x).alloc y) := fun x y => ((Below.refl _ w).alloc (Nat.le_refl _) _).alloc (by simp) _
  obtain ⟨k, pv, ps, it, f, dd⟩ := s
  obtain ⟨k', pv', ps', it', f', dd'⟩ := t
  have HQ := Lib.hid hq
  have HP := Lib.hid hp
  have HP2 := Lib.hid hp2
  clear hq hp hp2
  dsimp only at hl hl2 hra hrb HP HP2
  unfold sqV
  dsimp only
  by_cases h1 : k = k'
  · subst h1
    by_cases h2 : pv = pv'
    · subst h2
      by_cases h4 : it = it'
      · subst h4
        by_cases h5 : f = f'
        · subst h5
          by_cases h6 : dd = dd'
          · subst h6
            have HD := Lib.hid (show decide (ps = ps') = q by rw [← HQ.out]; simp [sameB])
            obtain ⟨n, hn⟩ : ∃ n, ps.length = n := ⟨_, rfl⟩
            obtain ⟨m, hm⟩ : ∃ m, ps'.length = m := ⟨_, rfl⟩
            have HN := Lib.hid hn
            have HM := Lib.hid hm
            rw [hn] at hl ⊢
            rw [hm] at hl2 ⊢
            clear hn hm
            have hra2 := hra.below (hB (.cells #[.int .i64 k, .int .u8 (pv.toNat : Int), .slice A n c, .string ⟨it.toArray⟩, .int .u8 (f.toNat : Int), .string ⟨dd.toArray⟩] 52) (.cells #[.int .i64 k, .int .u8 (pv.toNat : Int), .slice B m d, .string ⟨it.toArray⟩, .int .u8 (f.toNat : Int), .string ⟨dd.toArray⟩] 52))
            have hrb2 := hrb.below (hB (.cells #[.int .i64 k, .int .u8 (pv.toNat : Int), .slice A n c, .string ⟨it.toArray⟩, .int .u8 (f.toNat : Int), .string ⟨dd.toArray⟩] 52) (.cells #[.int .i64 k, .int .u8 (pv.toNat : Int), .slice B m d, .string ⟨it.toArray⟩, .int .u8 (f.toNat : Int), .string ⟨dd.toArray⟩] 52))
            go_enter Tryz.func28, Tryz.ntmps28
            go_wp2_with fail
            refine (eqf_any A B n m c d ps ps' q _ HN.out HM.out HD.out hl hl2 HP.out HP2.out hra2 hrb2).mono ?_
            rintro e w1 ⟨rfl, hb1⟩
            go_wp2_with fail
            go_ret
            exact ⟨rfl, (hB _ _).trans (hb1.mono (by simp; omega))⟩
          · have HF := Lib.hid (show false = q by rw [← HQ.out]; simp [sameB, h6])
            go_enter Tryz.func28, Tryz.ntmps28
            go_wp2_with fail
            go_ret
            exact ⟨ret_b HF.out, hB _ _⟩
        · have HF := Lib.hid (show false = q by rw [← HQ.out]; simp [sameB, h5])
          obtain ⟨n2, n3⟩ := byte_ne h5
          clear h5
          go_enter Tryz.func28, Tryz.ntmps28
          go_wp2_with fail
          go_ret
          exact ⟨ret_b HF.out, hB _ _⟩
      · have HF := Lib.hid (show false = q by rw [← HQ.out]; simp [sameB, h4])
        go_enter Tryz.func28, Tryz.ntmps28
        go_wp2_with fail
        go_ret
        exact ⟨ret_b HF.out, hB _ _⟩
    · have HF := Lib.hid (show false = q by rw [← HQ.out]; simp [sameB, h2])
      obtain ⟨n2, n3⟩ := byte_ne h2
      clear h2
      go_enter Tryz.func28, Tryz.ntmps28
      go_wp2_with fail
      go_ret
      exact ⟨ret_b HF.out, hB _ _⟩
  · have HF := Lib.hid (show false = q by rw [← HQ.out]; simp [sameB, h1])
    have n2 : (k == k') = false := beq_false_of_ne h1
    have n3 : (k != k') = true := by simp [bne, n2]
    clear h1
    go_enter Tryz.func28, Tryz.ntmps28
    go_wp2_with fail
    go_ret
    exact ⟨ret_b HF.out, hB _ _⟩

end Go.Proofs.YtmagokkegadmiaaGreatDoor
