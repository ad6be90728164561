/-
  Layer 12's mathematics: a key's event as a sequence of its own, and what such a sequence tells. Cut out of KeyT: what names no function of any dump. Layer 2, walked: a code point's bytes, laid behind others. Layer 2, walked: Put, the program's and the document's. Layer 10, the landed mods: Old and Shown. A sequence of numbers, as the program's Num tells it. Cut out of LegPw. Layer 3, walked: the program's Put. Layer 3's mathematics: a part of a sequence's parameters.
-/
import Derived.Test.YtmagokkegadmiaaDoorG01
import Derived.Test.YtmagokkegadmiaaDoorG02
import Derived.Test.YtmagokkegadmiaaDoorG03
import Derived.Test.YtmagokkegadmiaaDoorG04
import Derived.Test.YtmagokkegadmiaaDoorG08
import Derived.Test.YtmagokkegadmiaaDoorG09
import Derived.Test.YtmagokkegadmiaaDoorG13
import Derived.Test.YtmagokkegadmiaaDoorG15
import Derived.Test.YtmagokkegadmiaaDoorG16
import Derived.Test.YtmagokkegadmiaaDoorG17
import Derived.Deep.RegionLaw
import Derived.BigRegion
import Derived.Laws.BitsLemmas
import Derived.Deep.RegionHeld
namespace Go.Proofs.YtmagokkegadmiaaDoor

/-- A key's character. -/
def charK (k : Ky) : Int := if (lookE k.code).kind = 1 then shownK k else k.code
/-- What is told with Other 1, too. -/
def lessK (k : Ky) : Bool := hasN k.mods 4 && if (lookE k.code).kind = 2 then k.code == 9 || k.code == 13 else hasN k.mods 1 || !(foldN (shownK k)).2
/-- Is there a sequence? -/
def isO (o : Int) (k : Ky) : Bool :=
  !(!mayK k || k.typ == 3 || (o != 1 && o != 2) || ((lookE k.code).kind != 1 && (lookE k.code).kind != 2) || oldN k.mods == 0 || ((lookE k.code).kind == 1 && oldN k.mods == 1) || (o == 1 && !lessK k))
def othB (p c : Int) : List UInt8 := seqB 1 126 [27, p, c]
def othL (o : Int) (k : Ky) : List UInt8 := if isO o k = true then othB (1 + oldN k.mods) (charK k) else []
theorem othL_yes {o : Int} {k : Ky} (h : isO o k = true) : othL o k = othB (1 + oldN k.mods) (charK k) := if_pos h
theorem othL_no {o : Int} {k : Ky} (h : isO o k = false) : othL o k = [] := if_neg (by rw [h]; decide)
/-- What a sequence tells. -/
def backP (l : List (List Int)) : Int × Int × Bool :=
  match l with
  | [[a], [p], [c]] => if a = 27 ∧ 2 ≤ p ∧ p ≤ 8 ∧ 0 ≤ c then (c, p - 1, true) else (0, 0, false)
  | _ => (0, 0, false)
def backS (s : Sq) (m n : Nat) : Int × Int × Bool := if m = n ∧ s.kind = 1 ∧ s.final = 126 ∧ s.priv = 0 ∧ s.inter = [] then backP s.params else (0, 0, false)
def backO (l : List UInt8) : Int × Int × Bool :=
  match takeS l with
  | some (s, m) => backS s m l.length
  | none => (0, 0, false)
theorem backS_at {s : Sq} {m n : Nat} (h : m = n ∧ s.kind = 1 ∧ s.final = 126 ∧ s.priv = 0 ∧ s.inter = []) : backS s m n = backP s.params := if_pos h
theorem backP_at (a p c : Int) : backP [[a], [p], [c]] = if a = 27 ∧ 2 ≤ p ∧ p ≤ 8 ∧ 0 ≤ c then (c, p - 1, true) else (0, 0, false) := rfl
theorem oth_may {p c : Int} (h0 : 0 ≤ p) (h1 : p ≤ 1114111) (h2 : 0 ≤ c) (h3 : c ≤ 1114111) : mayS (sqN 1 126 [27, p, c]) = 0 := may_csi (by decide) (by decide) (by simp) (by simp; omega)
/-- There and back. -/
theorem back_oth {p c : Int} (h0 : 2 ≤ p) (h1 : p ≤ 8) (h2 : 0 ≤ c) (h3 : c ≤ 1114111) : backO (othB p c) = (c, p - 1, true) := by
  have hm := oth_may (p := p) (c := c) (by omega) (by omega) h2 h3
  have ht := takeS_put hm []
  rw [List.append_nil] at ht
  unfold backO othB
  rw [seqB_is hm, ht]
  show backS (sqN 1 126 [27, p, c]) (putS (sqN 1 126 [27, p, c])).length (putS (sqN 1 126 [27, p, c])).length = _
  unfold backS
  rw [if_pos ⟨rfl, rfl, rfl, rfl, rfl⟩]
  show (if (27 : Int) = 27 ∧ 2 ≤ p ∧ p ≤ 8 ∧ 0 ≤ c then (c, p - 1, true) else (0, 0, false)) = _
  rw [if_pos ⟨rfl, h0, h1, h2⟩]
theorem back_nil : backO [] = (0, 0, false) := by decide +kernel
/-- A plain key's code is a control character's. -/
theorem plain_code : ∀ k : Fin 111, (lookE (57344 + (k.1 : Int))).kind ≠ 2 := by decide +kernel
theorem plain_is {c : Int} (h : (lookE c).kind = 2) : c = 9 ∨ c = 13 ∨ c = 27 ∨ c = 127 := by
  by_cases ho : c < 57344 ∨ 57455 ≤ c
  · rw [look_out ho] at h
    simp only at h
    unfold restN at h
    by_cases h1 : c = 9 ∨ c = 13 ∨ c = 27 ∨ c = 127
    · exact h1
    · rw [if_neg h1, if_neg (by omega), if_neg (by omega)] at h
      split at h <;> cases h
  · exfalso
    obtain ⟨k, rfl⟩ : ∃ k : Fin 111, c = 57344 + k.1 := ⟨⟨(c - 57344).toNat, by omega⟩, by simp; omega⟩
    exact plain_code k h
theorem isO_parts {o : Int} {k : Ky} (h : isO o k = true) : mayK k = true ∧ k.typ ≠ 3 ∧ (o = 1 ∨ o = 2) ∧ ((lookE k.code).kind = 1 ∨ (lookE k.code).kind = 2) ∧ oldN k.mods ≠ 0 ∧ ¬ ((lookE k.code).kind = 1 ∧ oldN k.mods = 1) ∧ (o = 1 → lessK k = true) := by
  unfold isO at h
  simp only [Bool.not_eq_true', Bool.or_eq_false_iff, Bool.not_eq_false', Bool.and_eq_false_iff, bne_eq_false_iff_eq, beq_eq_false_iff_ne] at h
  obtain ⟨⟨⟨⟨⟨⟨h1, h2⟩, h3⟩, h4⟩, h5⟩, h6⟩, h7⟩ := h
  refine ⟨h1, h2, h3, h4, h5, fun hh => ?_, fun hh => ?_⟩
  · rcases h6 with h6 | h6
    · exact h6 hh.1
    · exact h6 hh.2
  · rcases h7 with h7 | h7
    · exact absurd hh h7
    · exact h7
theorem old_rng (n : Int) : 0 ≤ oldN n ∧ oldN n < 8 := by unfold oldN; omega
theorem char_rng {k : Ky} (hm : mayK k = true) (hk : (lookE k.code).kind = 1 ∨ (lookE k.code).kind = 2) : 0 ≤ charK k ∧ charK k ≤ 1114111 := by
  unfold charK
  by_cases h : (lookE k.code).kind = 1
  · rw [if_pos h, shownK_eq]
    have := (isPt_iff _).1 (shown_pt h ((may_parts k).1 hm).2.1 (hasN k.mods 1))
    omega
  · rw [if_neg h]
    have := plain_is (hk.resolve_left h)
    omega
/-- What is told so is told back. -/
theorem back_is {o : Int} {k : Ky} (h : isO o k = true) : backO (othL o k) = (charK k, oldN k.mods, true) := by
  obtain ⟨h1, _, _, h4, h5, _, _⟩ := isO_parts h
  have hr := old_rng k.mods
  obtain ⟨c0, c1⟩ := char_rng h1 h4
  rw [othL_yes h, back_oth (by omega) (by omega) c0 c1, show 1 + oldN k.mods - 1 = oldN k.mods by omega]
theorem back_no {o : Int} {k : Ky} (h : isO o k = false) : backO (othL o k) = (0, 0, false) := by rw [othL_no h, back_nil]
/-- Two keys are told by the same bytes just if they have one character, and the same old modifiers. -/
theorem oth_same {o p : Int} {k j : Ky} (h : isO o k = true) (g : isO p j = true) : (othL o k = othL p j) ↔ (charK k = charK j ∧ oldN k.mods = oldN j.mods) := by
  constructor
  · intro e
    have h1 := back_is h
    rw [e, back_is g] at h1
    simp only [Prod.mk.injEq, and_true] at h1
    exact ⟨h1.1.symm, h1.2.symm⟩
  · rintro ⟨e1, e2⟩
    rw [othL_yes h, othL_yes g, e1, e2]
/-- With 1 no more is told so than with 2. -/
theorem oth_levels (k : Ky) : isO 0 k = false ∧ (isO 1 k = true → isO 2 k = true ∧ othL 1 k = othL 2 k) := by
  refine ⟨by unfold isO; simp, fun h => ?_⟩
  have h2 : isO 2 k = true := by
    obtain ⟨h1, h2, _, h4, h5, h6, _⟩ := isO_parts h
    unfold isO
    simp only [Bool.not_eq_true', Bool.or_eq_false_iff, Bool.not_eq_false', Bool.and_eq_false_iff, bne_eq_false_iff_eq, beq_eq_false_iff_ne]
    refine ⟨⟨⟨⟨⟨⟨h1, h2⟩, .inr (by decide)⟩, h4⟩, h5⟩, ?_⟩, .inl (by decide)⟩
    by_cases hk : (lookE k.code).kind = 1
    · exact .inr fun e => h6 ⟨hk, e⟩
    · exact .inl hk
  exact ⟨h2, by rw [othL_yes h, othL_yes h2]⟩
/-- A repeat is told as a press, a release never; other modifiers, and a text, change nothing. -/
theorem oth_types (o : Int) {k : Ky} (h : mayK k = true) {j : Int} (h0 : 0 ≤ j) (h1 : j < 32) :
    (isO o { k with typ := 2, text := ByteArray.empty, mods := k.mods % 8 + 8 * j } = isO o { k with typ := 1 } ∧ othL o { k with typ := 2, text := ByteArray.empty, mods := k.mods % 8 + 8 * j } = othL o { k with typ := 1 })
      ∧ isO o { k with typ := 3, text := ByteArray.empty, mods := k.mods % 8 + 8 * j } = false := by
  obtain ⟨⟨_, a, b, _, _⟩, _⟩ := (may_parts k).1 h
  obtain ⟨e1, e2, e3, e4⟩ := has_8 a h0
  have hm1 : mayK { k with typ := 1 } = true := may_typ h (t := 1) (by decide) (by decide)
  have hm2 : mayK { k with typ := 2, text := ByteArray.empty, mods := k.mods % 8 + 8 * j } = true := may_mods (may_mute (may_typ h (t := 2) (by decide) (by decide))) (n := k.mods % 8 + 8 * j) (by omega) (by omega)
  have hsh : shownK { k with typ := 2, text := ByteArray.empty, mods := k.mods % 8 + 8 * j } = shownK { k with typ := 1 } := by
    rw [shownK_eq, shownK_eq]
    simp only [e1]
  have hless : lessK { k with typ := 2, text := ByteArray.empty, mods := k.mods % 8 + 8 * j } = lessK { k with typ := 1 } := by
    unfold lessK
    rw [hsh]
    simp only [e1, e3]
  have hch : charK { k with typ := 2, text := ByteArray.empty, mods := k.mods % 8 + 8 * j } = charK { k with typ := 1 } := by
    unfold charK
    rw [hsh]
  have his : isO o { k with typ := 2, text := ByteArray.empty, mods := k.mods % 8 + 8 * j } = isO o { k with typ := 1 } := by
    unfold isO
    rw [hm1, hm2, hless]
    simp only [e4]
    rfl
  refine ⟨⟨his, ?_⟩, ?_⟩
  · unfold othL
    rw [his, hch]
    simp only [e4]
  · unfold isO
    simp
end Go.Proofs.YtmagokkegadmiaaDoor
namespace Go.Proofs.YtmagokkegadmiaaDoor
open Go.RowKit

def enV (e : En) : Value := .agg #[.int .i64 e.kind, .int .u8 e.fin, .int .i64 e.num, .int .i64 e.char, .bool e.keys]
theorem below_two {w : World} (x y : Obj) : Below w.heap.size w ((w.alloc x).alloc y) := ((Below.refl _ w).alloc (Nat.le_refl _) _).alloc (by simp) _
end Go.Proofs.YtmagokkegadmiaaDoor
namespace Go.Proofs.YtmagokkegadmiaaDoor
open Go.RowKit

theorem Tryd.u8info : (Tryd.prog.info? 5).map (fun i => (i.zero, i.size, i.bytes)) = some (some (.int .u8 0), 1, 1) := by kernel_rfl

/-- 64, so many times by itself. -/
def wei : Nat → Int
  | 0 => 1
  | k + 1 => wei k * 64
theorem wei_pos (k : Nat) : 1 ≤ wei k := by
  induction k with
  | zero => exact Int.le_refl _
  | succ k ih => unfold wei; omega
theorem wei_le {k : Nat} (h : k ≤ 3) : wei k ≤ 262144 := by
  obtain rfl | rfl | rfl | rfl : k = 0 ∨ k = 1 ∨ k = 2 ∨ k = 3 := by omega
  all_goals simp [wei]
/-- The bytes behind the first one, k of them. -/
def tailL (r : Int) : Nat → List UInt8
  | 0 => []
  | k + 1 => byt (128 + r / wei k % 64) :: tailL r k
theorem tailL_length (r : Int) (k : Nat) : (tailL r k).length = k := by
  induction k with
  | zero => rfl
  | succ k ih => simp [tailL, ih]
/-- A code point's size and bytes, by how many follow. -/
theorem put_split {r : Int} (h : isPt r = true) : ∃ (j : Nat) (least lead : Int), j ≤ 3 ∧ cnt r = j + 1 ∧ szA (ixP r 4) = #[.int .i64 ((j : Int) + 1), .int .i64 least, .int .i64 lead] ∧ 0 ≤ lead ∧ 0 ≤ lead + r / wei j ∧ lead + r / wei j ≤ 255 ∧ 0 ≤ r / wei j ∧ r / wei j ≤ 255 ∧ lead ≤ 240 ∧
    putL r = byt (lead + r / wei j) :: tailL r j := by
  obtain ⟨h0, h1, _⟩ := (isPt_iff r).1 h
  have w0 : wei 0 = 1 := rfl
  have w1 : wei 1 = 64 := rfl
  have w2 : wei 2 = 4096 := rfl
  have w3 : wei 3 = 262144 := rfl
  by_cases a1 : r < 128
  · refine ⟨0, 0, 0, by omega, by simp [cnt, a1], ?_, by omega, ?_, ?_, ?_, ?_, by omega, ?_⟩
    · rw [show ixP r 4 = 0 by unfold ixP; (repeat' split) <;> omega]; rfl
    · rw [w0]; omega
    · rw [w0]; omega
    · rw [w0]; omega
    · rw [w0]; omega
    · rw [putL_1 h a1, w0, Int.ediv_one, Int.zero_add]; rfl
  · by_cases a2 : r < 2048
    · refine ⟨1, 128, 192, by omega, by simp [cnt, a1, a2], ?_, by omega, ?_, ?_, ?_, ?_, by omega, ?_⟩
      · rw [show ixP r 4 = 1 by unfold ixP; (repeat' split) <;> omega]; rfl
      · rw [w1]; omega
      · rw [w1]; omega
      · rw [w1]; omega
      · rw [w1]; omega
      · rw [putL_2 h (by omega) a2, w1]; simp only [tailL, w0, Int.ediv_one]
    · by_cases a3 : r < 65536
      · refine ⟨2, 2048, 224, by omega, by simp [cnt, a1, a2, a3], ?_, by omega, ?_, ?_, ?_, ?_, by omega, ?_⟩
        · rw [show ixP r 4 = 2 by unfold ixP; (repeat' split) <;> omega]; rfl
        · rw [w2]; omega
        · rw [w2]; omega
        · rw [w2]; omega
        · rw [w2]; omega
        · rw [putL_3 h (by omega) a3, w2]; simp only [tailL, w0, w1, Int.ediv_one]
      · refine ⟨3, 65536, 240, by omega, by simp [cnt, a1, a2, a3], ?_, by omega, ?_, ?_, ?_, ?_, by omega, ?_⟩
        · rw [show ixP r 4 = 3 by unfold ixP; (repeat' split) <;> omega]; rfl
        · rw [w3]; omega
        · rw [w3]; omega
        · rw [w3]; omega
        · rw [w3]; omega
        · rw [putL_4 h (by omega), w3]; simp only [tailL, w0, w1, w2, Int.ediv_one]

theorem tail_step (ys : List Value) (r Y : Int) (j : Nat) (h : Y = wei j) : ys ++ bs [byt (128 + r / Y % 64)] ++ bs (tailL r j) = ys ++ bs (tailL r (j + 1)) := by
  subst h
  rw [List.append_assoc]
  rfl

set_option maxRecDepth 100000 in
set_option maxHeartbeats 4000000 in
theorem put_any (r : Int) (h : isPt r = true) (base : Nat) (v : Value) (n : Nat) (xs : List Value) (w : World) (hs : Siz w) (hown : Own w base 5 1 v n xs) (hbase : base ≤ w.heap.size) (hn : n ≤ 4294967296) :
    Calls Tryd.prog 68 #[v, .int .i64 r] w fun e w' => ∃ v', e = .returned v' ∧ Own w' base 5 1 v' (n + cnt r) (xs ++ bs (putL r)) ∧ Below base w w' := by
  obtain ⟨i0, hi, hz0, hz1, hz2⟩ := info_parts Tryd.u8info
  obtain ⟨j, least, lead, hj, hc, hz, l0, l1, l2, l3, l4, l5, hp⟩ := put_split h
  obtain ⟨h0, h1, _⟩ := (isPt_iff r).1 h
  have HF := byt_val (lead + r / wei j) l1 (by omega)
  obtain ⟨f, hf⟩ : ∃ f, byt (lead + r / wei j) = f := ⟨_, rfl⟩
  rw [hf] at hp HF
  rw [hc, hp]
  have HG := Lib.hid HF
  clear hf hp hc HF
  go_enter Tryd.func68, Tryd.ntmps68
  go_wp2_with fail
  refine (sizeOf_any r _ hs).mono ?_
  rw [hz]
  rintro e w1 ⟨rfl, hb1⟩
  go_wp2_with fail
  have hown1 : Own w1 base 5 1 v n xs := hown.behind hb1
  have hB1 : Below base w w1 := hb1.mono hbase
  have hs1 := hb1.size
  have p1 := Blk.new w1 123 #[.int .i64 ((j : Int) + 1), .int .i64 least, .int .i64 lead]
  have g2 := p1.cell 2
  clear hb1 hz
  go_loop [6, 12] (fun a i => ∃ k : Nat, k ≤ j ∧ a = .int .i64 (wei k) ∧ i = .int .i64 k) (fun _ i => j - (intOf i).toNat)
  case atStart => exact ⟨0, Nat.zero_le _, rfl, rfl⟩
  case round =>
    obtain ⟨k, hk, rfl, rfl⟩ := hrel
    by_cases hlt : k < j
    · have b1 := wei_pos k
      have b2 := wei_le (k := k) (by omega)
      have e1 : wei (k + 1) = wei k * 64 := rfl
      have E1 := Lib.hid e1
      clear e1
      go_wp2
      go_round
      case rel => exact ⟨k + 1, by omega, by rw [E1.out], by go_num⟩
      case measure => simp [intOf]; omega
    · obtain rfl : k = j := by omega
      have b1 := wei_pos k
      have b2 := wei_le (k := k) (by omega)
      have e1 : r.tdiv (wei k) = r / wei k := Int.tdiv_eq_ediv_of_nonneg h0
      have e2 : IntKind.i64.wrap (r / wei k) = r / wei k := IntWalk.i64_in _ (by omega)
      have e3 : IntKind.i64.wrap (lead + r / wei k) = lead + r / wei k := IntWalk.i64_in _ (by omega)
      have e4 : IntKind.u8.wrap (lead + r / wei k) = lead + r / wei k := by rw [IntKind.wrap_u8]; omega
      have hB2 : Below base w (w1.alloc (.cells #[.int .i64 ((k : Int) + 1), .int .i64 least, .int .i64 lead] 123)) := hB1.alloc (Nat.le_trans hbase hs1) _
      have hownA : ∀ o, Own ((w1.alloc (.cells #[.int .i64 ((k : Int) + 1), .int .i64 least, .int .i64 lead] 123)).alloc o).drew base 5 1 v n xs := fun o => ((hown1.alloc _).alloc o).drew
      have hBA : ∀ o, Below base w ((w1.alloc (.cells #[.int .i64 ((k : Int) + 1), .int .i64 least, .int .i64 lead] 123)).alloc o).drew := fun o => (hB2.alloc (Nat.le_trans hbase hB2.size) o).drew
      have hrA : ∀ x, Rd ((w1.alloc (.cells #[.int .i64 ((k : Int) + 1), .int .i64 least, .int .i64 lead] 123)).alloc (.cells #[x] 5)).drew (some ⟨w1.heap.size + 1, 0, none⟩) [x] := fun x => by
        have := rd_lit (w1.alloc (.cells #[.int .i64 ((k : Int) + 1), .int .i64 least, .int .i64 lead] 123)) x 5
        rw [World.size_alloc] at this
        exact this
      have hw0 : ¬ wei k = 0 := by omega
      have h63 : n + 1 ≤ maxLen := by simp only [maxLen]; omega
      have hlim : (n + 1) * 1 ≤ 140737488355328 := by omega
      have one1 : ∀ x : Int, ∀ u ∈ [Value.int .u8 x], u.oneCell' = true := fun x => ints_one [x]
      go_wp2
      go_region_law (refine step_app _ rfl (.tmp 17) (.tmp 25) 27 rfl base 5 i0 _ 1 1 Tryd.underlying27 hi hz0 hz1 hz2 rfl Nat.one_pos v n xs (by simp [Act.eval]) (hownA _) (some ⟨w1.heap.size + 1, 0, none⟩) 1 1 _ (by simp [Act.eval]) rfl (hrA _) (one1 _) h63 hlim (Nat.le_trans hbase (hBA _).size) ?_; intro v' w' hown' hg')
      all_goals
        have hB3 : Below base w w' := (hBA _).grown hg' (Nat.le_trans hbase (hBA _).size) (fun g hg => (hown1.lt g hg).1)
        rw [HG.out] at hown'
        clear hg' hBA hownA hrA hB2 one1 h63 hlim e1 e2 e3 e4 hw0 p1 g2 hown1 hB1 hs1
        clear l1 l2 l3 l4 HG
        go_wp2
        simp only [Act.put, List.getElem_toArray, List.getElem_cons_succ, List.getElem_cons_zero, List.setIfInBounds_toArray, List.set_cons_zero]
        go_loopw [0, 6] (fun a wt wr => ∃ (j m : Nat) (ys : List Value), j ≤ k ∧ wt = .int .i64 (wei j) ∧ Own wr base 5 1 a m ys ∧ m + j = n + (k + 1) ∧ ys ++ bs (tailL r j) = xs ++ bs (f :: tailL r k) ∧ Below base w wr) (fun _ wt _ => (intOf wt).toNat)
        case atStart => exact ⟨k, n + 1, _, Nat.le_refl _, rfl, hown', by omega, by simp [bs], hB3⟩
        case round =>
          clear hown' hB3
          obtain ⟨j, m, ys, hjk, rfl, hown, hm, hy, hbw⟩ := hrel
          have HY := Lib.hid hy
          have HM := Lib.hid hm
          have hml : m ≤ 4294967300 := by omega
          clear hy hm
          cases j with
          | zero =>
            have e0 : wei 0 = 1 := rfl
            go_wp2
            go_ret
            refine ⟨_, rfl, ?_, hbw⟩
            have h1 := HY.out
            simp only [tailL, bs, List.map_nil, List.append_nil] at h1
            rw [show n + (k + 1) = m from HM.out.symm]
            simp only [bs] at *
            rw [← h1]; exact hown
          | succ j =>
            have b1 := wei_pos j
            have b2 := wei_le (k := j) (by omega)
            obtain ⟨X, hX⟩ : ∃ X, wei (j + 1) = X := ⟨_, rfl⟩
            have hX2 : X = wei j * 64 := hX.symm
            have hXd := Lib.hid (show X / 64 = wei j by omega)
            have x1 : 64 ≤ X := by omega
            have x2 : X ≤ 16777216 := by omega
            have x3 : ¬ X / 64 = 0 := by omega
            have x4 : 1 ≤ X / 64 := by omega
            have x5 : 0 ≤ r / (X / 64) := Int.ediv_nonneg h0 (by omega)
            have x6 : r / (X / 64) ≤ 1114111 := Int.le_trans (Int.ediv_le_self _ h0) h1
            have x7 : 0 ≤ r / (X / 64) % 64 := by omega
            have x8 : r / (X / 64) % 64 < 64 := by omega
            have hXX := Lib.hid hX
            have hbv := Lib.hid (byt_val (128 + r / (X / 64) % 64) (by omega) (by omega))
            rw [hX]
            clear hX hX2 b1 b2
            have h63 : m + 1 ≤ maxLen := by simp only [maxLen]; omega
            have hlim : (m + 1) * 1 ≤ 140737488355328 := by omega
            have one1 : ∀ x : Int, ∀ u ∈ [Value.int .u8 x], u.oneCell' = true := fun x => ints_one [x]
            have hbs := Nat.le_trans hbase hbw.size
            go_wp2_with (at_builtin; refine list_app _ rfl (.tmp 31) (.tmp 38) 27 rfl base 5 i0 _ 1 1 Tryd.underlying27 hi hz0 hz1 hz2 rfl Nat.one_pos _ _ _ rfl (hown.alloc _) (some ⟨wr.heap.size, 0, none⟩) 1 1 _ rfl rfl (rd_lit wr _ _) (one1 _) h63 hlim (by simp; omega) ?_; intro v4 w4 hown4 hg4)
            have hb4 : Below base w w4 := (hbw.alloc hbs _).grown hg4 (by simp; omega) (fun g hg => (hown.lt g hg).1)
            rw [hbv.out] at hown4
            clear hg4
            go_wp2
            go_roundw
            case rel =>
              refine ⟨j, m + 1, _, by omega, by rw [hXd.out], hown4, by have := HM.out; omega, ?_, hb4⟩
              rw [← HY.out]
              exact tail_step _ _ _ _ hXd.out
            case measure => simp [intOf]; omega
end Go.Proofs.YtmagokkegadmiaaDoor
namespace Go.Proofs.YtmagokkegadmiaaDoor
open Go.RowKit

set_option maxHeartbeats 1000000 in
theorem Put_any (r : Int) (w : World) (hs : Siz w) : Calls Tryd.prog 53 #[.int .i64 r] w (Out (putL r) w) := by
  cases h : isPt r with
  | false =>
    rw [putL_no h]
    go_enter Tryd.func53, Tryd.ntmps53
    go_wp2_with fail
    refine (isPt_any r _).mono ?_
    rintro e w1 ⟨rfl, rfl⟩
    go_wp2_with fail
    go_ret
    exact ⟨none, 0, rfl, Rd.nil _ _, Below.refl _ _⟩
  | true =>
    have H := Lib.hid h
    go_enter Tryd.func53, Tryd.ntmps53
    go_wp2_with fail
    refine (isPt_any r _).mono ?_
    rintro e w1 ⟨rfl, rfl⟩
    go_wp2_with fail
    refine (put_any r H.out w.heap.size (.slice none 0 0) 0 [] w hs (Own.nil_ _ _ _ _) (Nat.le_refl _) (by omega)).mono ?_
    rintro e w2 ⟨v, rfl, ho, hb⟩
    go_wp2_with fail
    go_ret
    exact out_own ho hb

end Go.Proofs.YtmagokkegadmiaaDoor
namespace Go.Proofs.YtmagokkegadmiaaDoor
open Go.RowKit

theorem mask7 {x : Int} (h0 : 0 ≤ x) (h1 : x ≤ 9223372036854775807) : bits .and .i64 x 7 = x % 8 :=
  bits_mask .i64 63 (by decide) (fun n a b => by rw [IntKind.wrap_i64]; omega) 3 (by decide) x h0 (by omega)
theorem mask1 {x : Int} (h0 : 0 ≤ x) (h1 : x ≤ 9223372036854775807) : bits .and .i64 x 1 = x % 2 :=
  bits_mask .i64 63 (by decide) (fun n a b => by rw [IntKind.wrap_i64]; omega) 1 (by decide) x h0 (by omega)
set_option maxRecDepth 100000 in
theorem pold_any (n : Int) (w : World) (hn : in10 n) : Calls Tryd.prog 16 #[.int .i64 n] w fun e w' => e = .returned (.int .i64 (oldN n)) ∧ Below w.heap.size w w' := by
  obtain ⟨N, hN⟩ : ∃ N, max n 0 = N := ⟨_, rfl⟩
  have hmax := max0 n N hN (P := Tryd.prog)
  obtain ⟨F, hF⟩ : ∃ F, oldN n = F := ⟨_, rfl⟩
  have hm : bits .and .i64 N 7 = F := by
    have h2 := hn.2
    rw [mask7 (by omega) (by omega), ← hF, ← hN]
    rfl
  rw [hF]
  clear hF hN hn
  go_enter Tryd.func16, Tryd.ntmps16
  go_wp2
  go_ret
  exact ⟨rfl, by first | exact Below.refl _ _ | exact below_drewN (Below.refl _ _) _⟩
set_option maxRecDepth 100000 in
set_option maxHeartbeats 4000000 in
theorem pshown_any (k : Ky) (hk : okK k) (w : World) : Calls Tryd.prog 19 #[kyV k] w fun e w' => e = .returned (.int .i64 (shownK k)) ∧ Below w.heap.size w w' := by
  have hB := ky_box w k
  have hold := pold_any k.mods (w.alloc (.cells (kyC k) 25)) hk.mods
  have k0 := Blk.new w 25 (kyC k)
  have hsh : shownK k = if hasN k.mods 1 = false then k.code else if k.shift ≠ 0 then k.shift else if 97 ≤ k.code ∧ k.code ≤ 122 then k.code - 32 else k.code := rfl
  obtain ⟨F, hF⟩ : ∃ F, oldN k.mods = F := ⟨_, rfl⟩
  have hr : 0 ≤ F ∧ F < 8 := by rw [← hF]; unfold oldN; omega
  obtain ⟨N, hN⟩ : ∃ N, bits .and .i64 F 1 = N := ⟨_, rfl⟩
  have hN2 : N = F % 2 := by rw [← hN]; exact mask1 hr.1 (by omega)
  obtain ⟨p, hp⟩ : ∃ p, hasN k.mods 1 = p := ⟨_, rfl⟩
  have hz : (N == 0) = !p := by
    rw [← hp]
    unfold hasN
    rw [Int.ediv_one, hN2, ← hF]
    unfold oldN
    have e : max k.mods 0 % 8 % 2 = max k.mods 0 % 2 := by omega
    rw [e]
    rcases Int.emod_two_eq (max k.mods 0) with h | h <;> rw [h] <;> rfl
  have hc := hk.code
  rw [hF] at hold
  rw [hp] at hsh
  clear hk hp hF hr hN2
  rw [kyV]
  rw [kyC] at hB hold k0
  obtain ⟨code, mods, typ, shift, base, text⟩ := k
  simp only at hB hold k0 hsh hc ⊢
  go_enter Tryd.func19, Tryd.ntmps19
  have a0 := k0.cell 0
  have a1 := k0.cell 1
  have a3 := k0.cell 3
  have HSH := Lib.hid hsh
  clear hsh
  go_wp2_with fail
  refine hold.mono ?_
  clear hold
  rintro e w1 ⟨rfl, hb1⟩
  have k1 := k0.below hb1 k0.lt
  have hB1 := hB.trans (hb1.mono hB.size)
  clear k0 hB hb1 a0 a1 a3
  have a0 := k1.cell 0
  have a3 := k1.cell 3
  cases p with
  | false =>
    have hz2 : (N == 0) = true := hz
    clear hz
    go_wp2_with fail
    go_ret
    exact ⟨ret_i (by rw [HSH.out]; rfl), hB1⟩
  | true =>
    have hz2 : (N == 0) = false := hz
    clear hz
    by_cases h3 : shift = 0
    · subst h3
      by_cases h4 : 97 ≤ code
      · by_cases h5 : code ≤ 122
        · have e1 : IntKind.i64.wrap (code - 97) = code - 97 := by rw [IntKind.wrap_i64]; omega
          have e2 : IntKind.i64.wrap (code - 97 + 65) = code - 32 := by rw [IntKind.wrap_i64]; omega
          go_wp2_with fail
          go_ret
          exact ⟨ret_i (by rw [HSH.out, if_neg (by decide), if_neg (fun h => h rfl), if_pos ⟨h4, h5⟩]), hB1⟩
        · have h6 : 122 < code := by omega
          go_wp2_with fail
          go_ret
          exact ⟨ret_i (by rw [HSH.out, if_neg (by decide), if_neg (fun h => h rfl), if_neg (by omega)]), hB1⟩
      · have h6 : code < 97 := by omega
        go_wp2_with fail
        go_ret
        exact ⟨ret_i (by rw [HSH.out, if_neg (by decide), if_neg (fun h => h rfl), if_neg (by omega)]), hB1⟩
    · have h5 : (shift == 0) = false := beq_false_of_ne h3
      have h6 : (shift != 0) = true := by simp [bne, h5]
      have H3 := Lib.hid h3
      clear h3
      go_wp2_with fail
      go_ret
      exact ⟨ret_i (by rw [HSH.out, if_neg (by decide), if_pos H3.out]), hB1⟩

end Go.Proofs.YtmagokkegadmiaaDoor
namespace Go.Proofs.YtmagokkegadmiaaDoor
open Go.RowKit

/-- What Num tells. -/
def NumQ (f : Int) (l : List Int) (n : Nat) (w : World) (e : Ending) (w' : World) : Prop := ∃ A c, e = .returned (.agg #[.int .i64 1, .int .u8 0, .slice A n c, .string ⟨#[]⟩, .int .u8 f, .string ⟨#[]⟩]) ∧ RdP w' A (l.map fun n => [n]) ∧ Below w.heap.size w w'
theorem lnum_any (f : Int) (h0 : 0 ≤ f) (h1 : f < 256) (l : List Int) (n : Nat) (hn : l.length = n) (hl : n ≤ 4294967296) (A : Option Addr) (c : Nat) (w : World) (hr : Rd w A (is_ l)) : Calls Tryd.prog 26 #[.int .u8 0, .int .u8 f, .slice A n c] w (NumQ f l n w) := by
  have h := num_any 0 (byt f) A n c l w hn hl hr
  rw [byt_nat f h0 h1] at h
  refine h.mono ?_
  rintro e w' ⟨⟨B, d, rfl, hr'⟩, hb⟩
  exact ⟨B, d, by rw [show numS 0 (byt f) l = sqN 1 f l from rfl, sqn_v hn h0 h1], hr', hb⟩
/-- The same, with its blocks' kinds. -/
def NumQN (f : Int) (l : List Int) (n : Nat) (w : World) (e : Ending) (w' : World) : Prop := ∃ A c g, e = .returned (.agg #[.int .i64 1, .int .u8 0, .slice A n c, .string ⟨#[]⟩, .int .u8 f, .string ⟨#[]⟩]) ∧ RdPN g w' A (l.map fun n => [n]) ∧ Below w.heap.size w w'
theorem lnum_anyN (f : Int) (h0 : 0 ≤ f) (h1 : f < 256) (l : List Int) (n : Nat) (hn : l.length = n) (hl : n ≤ 4294967296) (A : Option Addr) (c : Nat) (w : World) (hr : Rd w A (is_ l)) : Calls Tryd.prog 26 #[.int .u8 0, .int .u8 f, .slice A n c] w (NumQN f l n w) := by
  have h := num_anyN 0 (byt f) A n c l w hn hl hr
  rw [byt_nat f h0 h1] at h
  refine h.mono ?_
  rintro e w' ⟨⟨B, d, g, rfl, hr'⟩, hb⟩
  exact ⟨B, d, g, by rw [show numS 0 (byt f) l = sqN 1 f l from rfl, sqn_v hn h0 h1], hr', hb⟩
end Go.Proofs.YtmagokkegadmiaaDoor
namespace Go.Proofs.YtmagokkegadmiaaDoor
open Go.RowKit

/-- A sequence's bytes, piece by piece. -/
def pcsL (s : Sq) : List (List UInt8) := [[27], (formF s.kind).letter, privL s.priv, parL s.params, s.inter, privL s.final, s.data, (formF s.kind).en]
theorem pcs_put {s : Sq} (h : mayS s = 0) : Lib.join (pcsL s) [] = putS s := by
  obtain ⟨_, hv, hp, _, hi, hd, hl, hb⟩ := ok_parts h
  obtain ⟨k, pv, ps, it, f, d⟩ := s
  have hne : ∀ n : Nat, 1 ≤ n → btw n 126 f = true → privL f = [f] := fun n hn h => by
    unfold privL
    rw [if_neg]
    intro e
    rw [e, btw_iff] at h
    simp at h
    omega
  have hk : k = 1 ∨ k = 2 ∨ k = 3 ∨ k = 4 ∨ k = 5 := by
    unfold lastOk at hl
    dsimp only at hl
    split at hl
    · omega
    · split at hl
      · omega
      · simp only [Bool.and_eq_true, decide_eq_true_eq] at hl; omega
  have hj : ∀ l : List (List UInt8), Lib.join l [] = l.flatten := by
    intro l
    match l with
    | [] => rfl
    | [p] => simp [Lib.join]
    | p :: q :: l =>
      rw [join_cons2]
      have : ∀ l : List (List UInt8), Lib.join l [] = l.flatten := by
        intro l
        induction l with
        | nil => rfl
        | cons a l ih =>
          cases l with
          | nil => simp [Lib.join]
          | cons b l => rw [join_cons2, ih]; simp
      rw [this]
      simp
  rw [hj]
  unfold pcsL
  dsimp only at hv hp hi hd ⊢
  rcases hk with rfl | rfl | rfl | rfl | rfl
  · have hf : btw 64 126 f = true := by simpa [lastOk] using hl
    have hd0 : d = [] := by simpa [bareOk] using hb
    subst hd0
    rw [hne 64 (by omega) hf]
    simp [formF, putS, bodyL]
  · have h1 : pv = 0 ∧ ps = [] ∧ it = [] ∧ d = [] := by
      simp [bareOk] at hb
      obtain ⟨⟨⟨a, b⟩, c⟩, e⟩ := hb
      exact ⟨a, b, c, e⟩
    obtain ⟨rfl, rfl, rfl, rfl⟩ := h1
    have hf : btw 64 126 f = true := by simpa [lastOk] using hl
    rw [hne 64 (by omega) hf]
    simp [formF, putS, privL, parL]
  · have hf : btw 64 126 f = true := by simpa [lastOk] using hl
    rw [hne 64 (by omega) hf]
    simp [formF, putS, bodyL]
  · have h1 : pv = 0 ∧ ps = [] ∧ it = [] := by
      simp [bareOk] at hb
      exact ⟨hb.1.1, hb.1.2, hb.2⟩
    have hf : f = 0 := by simpa [lastOk] using hl
    obtain ⟨rfl, rfl, rfl⟩ := h1
    subst hf
    simp [formF, putS, privL, parL]
  · have h1 : pv = 0 ∧ ps = [] ∧ d = [] := by
      simp [bareOk] at hb
      exact ⟨hb.1.1, hb.1.2, hb.2⟩
    obtain ⟨rfl, rfl, rfl⟩ := h1
    have hf : btw 48 126 f = true := by simp [lastOk] at hl; exact hl.1
    rw [hne 48 (by omega) hf]
    simp [formF, putS, privL, parL]
set_option maxRecDepth 100000 in
set_option maxHeartbeats 8000000 in
theorem pput_no (s : Sq) (A : Option Addr) (c : Nat) (m : Int) (w : World) (hm : mayS s = m) (h0 : m ≠ 0) (hp : s.params.length ≤ 4294967296) (hpp : ∀ p ∈ s.params, p.length ≤ 4294967296) (hi : s.inter.length ≤ 4294967296) (hr : RdP w A s.params) :
    Calls Tryd.prog 9 #[sqV s A c] w (WNo m w) := by
  have HM := Lib.hid hm
  have t1 : (m == 0) = false := beq_false_of_ne h0
  have t2 : (m != 0) = true := by simp [bne, t1]
  have hB : Below w.heap.size w (w.alloc (.cells (seqC s A c) 43)) := (Below.refl _ _).alloc (Nat.le_refl _) _
  clear hm h0
  unfold sqV
  go_enter Tryd.func9, Tryd.ntmps9
  go_wp2_with fail
  refine (pmay_any s A c m _ HM.out hp hpp hi (hr.below hB)).mono ?_
  rintro e w1 ⟨rfl, hb1⟩
  go_wp2_with fail
  go_ret2
  exact ⟨rfl, hB.trans (hb1.mono (by simp [seqC]))⟩

set_option maxRecDepth 100000 in
set_option maxHeartbeats 8000000 in
theorem pput_yes (s : Sq) (A : Option Addr) (c : Nat) (w : World) (hm : mayS s = 0) (ht : Tab w) (hr : RdP w A s.params) :
    Calls Tryd.prog 9 #[sqV s A c] w (WYes (putS s) w) := by
  obtain ⟨hdl, hv, hp, hil, hin, hd, hl, hbr⟩ := ok_parts hm
  obtain ⟨s1, s2, s3, s4⟩ := may_small hm
  obtain ⟨l16, l8⟩ := parOk_lens hp
  have hpp : Hid (∀ p ∈ s.params, p.length ≤ 4294967296) := Lib.hid fun p hp => by have := (l8 p hp).1; omega
  have HM := Lib.hid hm
  have HPO := Lib.hid hp
  have HJ := Lib.hid (pcs_put hm)
  have HKB := Lib.hid (show kindB s.kind = true from decide_eq_true s4)
  have hB : Below w.heap.size w (w.alloc (.cells (seqC s A c) 43)) := (Below.refl _ _).alloc (Nat.le_refl _) _
  clear hm hv hp hin hd hl hbr l8 s4
  unfold sqV
  go_enter Tryd.func9, Tryd.ntmps9
  go_wp2_with fail
  refine (pmay_any s A c 0 _ HM.out (by omega) hpp.out (by omega) (hr.below hB)).mono ?_
  rintro e w1 ⟨rfl, hb1⟩
  have hb1w : Below w.heap.size w w1 := hB.trans (hb1.mono (by simp [seqC]))
  have hq1 : Blk w1 w.heap.size 43 (seqC s A c) := (Blk.new w 43 (seqC s A c)).below hb1 (by simp [seqC])
  obtain ⟨c0, c1, c2, c3, c4, c5⟩ := Blk.cells6 hq1
  clear hb1 hB
  go_wp2_with fail
  refine (formOf_any s.kind _).mono ?_
  rw [HKB.out]
  rintro e w2 ⟨rfl, hb2⟩
  obtain ⟨f, hf⟩ : ∃ f, formF s.kind = f := ⟨_, rfl⟩
  have HF := Lib.hid hf
  rw [hf]
  clear hf
  have T1 : Two w (w2.alloc (.cells #[.string ⟨f.letter.toArray⟩, .bool f.body, .bool f.inter, .int .u8 (f.first.toNat : Int), .string ⟨f.en.toArray⟩] 62)) s A c f w2.heap.size :=
    ⟨(hq1.below hb2 hq1.lt).alloc _, Blk.new _ _ _, (hb1w.trans (hb2.mono hb1w.size)).alloc (Nat.le_trans hb1w.size hb2.size) _, Nat.lt_of_lt_of_le hq1.lt hb2.size⟩
  clear hb2 hq1 c0 c1 c2 c3 c4 c5 hb1w
  unfold fmV
  go_upto_region 5 with (fail)
  obtain ⟨⟨c0, c1, c2, c3, c4, c5⟩, f0, f1, f2, f3, f4⟩ := T1.cells
  generalize w2.alloc (.cells #[.string ⟨f.letter.toArray⟩, .bool f.body, .bool f.inter, .int .u8 (f.first.toNat : Int), .string ⟨f.en.toArray⟩] 62) = W1 at *
  have hltW : w2.heap.size < W1.heap.size := T1.fm.lt
  have hwW : w.heap.size ≤ W1.heap.size := T1.be.size
  obtain ⟨T, hT⟩ : ∃ T, putS s = T := ⟨_, rfl⟩
  have HTT := Lib.hid hT
  rw [hT] at s3 HJ
  clear hT
  obtain ⟨C, X, hX⟩ := conv_all Tryd.prog 9 27 5 T Tryd.underlying9 Tryd.underlying27 Tryd.underlying5 (by simp only [maxLen]; omega)
  have hV := fun W => (hX W).1
  have HX := Lib.hid (fun W => (hX W).2.2)
  have HC := Lib.hid (fun W => (hX W).2.1)
  have HS : Hid (∀ W, Below W1.heap.size W1 W → Below W1.heap.size W1 W ∧ W.cell? ⟨w.heap.size, 0, none⟩ = some (.int .i64 s.kind) ∧ W.cell? ⟨w.heap.size, 1, none⟩ = some (.int .u8 (s.priv.toNat : Int)) ∧ W.cell? ⟨w.heap.size, 2, none⟩ = some (.slice A s.params.length c) ∧ W.cell? ⟨w.heap.size, 3, none⟩ = some (.string ⟨s.inter.toArray⟩) ∧ W.cell? ⟨w.heap.size, 4, none⟩ = some (.int .u8 (s.final.toNat : Int)) ∧ W.cell? ⟨w.heap.size, 5, none⟩ = some (.string ⟨s.data.toArray⟩) ∧ W.cell? ⟨w2.heap.size, 0, none⟩ = some (.string ⟨f.letter.toArray⟩) ∧ W.cell? ⟨w2.heap.size, 4, none⟩ = some (.string ⟨f.en.toArray⟩)) := Lib.hid fun W hb =>
    ⟨hb, (hb.cell (p := ⟨w.heap.size, 0, none⟩) T1.sq.lt).trans c0, (hb.cell (p := ⟨w.heap.size, 1, none⟩) T1.sq.lt).trans c1, (hb.cell (p := ⟨w.heap.size, 2, none⟩) T1.sq.lt).trans c2, (hb.cell (p := ⟨w.heap.size, 3, none⟩) T1.sq.lt).trans c3, (hb.cell (p := ⟨w.heap.size, 4, none⟩) T1.sq.lt).trans c4, (hb.cell (p := ⟨w.heap.size, 5, none⟩) T1.sq.lt).trans c5, (hb.cell (p := ⟨w2.heap.size, 0, none⟩) hltW).trans f0, (hb.cell (p := ⟨w2.heap.size, 4, none⟩) hltW).trans f4⟩
  have HTab : Hid (∀ W, Below W1.heap.size W1 W → Tab W) := Lib.hid fun W hb => ht.below (T1.be.trans (hb.mono hwW))
  have HRd : Hid (∀ W, Below W1.heap.size W1 W → RdP W A s.params) := Lib.hid fun W hb => hr.below (T1.be.trans (hb.mono hwW))
  have HJ2 := Lib.hid (show Lib.join [[27], f.letter, privL s.priv, parL s.params, s.inter, privL s.final, s.data, f.en] [] = T by rw [← HJ.out]; unfold pcsL; rw [HF.out])
  clear hX c0 c1 c2 c3 c4 c5 f0 f1 f2 f3 f4
  go_region_held (fun w' => Below W1.heap.size W1 w' ∧ w'.cell? ⟨w.heap.size, 0, none⟩ = some (.int .i64 s.kind) ∧ w'.cell? ⟨w.heap.size, 1, none⟩ = some (.int .u8 (s.priv.toNat : Int)) ∧ w'.cell? ⟨w.heap.size, 2, none⟩ = some (.slice A s.params.length c) ∧ w'.cell? ⟨w.heap.size, 3, none⟩ = some (.string ⟨s.inter.toArray⟩) ∧ w'.cell? ⟨w.heap.size, 4, none⟩ = some (.int .u8 (s.final.toNat : Int)) ∧ w'.cell? ⟨w.heap.size, 5, none⟩ = some (.string ⟨s.data.toArray⟩) ∧ w'.cell? ⟨w2.heap.size, 0, none⟩ = some (.string ⟨f.letter.toArray⟩) ∧ w'.cell? ⟨w2.heap.size, 4, none⟩ = some (.string ⟨f.en.toArray⟩))
    (first | exact HS.out _ (Below.refl _ _).drew | exact HS.out _ ((Below.refl _ _).drew.trans hb3) | exact HS.out _ (((Below.refl _ _).drew.trans hb3).alloc hb3.size _) | exact HS.out _ ((((Below.refl _ _).drew.trans hb3).alloc hb3.size _).trans (hb4.mono (Nat.le_trans (show W1.heap.size ≤ w3.heap.size from hb3.size) (by simp)))) | exact HS.out _ (((((Below.refl _ _).drew.trans hb3).alloc hb3.size _).trans (hb4.mono (Nat.le_trans (show W1.heap.size ≤ w3.heap.size from hb3.size) (by simp)))).trans ((HX.out _).2.mono (Nat.le_trans (show W1.heap.size ≤ w3.heap.size from hb3.size) (Nat.le_trans (by simp) hb4.size)))))
    (first
      | (go_at_call 24; refine (char_any s.priv _ s1).mono ?_; rintro e wc ⟨rfl, rfl⟩)
      | (go_at_call 24; refine (char_any s.final _ s2).mono ?_; rintro e wc ⟨rfl, rfl⟩)
      | (go_at_call 25; refine (ptext_any A c s.params _ HPO.out (HTab.out _ (Below.refl _ _).drew) (HRd.out _ (Below.refl _ _).drew)).mono ?_; rintro e w3 ⟨rfl, hb3⟩)
      | (go_at_call 23; refine (join_any _ 8 8 [[27], f.letter, privL s.priv, parL s.params, s.inter, privL s.final, s.data, f.en] [] T _ rfl HJ2.out (by omega) (Nat.le_refl _) (by omega) (Rd.block (heap_alloc_new _ _) rfl)).mono ?_; rintro e w4 ⟨rfl, hb4⟩))
  have hbX : Below W1.heap.size W1 (X w4) := ((((Below.refl _ _).drew.trans hb3).alloc hb3.size _).trans (hb4.mono (Nat.le_trans (show W1.heap.size ≤ w3.heap.size from hb3.size) (by simp)))).trans ((HX.out _).2.mono (Nat.le_trans (show W1.heap.size ≤ w3.heap.size from hb3.size) (Nat.le_trans (by simp) hb4.size)))
  have hrX := (HX.out w4).1
  have hcX := HC.out w4
  clear hV HX HS HTab HRd hb3 hb4
  generalize X w4 = W5 at *
  go_wp2_with fail
  go_ret2
  rw [HTT.out]
  exact ⟨⟨_, _, rfl, hcX, hrX⟩, T1.be.trans (hbX.mono hwW)⟩
end Go.Proofs.YtmagokkegadmiaaDoor
namespace Go.Proofs.YtmagokkegadmiaaDoor

/-- The first part of a parameter; or another number. -/
def headI (o : Int) : List Int → Int
  | n :: _ => if n < 0 then o else n
  | [] => o
def argL (ps : List (List Int)) (i o : Int) : Int := if i < 0 ∨ (ps.length : Int) ≤ i then o else headI o (ps.getD i.toNat [])
end Go.Proofs.YtmagokkegadmiaaDoor
