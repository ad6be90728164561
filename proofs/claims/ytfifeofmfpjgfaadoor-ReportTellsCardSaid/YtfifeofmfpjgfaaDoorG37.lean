/-
  Layer 6: the landed Get, walked. Stage 19: Version; awake.
-/
import Derived.Test.YtfifeofmfpjgfaaDoorG04
import Derived.Test.YtfifeofmfpjgfaaDoorG17
import Derived.Test.YtfifeofmfpjgfaaDoorG26
import Derived.Test.YtfifeofmfpjgfaaDoorG36
import Derived.Deep.Cut
namespace Go.Proofs.YtfifeofmfpjgfaaDoor
open Go.RowKit Go.Maps
theorem fields_of (p : Bool) (g : Nat) (w : World) : Calls Tryd.prog 59 #[.pointer (some ⟨g, 0, none⟩), .bool p] w (FieldsE p g w) := by
 cases p
 ·exact fields_no g w
 ·exact fields_yes g w
structure FlAt (p : Bool) (n : Int) (o : Nat) : Prop where
 at_ : ∀ g, (DataW.map (fieldL p g)).atKey (.int .i64 n) (.held nilF) = .held (flV g o)
 has : ∀ g, Maps.has (DataW.map (fieldL p g)) (.int .i64 n) = true
structure ChAt (p : Bool) (n : Int) (o : Nat) : Prop where
 at_ : ∀ g, (DataW.map (fieldL p g)).atKey (.int .i64 n) (.held nilF) = .held (chV g o)
 has : ∀ g, Maps.has (DataW.map (fieldL p g)) (.int .i64 n) = true
set_option maxRecDepth 100000 in
set_option maxHeartbeats 4000000 in
theorem pget_no (m : Mo) (p : Bool) (n : Int) (w : World) (hn : inI n) (hc : canM p n = false) : Calls Tryd.prog 36 #[moV m, .bool p, .int .i64 n] w (ValE (.int .i64 (getM m p n)) w) := by
 have HG := Lib.hid (get_no (m := m) hc)
 have HN := Lib.hid hn
 have HC := Lib.hid hc
 clear hn hc
 have hb0 : Below w.heap.size w (w.alloc (.cells (moC m) 35)) := (Below.refl _ w).alloc (Nat.le_refl _) _
 rw [moV]
 go_enter Tryd.func36, Tryd.ntmps36
 go_wp2_with fail
 refine (fields_of p w.heap.size _).mono ?_
 rintro e w1 ⟨b, k, rfl, hbs, hown, hb1⟩
 have hbb1 := below_step hb0 hb1 hb0.size
 have hl := (look_at hown HN.out (field_no w.heap.size HC.out).1 (field_no w.heap.size HC.out).2).1
 rw [nilF] at hl
 have hbb2 := hbb1.alloc hbb1.size (.cells #[.pointer none, .pointer none] 79)
 clear hown hb0 hb1 hbb1 hbs
 go_wp2_with fail
 refine (fixed_of p _).mono ?_
 rintro e w2 ⟨b2, k2, rfl, hown2, hb2⟩
 have hbb3 := below_step hbb2 hb2 hbb2.size
 have hl2 := fixed_at hown2 HN.out
 clear hown2 hbb2 hb2 hl
 go_wp2_with fail
 go_ret
 exact ⟨ret_i HG.out.symm, hbb3⟩
set_option maxRecDepth 100000 in
set_option maxHeartbeats 4000000 in
theorem pget_fl (m : Mo) (p : Bool) (n : Int) (o : Nat) (q : Bool) (w : World) (hn : inI n) (hf : FlAt p n o) (hq : (moC m)[o]? = some (.bool q)) (hg : getM m p n = if q = true then 1 else 2) : Calls Tryd.prog 36 #[moV m, .bool p, .int .i64 n] w (ValE (.int .i64 (getM m p n)) w) := by
 have HG := Lib.hid hg
 have HN := Lib.hid hn
 have HQ := Lib.hid hq
 clear hn hg hq
 have k0 := Blk.new w 35 (moC m)
 have hb0 : Below w.heap.size w (w.alloc (.cells (moC m) 35)) := (Below.refl _ w).alloc (Nat.le_refl _) _
 rw [moV]
 go_enter Tryd.func36, Tryd.ntmps36
 go_wp2_with fail
 refine (fields_of p w.heap.size _).mono ?_
 rintro e w1 ⟨b, k, rfl, hbs, hown, hb1⟩
 have hbb1 := below_step hb0 hb1 hb0.size
 have hl := (look_at hown HN.out (hf.at_ _) (hf.has _)).1
 rw [flV] at hl
 have hbb2 := hbb1.alloc hbb1.size (.cells #[.pointer (some ⟨w.heap.size, o, none⟩), .pointer none] 79)
 have hc := (((k0.below hb1 k0.lt).alloc (.cells #[.pointer (some ⟨w.heap.size, o, none⟩), .pointer none] 79)).cell o).trans HQ.out
 clear hown hb0 hb1 hbb1 hbs hf k0
 have HC := Lib.hid hc
 clear hc
 go_wp2_with fail
 refine (isSet_fl n HC.out).mono ?_
 rintro e w2 ⟨rfl, hb2⟩
 have hbb3 := below_step hbb2 hb2 hbb2.size
 clear hbb2 hb2 hl
 cases q with
 | true =>
   go_wp2_with fail
   go_ret
   exact ⟨ret_i (by rw [HG.out]; rfl), hbb3⟩
 | false =>
   go_wp2_with fail
   go_ret
   exact ⟨ret_i (by rw [HG.out]; rfl), hbb3⟩
set_option maxRecDepth 100000 in
set_option maxHeartbeats 4000000 in
theorem pget_ch (m : Mo) (p : Bool) (n : Int) (o : Nat) (i : Int) (w : World) (hn : inI n) (hf : ChAt p n o) (hq : (moC m)[o]? = some (.int .i64 i)) (hg : getM m p n = if decide (i = n) = true then 1 else 2) : Calls Tryd.prog 36 #[moV m, .bool p, .int .i64 n] w (ValE (.int .i64 (getM m p n)) w) := by
 have HG := Lib.hid hg
 have HN := Lib.hid hn
 have HQ := Lib.hid hq
 clear hn hg hq
 have k0 := Blk.new w 35 (moC m)
 have hb0 : Below w.heap.size w (w.alloc (.cells (moC m) 35)) := (Below.refl _ w).alloc (Nat.le_refl _) _
 rw [moV]
 go_enter Tryd.func36, Tryd.ntmps36
 go_wp2_with fail
 refine (fields_of p w.heap.size _).mono ?_
 rintro e w1 ⟨b, k, rfl, hbs, hown, hb1⟩
 have hbb1 := below_step hb0 hb1 hb0.size
 have hl := (look_at hown HN.out (hf.at_ _) (hf.has _)).1
 rw [chV] at hl
 have hbb2 := hbb1.alloc hbb1.size (.cells #[.pointer none, .pointer (some ⟨w.heap.size, o, none⟩)] 79)
 have hc := (((k0.below hb1 k0.lt).alloc (.cells #[.pointer none, .pointer (some ⟨w.heap.size, o, none⟩)] 79)).cell o).trans HQ.out
 clear hown hb0 hb1 hbb1 hbs hf k0
 have HC := Lib.hid hc
 clear hc
 obtain ⟨q, hq⟩ : ∃ q, decide (i = n) = q := ⟨_, rfl⟩
 have R := isSet_ch n HC.out
 rw [hq] at R
 have HG2 := Lib.hid (show getM m p n = if q = true then 1 else 2 by rw [HG.out, hq])
 clear hq HG
 go_wp2_with fail
 refine R.mono ?_
 clear R
 rintro e w2 ⟨rfl, hb2⟩
 have hbb3 := below_step hbb2 hb2 hbb2.size
 clear hbb2 hb2 hl
 cases q with
 | true =>
   go_wp2_with fail
   go_ret
   exact ⟨ret_i (by rw [HG2.out]; rfl), hbb3⟩
 | false =>
   go_wp2_with fail
   go_ret
   exact ⟨ret_i (by rw [HG2.out]; rfl), hbb3⟩
theorem chAt {n : Int} (h : mouseN n = true ∨ codingN n = true) : ChAt true n (if mouseN n = true then 7 else 8) := by
 rcases h with h | h
 ·rw [if_pos h]
  rcases (mouseN_iff n).1 h with rfl | rfl | rfl | rfl <;> exact ⟨fun g => by kernel_rfl, fun g => by kernel_rfl⟩
 ·have hm : ¬ mouseN n = true := by
   rw [mouseN_iff]
   have := (codingN_iff n).1 h
   omega
  rw [if_neg hm]
  rcases (codingN_iff n).1 h with rfl | rfl | rfl <;> exact ⟨fun g => by kernel_rfl, fun g => by kernel_rfl⟩
theorem can_where {p : Bool} {n : Int} (h : canM p n = true) : (p = false ∧ (n = 2 ∨ n = 20)) ∨ (p = true ∧ (n = 1 ∨ n = 66 ∨ n = 67 ∨ n = 1004 ∨ n = 2004)) ∨ (p = true ∧ (mouseN n = true ∨ codingN n = true)) := by
 cases p with
 | false => exact .inl ⟨rfl, by simpa [canM] using h⟩
 | true =>
   have hx : (n = 1 ∨ n = 66 ∨ n = 67 ∨ n = 1004 ∨ n = 2004) ∨ (mouseN n = true ∨ codingN n = true) := by simpa [canM] using h
   rcases hx with h1 | h1
   ·exact .inr (.inl ⟨rfl, h1⟩)
   ·exact .inr (.inr ⟨rfl, h1⟩)
theorem pget_any (m : Mo) (p : Bool) (n : Int) (w : World) (hn : inI n) : Calls Tryd.prog 36 #[moV m, .bool p, .int .i64 n] w (ValE (.int .i64 (getM m p n)) w) := by
 by_cases h : canM p n = true
 ·have hg := get_is (m := m) h
  rcases can_where h with ⟨rfl, rfl | rfl⟩ | ⟨rfl, rfl | rfl | rfl | rfl | rfl⟩ | ⟨rfl, hx⟩
  ·exact pget_fl m _ _ 5 m.lock w hn ⟨fun g => by kernel_rfl, fun g => by kernel_rfl⟩ rfl hg
  ·exact pget_fl m _ _ 6 m.line w hn ⟨fun g => by kernel_rfl, fun g => by kernel_rfl⟩ rfl hg
  ·exact pget_fl m _ _ 0 m.cursor w hn ⟨fun g => by kernel_rfl, fun g => by kernel_rfl⟩ rfl hg
  ·exact pget_fl m _ _ 1 m.keypad w hn ⟨fun g => by kernel_rfl, fun g => by kernel_rfl⟩ rfl hg
  ·exact pget_fl m _ _ 2 m.back w hn ⟨fun g => by kernel_rfl, fun g => by kernel_rfl⟩ rfl hg
  ·exact pget_fl m _ _ 3 m.focus w hn ⟨fun g => by kernel_rfl, fun g => by kernel_rfl⟩ rfl hg
  ·exact pget_fl m _ _ 4 m.paste w hn ⟨fun g => by kernel_rfl, fun g => by kernel_rfl⟩ rfl hg
  ·have hne : n ≠ 1 ∧ n ≠ 66 ∧ n ≠ 67 ∧ n ≠ 1004 ∧ n ≠ 2004 := by
    rcases hx with h1 | h1
    ·have := (mouseN_iff n).1 h1; omega
    ·have := (codingN_iff n).1 h1; omega
   have hc := chAt hx
   have hi : isM m true n = if mouseN n = true then decide (m.mouse = n) else decide (m.coding = n) := by
    unfold isM
    rw [if_neg (by decide), if_neg hne.1, if_neg hne.2.1, if_neg hne.2.2.1, if_neg hne.2.2.2.1, if_neg hne.2.2.2.2]
   rw [hi] at hg
   by_cases hm : mouseN n = true
   ·rw [if_pos hm] at hc hg
    exact pget_ch m _ _ 7 m.mouse w hn hc rfl hg
   ·rw [if_neg hm] at hc hg
    exact pget_ch m _ _ 8 m.coding w hn hc rfl hg
 ·exact pget_no m p n w hn (by simpa using h)
end Go.Proofs.YtfifeofmfpjgfaaDoor
namespace Go.Proofs.YtfifeofmfpjgfaaDoor
open Go.RowKit
theorem pversion_any (w : World) : Calls Tryd.prog 23 #[] w fun e w' => e = .returned (.agg #[.int .i64 3, .int .u8 62, .slice none 0 0, .string ⟨#[]⟩, .int .u8 124, .string ⟨#[99, 108, 97, 118, 105, 101, 114, 40, 49, 41]⟩]) ∧ Below w.heap.size w w' := by
 have hB := (Below.refl w.heap.size w).alloc (Nat.le_refl _) (.cells #[.int .i64 3, .int .u8 62, .slice none 0 0, .string ⟨#[]⟩, .int .u8 124, .string ⟨#[99, 108, 97, 118, 105, 101, 114, 40, 49, 41]⟩] 30)
 go_enter Tryd.func23, Tryd.ntmps23
 go_wp2_with fail
 refine bodyPost_ret (v := .agg #[.int .i64 3, .int .u8 62, .slice none 0 0, .string ⟨#[]⟩, .int .u8 124, .string ⟨#[99, 108, 97, 118, 105, 101, 114, 40, 49, 41]⟩]) (by simp [results, Tryd.results23, go_sem]) rfl ⟨rfl, hB⟩
theorem conv19w {w : World} {A : Option Addr} {L : List UInt8} {n c : Nat} (hn : L.length = n) (h : Rd w A (bs L)) : (convert 48 9 (.slice A n c)).run Tryd.prog w = .ok (.string ⟨L.toArray⟩) w :=
 conv_str (P := Tryd.prog) Tryd.underlying48 Tryd.underlying5 hn h _ Tryd.underlying9
set_option maxRecDepth 100000 in
set_option maxHeartbeats 16000000 in
theorem repAwake (w : World) (ht : Tab w) : Calls Tryd.prog 9 #[] w fun e w' => e = .returned (.bool true) ∧ Below w.heap.size w w' := by
 have e1 : placeR ⟨0, 0, 3, 4, 1, 24, 0, 0, 0, ⟨false, false, false, false, false, false, false, 0, 0, 0⟩⟩ false = ⟨1, 0, [[3], [4]], [], 82, []⟩ := by kernel_rfl
 have e2 : setR ⟨0, 0, 3, 4, 1, 24, 0, 0, 0, ⟨false, false, false, false, false, false, false, 0, 0, 0⟩⟩ [114] = ⟨3, 0, [[1]], [36], 114, [49, 59, 50, 52, 114]⟩ := by kernel_rfl
 have e3 : setR ⟨0, 0, 3, 4, 1, 24, 0, 0, 0, ⟨false, false, false, false, false, false, false, 0, 0, 0⟩⟩ [120] = ⟨3, 0, [[0]], [36], 114, []⟩ := by kernel_rfl
 have HP : Hid (∀ W, Below w.heap.size w W → Calls Tryd.prog 11 #[.agg #[.int .i64 0, .int .i64 0, .int .i64 3, .int .i64 4, .int .i64 1, .int .i64 24, .int .i64 0, .int .i64 0, .int .i64 0, .bool false, .bool false, .bool false, .bool false, .bool false, .bool false, .bool false, .int .i64 0, .int .i64 0, .int .i64 0], .bool false] W fun e w' => ∃ A c, e = .returned (.agg #[.int .i64 1, .int .u8 0, .slice A 2 c, .string ⟨#[]⟩, .int .u8 82, .string ⟨#[]⟩]) ∧ RdP w' A [[3], [4]] ∧ Below W.heap.size W w') := Lib.hid fun W hW => by
  refine (e1 ▸ pplace_any ⟨0, 0, 3, 4, 1, 24, 0, 0, 0, ⟨false, false, false, false, false, false, false, 0, 0, 0⟩⟩ false W).mono ?_
  rintro e w' ⟨A, c, rfl, hr, hb⟩
  exact ⟨A, c, rfl, hr, hb⟩
 have HS : Hid (∀ W, Below w.heap.size w W → Calls Tryd.prog 13 #[.agg #[.int .i64 0, .int .i64 0, .int .i64 3, .int .i64 4, .int .i64 1, .int .i64 24, .int .i64 0, .int .i64 0, .int .i64 0, .bool false, .bool false, .bool false, .bool false, .bool false, .bool false, .bool false, .int .i64 0, .int .i64 0, .int .i64 0], .string ⟨#[114]⟩] W fun e w' => ∃ A c, e = .returned (.agg #[.int .i64 3, .int .u8 0, .slice A 1 c, .string ⟨#[36]⟩, .int .u8 114, .string ⟨#[49, 59, 50, 52, 114]⟩]) ∧ RdP w' A [[1]] ∧ Below W.heap.size W w') := Lib.hid fun W hW => by
  refine (e2 ▸ pSetting_any ⟨0, 0, 3, 4, 1, 24, 0, 0, 0, ⟨false, false, false, false, false, false, false, 0, 0, 0⟩⟩ ⟨⟨by decide, by decide⟩, ⟨by decide, by decide⟩, ⟨by decide, by decide⟩⟩ [114] (by decide) W (ht.below hW)).mono ?_
  rintro e w' ⟨A, c, rfl, hr, hb⟩
  exact ⟨A, c, rfl, hr, hb⟩
 have HX : Hid (∀ W, Below w.heap.size w W → Calls Tryd.prog 13 #[.agg #[.int .i64 0, .int .i64 0, .int .i64 3, .int .i64 4, .int .i64 1, .int .i64 24, .int .i64 0, .int .i64 0, .int .i64 0, .bool false, .bool false, .bool false, .bool false, .bool false, .bool false, .bool false, .int .i64 0, .int .i64 0, .int .i64 0], .string ⟨#[120]⟩] W fun e w' => ∃ A c, e = .returned (.agg #[.int .i64 3, .int .u8 0, .slice A 1 c, .string ⟨#[36]⟩, .int .u8 114, .string ⟨#[]⟩]) ∧ RdP w' A [[0]] ∧ Below W.heap.size W w') := Lib.hid fun W hW => by
  refine (e3 ▸ pSetting_any ⟨0, 0, 3, 4, 1, 24, 0, 0, 0, ⟨false, false, false, false, false, false, false, 0, 0, 0⟩⟩ ⟨⟨by decide, by decide⟩, ⟨by decide, by decide⟩, ⟨by decide, by decide⟩⟩ [120] (by decide) W (ht.below hW)).mono ?_
  rintro e w' ⟨A, c, rfl, hr, hb⟩
  exact ⟨A, c, rfl, hr, hb⟩
 have HU : Hid (∀ W A c, RdP W A [[3], [4]] → Calls Tryd.prog 27 #[.agg #[.int .i64 1, .int .u8 0, .slice A 2 c, .string ⟨#[]⟩, .int .u8 82, .string ⟨#[]⟩]] W (PutE 0 [27, 91, 51, 59, 52, 82] W)) := Lib.hid fun W A c hr => rputE_any ⟨1, 0, [[3], [4]], [], 82, []⟩ A c 0 _ W (by decide +kernel) (by decide +kernel) (by decide) (by decide) hr
 have HV : Hid (∀ W A c, RdP W A [[1]] → Calls Tryd.prog 27 #[.agg #[.int .i64 3, .int .u8 0, .slice A 1 c, .string ⟨#[36]⟩, .int .u8 114, .string ⟨#[49, 59, 50, 52, 114]⟩]] W (PutE 0 [27, 80, 49, 36, 114, 49, 59, 50, 52, 114, 27, 92] W)) := Lib.hid fun W A c hr => rputE_any ⟨3, 0, [[1]], [36], 114, [49, 59, 50, 52, 114]⟩ A c 0 _ W (by decide +kernel) (by decide +kernel) (by decide) (by decide) hr
 have HY : Hid (∀ W A c, RdP W A [[0]] → Calls Tryd.prog 27 #[.agg #[.int .i64 3, .int .u8 0, .slice A 1 c, .string ⟨#[36]⟩, .int .u8 114, .string ⟨#[]⟩]] W (PutE 0 [27, 80, 48, 36, 114, 27, 92] W)) := Lib.hid fun W A c hr => rputE_any ⟨3, 0, [[0]], [36], 114, []⟩ A c 0 _ W (by decide +kernel) (by decide +kernel) (by decide) (by decide) hr
 have HVER := Lib.hid pversion_any
 clear e1 e2 e3 ht
 have z0 := Blk.new w 25 #[.int .i64 0, .int .i64 0, .int .i64 0, .int .i64 0, .int .i64 0, .int .i64 0, .int .i64 0, .int .i64 0, .int .i64 0, .bool false, .bool false, .bool false, .bool false, .bool false, .bool false, .bool false, .int .i64 0, .int .i64 0, .int .i64 0]
 have hb0 := (Below.refl w.heap.size w).alloc (Nat.le_refl _) (.cells #[.int .i64 0, .int .i64 0, .int .i64 0, .int .i64 0, .int .i64 0, .int .i64 0, .int .i64 0, .int .i64 0, .int .i64 0, .bool false, .bool false, .bool false, .bool false, .bool false, .bool false, .bool false, .int .i64 0, .int .i64 0, .int .i64 0] 25)
 go_enter Tryd.func9, Tryd.ntmps9
 go_upto_region 1 with (fail)
 go_upto_region 2 with (with_reducible refine Blk.wp_set z0 #[.int .i64 0, .int .i64 0, .int .i64 3, .int .i64 4, .int .i64 1, .int .i64 24, .int .i64 0, .int .i64 0, .int .i64 0, .bool false, .bool false, .bool false, .bool false, .bool false, .bool false, .bool false, .int .i64 0, .int .i64 0, .int .i64 0] rfl (by kernel_rfl) (by kernel_rfl) rfl (.tmp 1) (.tmp 8) rfl rfl rfl ?_)
 intro W1 k0 hg0
 have hB0 := hb0.grown hg0 (by simp) (fun g h => by injection h with h; omega)
 clear hb0 z0 hg0
 go_wp2_with (with_reducible refine Blk.wp_get k0 Tryd.underlying25 rfl (by kernel_rfl) rfl (.tmp 1) rfl rfl ?_)
 refine (HP.out _ hB0).mono ?_
 rintro e v1 ⟨A, c, rfl, hr, hb1⟩
 have hB1 := hB0.trans (hb1.mono hB0.size)
 have k1 := k0.below hb1 k0.lt
 clear k0 hB0 hb1
 go_wp2_with fail
 refine (HU.out _ _ _ hr).mono ?_
 rintro e v2 ⟨⟨P0, d0, rfl, _, r0⟩, hb2⟩
 have hB2 := hB1.trans (hb2.mono hB1.size)
 have k2 := k1.below hb2 k1.lt
 clear k1 hB1 hb2 hr
 go_wp2_with (with_reducible refine Blk.wp_get k2 Tryd.underlying25 rfl (by kernel_rfl) rfl (.tmp 1) rfl rfl ?_)
 refine (HS.out _ hB2).mono ?_
 rintro e v3 ⟨A, c, rfl, hr, hb3⟩
 have hB3 := hB2.trans (hb3.mono hB2.size)
 have k3 := k2.below hb3 k2.lt
 replace r0 := r0.below hb3
 clear k2 hB2 hb3
 go_wp2_with fail
 refine (HV.out _ _ _ hr).mono ?_
 rintro e v4 ⟨⟨P1, d1, rfl, _, r1⟩, hb4⟩
 have hB4 := hB3.trans (hb4.mono hB3.size)
 have k4 := k3.below hb4 k3.lt
 replace r0 := r0.below hb4
 clear k3 hB3 hb4 hr
 go_wp2_with (with_reducible refine Blk.wp_get k4 Tryd.underlying25 rfl (by kernel_rfl) rfl (.tmp 1) rfl rfl ?_)
 refine (HX.out _ hB4).mono ?_
 rintro e v5 ⟨A, c, rfl, hr, hb5⟩
 have hB5 := hB4.trans (hb5.mono hB4.size)
 have k5 := k4.below hb5 k4.lt
 replace r0 := r0.below hb5
 replace r1 := r1.below hb5
 clear k4 hB4 hb5
 go_wp2_with fail
 refine (HY.out _ _ _ hr).mono ?_
 rintro e v6 ⟨⟨P2, d2, rfl, _, r2⟩, hb6⟩
 have hB6 := hB5.trans (hb6.mono hB5.size)
 have k6 := k5.below hb6 k5.lt
 replace r0 := r0.below hb6
 replace r1 := r1.below hb6
 clear k5 hB5 hb6 hr
 have s0 := conv19w (n := 6) (c := d0) rfl r0
 have s1 := conv19w (n := 12) (c := d1) rfl r1
 have s2 := conv19w (n := 7) (c := d2) rfl r2
 clear r0 r1 r2 k6
 go_wp2_with fail
 refine (HVER.out _).mono ?_
 rintro e v7 ⟨rfl, hb7⟩
 have hB7 := hB6.trans (hb7.mono hB6.size)
 have hfl : ∀ W : World, (Instr.field 30 ((.agg #[.int .i64 3, .int .u8 62, .slice none 0 0, .string ⟨#[]⟩, .int .u8 124, .string ⟨#[99, 108, 97, 118, 105, 101, 114, 40, 49, 41]⟩])) 5).run Tryd.prog W = .ok (.string ⟨#[99, 108, 97, 118, 105, 101, 114, 40, 49, 41]⟩) W := fun W => by kernel_rfl
 clear s0 s1 s2 hb7 hB6
 go_wp2_with fail
 go_ret
 exact ⟨rfl, hB7⟩
end Go.Proofs.YtfifeofmfpjgfaaDoor
