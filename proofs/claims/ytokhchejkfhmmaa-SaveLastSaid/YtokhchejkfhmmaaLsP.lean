/-
  Layer 7: the walk of SaveLast.
-/
import Derived.Test.YtokhchejkfhmmaaLsO
namespace Go.Proofs.Ytokhchejkfhmmaa
open Go.RowKit

section
theorem range_left {w : World} {g : Nat} {t : TypeId} {x y : List Value} (h : Blk w g t (x ++ y).toArray) : w.rangeAt g 0 x := fun j v hv => by
  have hlt : j < x.length := (List.getElem?_eq_some_iff.1 hv).1
  rw [Nat.zero_add, h.cell j]
  simp [List.getElem?_append_left hlt, hv]
theorem range_right {w : World} {g : Nat} {t : TypeId} {x y : List Value} (h : Blk w g t (x ++ y).toArray) : w.rangeAt g x.length y := fun j v hv => by
  rw [h.cell (x.length + j)]
  simp [List.getElem?_append_right (Nat.le_add_right x.length j), hv]
variable {Inv : World → Prop}
set_option maxRecDepth 100000 in
set_option maxHeartbeats 16000000 in
theorem last_many (H : SavC Inv) (a b : Mo) (A : Option Addr) (c j : Nat) (n : Int) (w : World) (h30 : 30 < j) (hv : Inv w) :
    Calls Try.prog 7 #[.agg ((moC a).toList ++ (moC b).toList).toArray, .slice A j c, .int .i64 n] w fun e w' => e = .returned (.bool true) ∧ Below w.heap.size w w' := by
  rw [show ((moC a).toList ++ (moC b).toList).toArray = #[.bool a.cursor, .bool a.keypad, .bool a.back, .bool a.focus, .bool a.paste, .bool a.lock, .bool a.line, .int .i64 a.mouse, .int .i64 a.coding, .int .i64 a.other, .bool b.cursor, .bool b.keypad, .bool b.back, .bool b.focus, .bool b.paste, .bool b.lock, .bool b.line, .int .i64 b.mouse, .int .i64 b.coding, .int .i64 b.other] from rfl]
  have hbe : Below w.heap.size w (w.alloc (.cells #[.bool a.cursor, .bool a.keypad, .bool a.back, .bool a.focus, .bool a.paste, .bool a.lock, .bool a.line, .int .i64 a.mouse, .int .i64 a.coding, .int .i64 a.other, .bool b.cursor, .bool b.keypad, .bool b.back, .bool b.focus, .bool b.paste, .bool b.lock, .bool b.line, .int .i64 b.mouse, .int .i64 b.coding, .int .i64 b.other] 42)) := (Below.refl _ w).alloc (Nat.le_refl _) _
  have hi := H.invB hv hbe
  go_enter Try.func7, Try.ntmps7
  go_wp2_with fail
  refine (saveAwake H _ hi).mono ?_
  rintro e w1 ⟨rfl, hb1⟩
  have hbe1 := below_step hbe hb1 hbe.size
  go_wp2_with fail
  go_ret
  exact ⟨rfl, hbe1⟩
set_option maxRecDepth 100000 in
set_option maxHeartbeats 16000000 in
theorem last_few (H : SavC Inv) (a b : Mo) (ha : okM a) (hb : okM b) (A : Option Addr) (l : List Int) (c j : Nat) (hj : l.length = j) (n : Int) (hnn : inI n) (w : World) (hr : Rd w A (is_ l)) (hli : ∀ z ∈ l, inI z) (h30 : j ≤ 30) (hv : Inv w) :
    Calls Try.prog 7 #[.agg ((moC a).toList ++ (moC b).toList).toArray, .slice A j c, .int .i64 n] w fun e w' => e = .returned (.bool true) ∧ Below w.heap.size w w' := by
  have HLA := Lib.hid (save_last a b l n)
  obtain ⟨s1, hs1⟩ : ∃ s, saveS sav0 a l = s := ⟨_, rfl⟩
  have hl1 : s1.length = 12 := by rw [← hs1, saveS_len]; rfl
  obtain ⟨s2, hs2⟩ : ∃ s, saveS s1 b [n] = s := ⟨_, rfl⟩
  have hl2 : s2.length = 12 := by rw [← hs2, saveS_len, hl1]
  obtain ⟨s3, hs3⟩ : ∃ s, saveS sav0 b [n] = s := ⟨_, rfl⟩
  have hl3 : s3.length = 12 := by rw [← hs3, saveS_len]; rfl
  rw [hs1, hs2, hs3] at HLA
  obtain ⟨b0, b1, b2, b3, b4, b5, b6, b7, b8, b9, b10, b11, hB⟩ := of12 hl1
  have hBv : savV s1 = .agg #[.int .u8 (b0.toNat : Int), .int .u8 (b1.toNat : Int), .int .u8 (b2.toNat : Int), .int .u8 (b3.toNat : Int), .int .u8 (b4.toNat : Int), .int .u8 (b5.toNat : Int), .int .u8 (b6.toNat : Int), .int .u8 (b7.toNat : Int), .int .u8 (b8.toNat : Int), .int .u8 (b9.toNat : Int), .int .u8 (b10.toNat : Int), .int .u8 (b11.toNat : Int)] := by rw [hB]; rfl
  have hBC : savC s1 = #[.int .u8 (b0.toNat : Int), .int .u8 (b1.toNat : Int), .int .u8 (b2.toNat : Int), .int .u8 (b3.toNat : Int), .int .u8 (b4.toNat : Int), .int .u8 (b5.toNat : Int), .int .u8 (b6.toNat : Int), .int .u8 (b7.toNat : Int), .int .u8 (b8.toNat : Int), .int .u8 (b9.toNat : Int), .int .u8 (b10.toNat : Int), .int .u8 (b11.toNat : Int)] := by rw [hB]; rfl
  obtain ⟨d0, d1, d2, d3, d4, d5, d6, d7, d8, d9, d10, d11, hD⟩ := of12 hl2
  have hDv : savV s2 = .agg #[.int .u8 (d0.toNat : Int), .int .u8 (d1.toNat : Int), .int .u8 (d2.toNat : Int), .int .u8 (d3.toNat : Int), .int .u8 (d4.toNat : Int), .int .u8 (d5.toNat : Int), .int .u8 (d6.toNat : Int), .int .u8 (d7.toNat : Int), .int .u8 (d8.toNat : Int), .int .u8 (d9.toNat : Int), .int .u8 (d10.toNat : Int), .int .u8 (d11.toNat : Int)] := by rw [hD]; rfl
  have hDC : savC s2 = #[.int .u8 (d0.toNat : Int), .int .u8 (d1.toNat : Int), .int .u8 (d2.toNat : Int), .int .u8 (d3.toNat : Int), .int .u8 (d4.toNat : Int), .int .u8 (d5.toNat : Int), .int .u8 (d6.toNat : Int), .int .u8 (d7.toNat : Int), .int .u8 (d8.toNat : Int), .int .u8 (d9.toNat : Int), .int .u8 (d10.toNat : Int), .int .u8 (d11.toNat : Int)] := by rw [hD]; rfl
  obtain ⟨e0, e1, e2, e3, e4, e5, e6, e7, e8, e9, e10, e11, hE⟩ := of12 hl3
  have hEv : savV s3 = .agg #[.int .u8 (e0.toNat : Int), .int .u8 (e1.toNat : Int), .int .u8 (e2.toNat : Int), .int .u8 (e3.toNat : Int), .int .u8 (e4.toNat : Int), .int .u8 (e5.toNat : Int), .int .u8 (e6.toNat : Int), .int .u8 (e7.toNat : Int), .int .u8 (e8.toNat : Int), .int .u8 (e9.toNat : Int), .int .u8 (e10.toNat : Int), .int .u8 (e11.toNat : Int)] := by rw [hE]; rfl
  have hEC : savC s3 = #[.int .u8 (e0.toNat : Int), .int .u8 (e1.toNat : Int), .int .u8 (e2.toNat : Int), .int .u8 (e3.toNat : Int), .int .u8 (e4.toNat : Int), .int .u8 (e5.toNat : Int), .int .u8 (e6.toNat : Int), .int .u8 (e7.toNat : Int), .int .u8 (e8.toNat : Int), .int .u8 (e9.toNat : Int), .int .u8 (e10.toNat : Int), .int .u8 (e11.toNat : Int)] := by rw [hE]; rfl
  have HN1 := Lib.hid (show ∀ z ∈ [n], inI z by intro z hz; simp at hz; subst hz; exact hnn)
  have HC1 : Hid (∀ W, Inv W → Rd W A (is_ l) → Calls Try.prog 10 #[.agg #[.int .u8 0, .int .u8 0, .int .u8 0, .int .u8 0, .int .u8 0, .int .u8 0, .int .u8 0, .int .u8 0, .int .u8 0, .int .u8 0, .int .u8 0, .int .u8 0], .agg #[.bool a.cursor, .bool a.keypad, .bool a.back, .bool a.focus, .bool a.paste, .bool a.lock, .bool a.line, .int .i64 a.mouse, .int .i64 a.coding, .int .i64 a.other], .slice A j c] W fun e w' => e = .returned (.agg #[.int .u8 (b0.toNat : Int), .int .u8 (b1.toNat : Int), .int .u8 (b2.toNat : Int), .int .u8 (b3.toNat : Int), .int .u8 (b4.toNat : Int), .int .u8 (b5.toNat : Int), .int .u8 (b6.toNat : Int), .int .u8 (b7.toNat : Int), .int .u8 (b8.toNat : Int), .int .u8 (b9.toNat : Int), .int .u8 (b10.toNat : Int), .int .u8 (b11.toNat : Int)]) ∧ Below W.heap.size W w') := Lib.hid fun W hW hR => H.save_at W hW (s := sav0) rfl hj (by omega) hli ha hR hs1 rfl rfl hBv
  have HC2 : Hid (∀ W A c, Inv W → Rd W A (is_ [n]) → Calls Try.prog 10 #[.agg #[.int .u8 (b0.toNat : Int), .int .u8 (b1.toNat : Int), .int .u8 (b2.toNat : Int), .int .u8 (b3.toNat : Int), .int .u8 (b4.toNat : Int), .int .u8 (b5.toNat : Int), .int .u8 (b6.toNat : Int), .int .u8 (b7.toNat : Int), .int .u8 (b8.toNat : Int), .int .u8 (b9.toNat : Int), .int .u8 (b10.toNat : Int), .int .u8 (b11.toNat : Int)], .agg #[.bool b.cursor, .bool b.keypad, .bool b.back, .bool b.focus, .bool b.paste, .bool b.lock, .bool b.line, .int .i64 b.mouse, .int .i64 b.coding, .int .i64 b.other], .slice A 1 c] W fun e w' => e = .returned (.agg #[.int .u8 (d0.toNat : Int), .int .u8 (d1.toNat : Int), .int .u8 (d2.toNat : Int), .int .u8 (d3.toNat : Int), .int .u8 (d4.toNat : Int), .int .u8 (d5.toNat : Int), .int .u8 (d6.toNat : Int), .int .u8 (d7.toNat : Int), .int .u8 (d8.toNat : Int), .int .u8 (d9.toNat : Int), .int .u8 (d10.toNat : Int), .int .u8 (d11.toNat : Int)]) ∧ Below W.heap.size W w') := Lib.hid fun W A c hW hR => H.save_at W hW hl1 rfl (by decide) HN1.out hb hR hs2 hBv rfl hDv
  have HC3 : Hid (∀ W A c, Inv W → Rd W A (is_ [n]) → Calls Try.prog 10 #[.agg #[.int .u8 0, .int .u8 0, .int .u8 0, .int .u8 0, .int .u8 0, .int .u8 0, .int .u8 0, .int .u8 0, .int .u8 0, .int .u8 0, .int .u8 0, .int .u8 0], .agg #[.bool b.cursor, .bool b.keypad, .bool b.back, .bool b.focus, .bool b.paste, .bool b.lock, .bool b.line, .int .i64 b.mouse, .int .i64 b.coding, .int .i64 b.other], .slice A 1 c] W fun e w' => e = .returned (.agg #[.int .u8 (e0.toNat : Int), .int .u8 (e1.toNat : Int), .int .u8 (e2.toNat : Int), .int .u8 (e3.toNat : Int), .int .u8 (e4.toNat : Int), .int .u8 (e5.toNat : Int), .int .u8 (e6.toNat : Int), .int .u8 (e7.toNat : Int), .int .u8 (e8.toNat : Int), .int .u8 (e9.toNat : Int), .int .u8 (e10.toNat : Int), .int .u8 (e11.toNat : Int)]) ∧ Below W.heap.size W w') := Lib.hid fun W A c hW hR => H.save_at W hW (s := sav0) rfl rfl (by decide) HN1.out hb hR hs3 rfl rfl hEv
  have H1 := Lib.hid hl1
  have H2 := Lib.hid hl2
  have H3 := Lib.hid hl3
  have HB := Lib.hid hBC
  have HD := Lib.hid hDC
  have HE := Lib.hid hEC
  clear hB hBv hBC hD hDv hDC hE hEv hEC hl1 hl2 hl3 hs1 hs2 hs3 hj hli hnn ha hb
  rw [show ((moC a).toList ++ (moC b).toList).toArray = #[.bool a.cursor, .bool a.keypad, .bool a.back, .bool a.focus, .bool a.paste, .bool a.lock, .bool a.line, .int .i64 a.mouse, .int .i64 a.coding, .int .i64 a.other, .bool b.cursor, .bool b.keypad, .bool b.back, .bool b.focus, .bool b.paste, .bool b.lock, .bool b.line, .int .i64 b.mouse, .int .i64 b.coding, .int .i64 b.other] from rfl]
  have k0 := Blk.new w 42 #[.bool a.cursor, .bool a.keypad, .bool a.back, .bool a.focus, .bool a.paste, .bool a.lock, .bool a.line, .int .i64 a.mouse, .int .i64 a.coding, .int .i64 a.other, .bool b.cursor, .bool b.keypad, .bool b.back, .bool b.focus, .bool b.paste, .bool b.lock, .bool b.line, .int .i64 b.mouse, .int .i64 b.coding, .int .i64 b.other]
  have hbe : Below w.heap.size w (w.alloc (.cells #[.bool a.cursor, .bool a.keypad, .bool a.back, .bool a.focus, .bool a.paste, .bool a.lock, .bool a.line, .int .i64 a.mouse, .int .i64 a.coding, .int .i64 a.other, .bool b.cursor, .bool b.keypad, .bool b.back, .bool b.focus, .bool b.paste, .bool b.lock, .bool b.line, .int .i64 b.mouse, .int .i64 b.coding, .int .i64 b.other] 42)) := (Below.refl _ w).alloc (Nat.le_refl _) _
  have hi := H.invB hv hbe
  go_enter Try.func7, Try.ntmps7
  go_wp2_with fail
  refine (saveAwake H _ hi).mono ?_
  rintro e w1 ⟨rfl, hb1⟩
  have hbe1 := below_step hbe hb1 hbe.size
  have k1 := k0.below hb1 k0.lt
  clear k0 hbe hb1 hi
  have HI : Hid (∀ W, Below w1.heap.size w1 W → Below w.heap.size w W) := Lib.hid fun W hb => below_step hbe1 hb hbe1.size
  have HV : Hid (∀ W, Below w1.heap.size w1 W → Inv W) := Lib.hid fun W hb => H.invB hv (HI.out W hb)
  have HR : Hid (∀ W, Below w1.heap.size w1 W → Rd W A (is_ l)) := Lib.hid fun W hb => hr.below (HI.out W hb)
  have l0 : ∀ W, Below w1.heap.size w1 W → W.rangeAt w.heap.size 0 #[.bool a.cursor, .bool a.keypad, .bool a.back, .bool a.focus, .bool a.paste, .bool a.lock, .bool a.line, .int .i64 a.mouse, .int .i64 a.coding, .int .i64 a.other].toList := fun W h => range_left (x := (moC a).toList) (y := (moC b).toList) (k1.below h k1.lt)
  have l1 : ∀ W, Below w1.heap.size w1 W → W.rangeAt w.heap.size 10 #[.bool b.cursor, .bool b.keypad, .bool b.back, .bool b.focus, .bool b.paste, .bool b.lock, .bool b.line, .int .i64 b.mouse, .int .i64 b.coding, .int .i64 b.other].toList := fun W h => range_right (x := (moC a).toList) (y := (moC b).toList) (k1.below h k1.lt)
  clear hbe1
  go_wp2_with fail
  refine wp_region_one (w1 := w1) (ia := 10) (iz := 11) (d := 8) (ty := 28) (z := #[.int .u8 0, .int .u8 0, .int .u8 0, .int .u8 0, .int .u8 0, .int .u8 0, .int .u8 0, .int .u8 0, .int .u8 0, .int .u8 0, .int .u8 0, .int .u8 0]) (cs := #[.int .u8 (d0.toNat : Int), .int .u8 (d1.toNat : Int), .int .u8 (d2.toNat : Int), .int .u8 (d3.toNat : Int), .int .u8 (d4.toNat : Int), .int .u8 (d5.toNat : Int), .int .u8 (d6.toNat : Int), .int .u8 (d7.toNat : Int), .int .u8 (d8.toNat : Int), .int .u8 (d9.toNat : Int), .int .u8 (d10.toNat : Int), .int .u8 (d11.toNat : Int)]) (ih := 8) (ic := 9) (dh := 26) (n := 1) (xs := (is_ [n])) [8, 26] (fun p v => ⟨#[.agg #[.bool a.cursor, .bool a.keypad, .bool a.back, .bool a.focus, .bool a.paste, .bool a.lock, .bool a.line, .int .i64 a.mouse, .int .i64 a.coding, .int .i64 a.other, .bool b.cursor, .bool b.keypad, .bool b.back, .bool b.focus, .bool b.paste, .bool b.lock, .bool b.line, .int .i64 b.mouse, .int .i64 b.coding, .int .i64 b.other], .slice A j c, .int .i64 n, .pointer (some ⟨w.heap.size, 0, none⟩), undef, undef, .bool false, .bool true, p, undef, undef, undef, undef, .bool true, .slice A j c, .int .i64 (j : Int), .bool (decide (30 < (j : Int))), undef, .agg #[.int .u8 0, .int .u8 0, .int .u8 0, .int .u8 0, .int .u8 0, .int .u8 0, .int .u8 0, .int .u8 0, .int .u8 0, .int .u8 0, .int .u8 0, .int .u8 0], .pointer (some ⟨w.heap.size, 0, none⟩), .agg #[.bool a.cursor, .bool a.keypad, .bool a.back, .bool a.focus, .bool a.paste, .bool a.lock, .bool a.line, .int .i64 a.mouse, .int .i64 a.coding, .int .i64 a.other], .slice A j c, .agg #[.int .u8 (b0.toNat : Int), .int .u8 (b1.toNat : Int), .int .u8 (b2.toNat : Int), .int .u8 (b3.toNat : Int), .int .u8 (b4.toNat : Int), .int .u8 (b5.toNat : Int), .int .u8 (b6.toNat : Int), .int .u8 (b7.toNat : Int), .int .u8 (b8.toNat : Int), .int .u8 (b9.toNat : Int), .int .u8 (b10.toNat : Int), .int .u8 (b11.toNat : Int)], .pointer (some ⟨w.heap.size, 10, none⟩), .agg #[.bool b.cursor, .bool b.keypad, .bool b.back, .bool b.focus, .bool b.paste, .bool b.lock, .bool b.line, .int .i64 b.mouse, .int .i64 b.coding, .int .i64 b.other], .int .i64 n, v, .agg #[.int .u8 (d0.toNat : Int), .int .u8 (d1.toNat : Int), .int .u8 (d2.toNat : Int), .int .u8 (d3.toNat : Int), .int .u8 (d4.toNat : Int), .int .u8 (d5.toNat : Int), .int .u8 (d6.toNat : Int), .int .u8 (d7.toNat : Int), .int .u8 (d8.toNat : Int), .int .u8 (d9.toNat : Int), .int .u8 (d10.toNat : Int), .int .u8 (d11.toNat : Int)], undef, undef, undef, undef, undef, undef, undef, undef, undef, undef, undef, undef, undef, undef, undef, undef, undef, undef, undef, undef, undef, undef, undef, undef, undef, undef, undef, undef, undef, undef, undef], []⟩) [.agg #[.int .u8 0, .int .u8 0, .int .u8 0, .int .u8 0, .int .u8 0, .int .u8 0, .int .u8 0, .int .u8 0, .int .u8 0, .int .u8 0, .int .u8 0, .int .u8 0], .pointer (some ⟨w.heap.size, 0, none⟩), .agg #[.bool a.cursor, .bool a.keypad, .bool a.back, .bool a.focus, .bool a.paste, .bool a.lock, .bool a.line, .int .i64 a.mouse, .int .i64 a.coding, .int .i64 a.other], .slice A j c, .agg #[.int .u8 (b0.toNat : Int), .int .u8 (b1.toNat : Int), .int .u8 (b2.toNat : Int), .int .u8 (b3.toNat : Int), .int .u8 (b4.toNat : Int), .int .u8 (b5.toNat : Int), .int .u8 (b6.toNat : Int), .int .u8 (b7.toNat : Int), .int .u8 (b8.toNat : Int), .int .u8 (b9.toNat : Int), .int .u8 (b10.toNat : Int), .int .u8 (b11.toNat : Int)], .pointer (some ⟨w.heap.size, 10, none⟩), .agg #[.bool b.cursor, .bool b.keypad, .bool b.back, .bool b.focus, .bool b.paste, .bool b.lock, .bool b.line, .int .i64 b.mouse, .int .i64 b.coding, .int .i64 b.other], .int .i64 n, undef, .agg #[.int .u8 (d0.toNat : Int), .int .u8 (d1.toNat : Int), .int .u8 (d2.toNat : Int), .int .u8 (d3.toNat : Int), .int .u8 (d4.toNat : Int), .int .u8 (d5.toNat : Int), .int .u8 (d6.toNat : Int), .int .u8 (d7.toNat : Int), .int .u8 (d8.toNat : Int), .int .u8 (d9.toNat : Int), .int .u8 (d10.toNat : Int), .int .u8 (d11.toNat : Int)], undef, undef] (by kernel_rfl) (by kernel_rfl) (by kernel_rfl) (fun g => by kernel_rfl) (by kernel_rfl) (Below.refl _ _).drew (by decide) (by decide)
    (goes_cons (goesM_val (fun _ => .agg #[.int .u8 0, .int .u8 0, .int .u8 0, .int .u8 0, .int .u8 0, .int .u8 0, .int .u8 0, .int .u8 0, .int .u8 0, .int .u8 0, .int .u8 0, .int .u8 0]) (by decide) (by decide) (by decide) (fun g => by kernel_rfl) rfl (fun g => by kernel_rfl) (fun g w _ => by kernel_rfl)) 
    (goes_cons (goesM_val (fun _ => .pointer (some ⟨w.heap.size, 0, none⟩)) (by decide) (by decide) (by decide) (fun g => by kernel_rfl) rfl (fun g => by kernel_rfl) (fun g w _ => by kernel_rfl)) 
    (goes_cons (goesM_row (by decide) (by decide) (by decide) (fun g => by kernel_rfl) rfl (fun g => by kernel_rfl) rfl (fun g => by kernel_rfl) l0 Try.underlying25 rfl (by kernel_rfl)) 
    (goes_cons (goesM_val (fun _ => .slice A j c) (by decide) (by decide) (by decide) (fun g => by kernel_rfl) rfl (fun g => by kernel_rfl) (fun g w _ => by kernel_rfl)) 
    (goes_cons (goesM_call (by decide) (by decide) (by decide) (fun g => by kernel_rfl) rfl (fun g => by kernel_rfl) (fun g w => by kernel_rfl) (args := fun g => #[.agg #[.int .u8 0, .int .u8 0, .int .u8 0, .int .u8 0, .int .u8 0, .int .u8 0, .int .u8 0, .int .u8 0, .int .u8 0, .int .u8 0, .int .u8 0, .int .u8 0], .agg #[.bool a.cursor, .bool a.keypad, .bool a.back, .bool a.focus, .bool a.paste, .bool a.lock, .bool a.line, .int .i64 a.mouse, .int .i64 a.coding, .int .i64 a.other], .slice A j c]) (fun l g W hsz hf hr h => HC1.out W (HV.out W h.below) (HR.out W h.below))) 
    (goes_cons (goesM_val (fun _ => .pointer (some ⟨w.heap.size, 10, none⟩)) (by decide) (by decide) (by decide) (fun g => by kernel_rfl) rfl (fun g => by kernel_rfl) (fun g w _ => by kernel_rfl)) 
    (goes_cons (goesM_row (by decide) (by decide) (by decide) (fun g => by kernel_rfl) rfl (fun g => by kernel_rfl) rfl (fun g => by kernel_rfl) l1 Try.underlying25 rfl (by kernel_rfl)) 
    (goes_cons (goesM_val (fun _ => .int .i64 n) (by decide) (by decide) (by decide) (fun g => by kernel_rfl) rfl (fun g => by kernel_rfl) (fun g w _ => by kernel_rfl)) 
    (goes_cons (goesM_slice (te := 3) (es := #[.int .i64 n]) rfl (by decide) (by decide) (by decide) (fun g => by kernel_rfl) rfl (fun g => by kernel_rfl) (fun g w => by kernel_rfl) rfl) 
    (goes_cons (goesM_call (by decide) (by decide) (by decide) (fun g => by kernel_rfl) rfl (fun g => by kernel_rfl) (fun g w => by kernel_rfl) (args := fun g => #[.agg #[.int .u8 (b0.toNat : Int), .int .u8 (b1.toNat : Int), .int .u8 (b2.toNat : Int), .int .u8 (b3.toNat : Int), .int .u8 (b4.toNat : Int), .int .u8 (b5.toNat : Int), .int .u8 (b6.toNat : Int), .int .u8 (b7.toNat : Int), .int .u8 (b8.toNat : Int), .int .u8 (b9.toNat : Int), .int .u8 (b10.toNat : Int), .int .u8 (b11.toNat : Int)], .agg #[.bool b.cursor, .bool b.keypad, .bool b.back, .bool b.focus, .bool b.paste, .bool b.lock, .bool b.line, .int .i64 b.mouse, .int .i64 b.coding, .int .i64 b.other], g 26]) (fun l g W hsz hf hr h => by obtain ⟨A, c, e, hR⟩ := h.hand (hr ⟨8, .data⟩ (by simp) rfl) hf; rw [e]; exact HC2.out W A c (HV.out W h.below) hR)) 
    (goes_cons (goesM_alloc rfl (by decide) (by decide) (by decide) (fun g => by kernel_rfl) rfl (fun g => by kernel_rfl) (fun g w => by kernel_rfl)) 
    (goes_cons (goesM_store rfl rfl (by decide) (by decide) (fun g => by kernel_rfl) rfl rfl (fun g => by kernel_rfl) (fun g => by kernel_rfl) rfl (by kernel_rfl) rfl (fun l hsz hr => ⟨hr ⟨10, .data⟩ (by simp) rfl, (fun _ => hr ⟨9, .data⟩ (by simp) rfl)⟩)) goes_nil)))))))))))) ?_
  intro g8 v4 w2 hgg8 hb2 kb8
  have k2 := k1.below hb2 k1.lt
  have hbe2 := HI.out _ hb2
  have hi2 := HV.out _ hb2
  have hr2 := HR.out _ hb2
  clear l0 l1 k1 hb2 HC2
  have a0 := k2.cell 0; have a1 := k2.cell 1; have a2 := k2.cell 2; have a3 := k2.cell 3; have a4 := k2.cell 4; have a5 := k2.cell 5; have a6 := k2.cell 6; have a7 := k2.cell 7; have a8 := k2.cell 8; have a9 := k2.cell 9
  go_wp2_with fail
  refine (HC1.out _ hi2 hr2).mono ?_
  rintro e w3 ⟨rfl, hb3⟩
  have k3 := (k2.below hb3 k2.lt).alloc (.cells #[.int .u8 (b0.toNat : Int), .int .u8 (b1.toNat : Int), .int .u8 (b2.toNat : Int), .int .u8 (b3.toNat : Int), .int .u8 (b4.toNat : Int), .int .u8 (b5.toNat : Int), .int .u8 (b6.toNat : Int), .int .u8 (b7.toNat : Int), .int .u8 (b8.toNat : Int), .int .u8 (b9.toNat : Int), .int .u8 (b10.toNat : Int), .int .u8 (b11.toNat : Int)] 28)
  have e8 := (kb8.below hb3 kb8.lt).alloc (.cells #[.int .u8 (b0.toNat : Int), .int .u8 (b1.toNat : Int), .int .u8 (b2.toNat : Int), .int .u8 (b3.toNat : Int), .int .u8 (b4.toNat : Int), .int .u8 (b5.toNat : Int), .int .u8 (b6.toNat : Int), .int .u8 (b7.toNat : Int), .int .u8 (b8.toNat : Int), .int .u8 (b9.toNat : Int), .int .u8 (b10.toNat : Int), .int .u8 (b11.toNat : Int)] 28)
  have e9 := Blk.new w3 28 #[.int .u8 (b0.toNat : Int), .int .u8 (b1.toNat : Int), .int .u8 (b2.toNat : Int), .int .u8 (b3.toNat : Int), .int .u8 (b4.toNat : Int), .int .u8 (b5.toNat : Int), .int .u8 (b6.toNat : Int), .int .u8 (b7.toNat : Int), .int .u8 (b8.toNat : Int), .int .u8 (b9.toNat : Int), .int .u8 (b10.toNat : Int), .int .u8 (b11.toNat : Int)]
  have hbe3 := (below_step hbe2 hb3 hbe2.size).alloc (below_step hbe2 hb3 hbe2.size).size (.cells #[.int .u8 (b0.toNat : Int), .int .u8 (b1.toNat : Int), .int .u8 (b2.toNat : Int), .int .u8 (b3.toNat : Int), .int .u8 (b4.toNat : Int), .int .u8 (b5.toNat : Int), .int .u8 (b6.toNat : Int), .int .u8 (b7.toNat : Int), .int .u8 (b8.toNat : Int), .int .u8 (b9.toNat : Int), .int .u8 (b10.toNat : Int), .int .u8 (b11.toNat : Int)] 28)
  have o8 := e8.alloc (.cells #[.int .i64 n] 3)
  have o9 := e9.alloc (.cells #[.int .i64 n] 3)
  have hbe4 := hbe3.alloc hbe3.size (.cells #[.int .i64 n] 3)
  have r2 : Rd _ _ (is_ [n]) := Rd.block (heap_alloc_new (w3.alloc (.cells #[.int .u8 (b0.toNat : Int), .int .u8 (b1.toNat : Int), .int .u8 (b2.toNat : Int), .int .u8 (b3.toNat : Int), .int .u8 (b4.toNat : Int), .int .u8 (b5.toNat : Int), .int .u8 (b6.toNat : Int), .int .u8 (b7.toNat : Int), .int .u8 (b8.toNat : Int), .int .u8 (b9.toNat : Int), .int .u8 (b10.toNat : Int), .int .u8 (b11.toNat : Int)] 28)) (.cells #[.int .i64 n] 3)) rfl
  have hi4 := H.invB hv hbe4
  simp only [World.size_alloc] at r2
  clear a0 a1 a2 a3 a4 a5 a6 a7 a8 a9 k2 kb8 hbe2 hi2 hr2 hb3 e8 e9 hbe3
  have a10 := k3.cell 10; have a11 := k3.cell 11; have a12 := k3.cell 12; have a13 := k3.cell 13; have a14 := k3.cell 14; have a15 := k3.cell 15; have a16 := k3.cell 16; have a17 := k3.cell 17; have a18 := k3.cell 18; have a19 := k3.cell 19
  go_wp2_with fail
  refine (HC3.out _ _ _ hi4 r2).mono ?_
  rintro e w4 ⟨rfl, hb4⟩
  have q8 := (o8.below hb4 o8.lt).alloc (.cells #[.int .u8 (e0.toNat : Int), .int .u8 (e1.toNat : Int), .int .u8 (e2.toNat : Int), .int .u8 (e3.toNat : Int), .int .u8 (e4.toNat : Int), .int .u8 (e5.toNat : Int), .int .u8 (e6.toNat : Int), .int .u8 (e7.toNat : Int), .int .u8 (e8.toNat : Int), .int .u8 (e9.toNat : Int), .int .u8 (e10.toNat : Int), .int .u8 (e11.toNat : Int)] 28)
  have q9 := (o9.below hb4 o9.lt).alloc (.cells #[.int .u8 (e0.toNat : Int), .int .u8 (e1.toNat : Int), .int .u8 (e2.toNat : Int), .int .u8 (e3.toNat : Int), .int .u8 (e4.toNat : Int), .int .u8 (e5.toNat : Int), .int .u8 (e6.toNat : Int), .int .u8 (e7.toNat : Int), .int .u8 (e8.toNat : Int), .int .u8 (e9.toNat : Int), .int .u8 (e10.toNat : Int), .int .u8 (e11.toNat : Int)] 28)
  have q10 := Blk.new w4 28 #[.int .u8 (e0.toNat : Int), .int .u8 (e1.toNat : Int), .int .u8 (e2.toNat : Int), .int .u8 (e3.toNat : Int), .int .u8 (e4.toNat : Int), .int .u8 (e5.toNat : Int), .int .u8 (e6.toNat : Int), .int .u8 (e7.toNat : Int), .int .u8 (e8.toNat : Int), .int .u8 (e9.toNat : Int), .int .u8 (e10.toNat : Int), .int .u8 (e11.toNat : Int)]
  have hbe5 := below_step hbe4 hb4 hbe4.size
  have hbe6 := hbe5.alloc hbe5.size (.cells #[.int .u8 (e0.toNat : Int), .int .u8 (e1.toNat : Int), .int .u8 (e2.toNat : Int), .int .u8 (e3.toNat : Int), .int .u8 (e4.toNat : Int), .int .u8 (e5.toNat : Int), .int .u8 (e6.toNat : Int), .int .u8 (e7.toNat : Int), .int .u8 (e8.toNat : Int), .int .u8 (e9.toNat : Int), .int .u8 (e10.toNat : Int), .int .u8 (e11.toNat : Int)] 28)
  clear a10 a11 a12 a13 a14 a15 a16 a17 a18 a19 k3 o8 o9 hbe4 r2 hi4 hb4 hbe5
  go_wp2_with fail
  obtain ⟨g10, hg10⟩ : ∃ g, w4.heap.size = g := ⟨_, rfl⟩
  obtain ⟨g9, hg9⟩ : ∃ g, w3.heap.size = g := ⟨_, rfl⟩
  rw [hg10] at q10 ⊢
  rw [hg9] at q9 ⊢
  obtain ⟨w5, hw5⟩ : ∃ w5, w4.alloc (.cells #[.int .u8 (e0.toNat : Int), .int .u8 (e1.toNat : Int), .int .u8 (e2.toNat : Int), .int .u8 (e3.toNat : Int), .int .u8 (e4.toNat : Int), .int .u8 (e5.toNat : Int), .int .u8 (e6.toNat : Int), .int .u8 (e7.toNat : Int), .int .u8 (e8.toNat : Int), .int .u8 (e9.toNat : Int), .int .u8 (e10.toNat : Int), .int .u8 (e11.toNat : Int)] 28) = w5 := ⟨_, rfl⟩
  rw [hw5] at q8 q9 q10 hbe6 ⊢
  clear hw5 hg9 hg10
  rw [← HB.out] at q9
  rw [← HD.out] at q8
  rw [← HE.out] at q10
  go_loopw [11] (fun z wr => ∃ i : Nat, i ≤ 12 ∧ z = .int .i64 i ∧ wr = w5) (fun z _ => 12 - (intOf z).toNat)
  case atStart => exact ⟨0, Nat.zero_le _, rfl, rfl⟩
  case round =>
    obtain ⟨i, hi12, rfl, rfl⟩ := hrel
    by_cases hlt : i < 12
    · obtain ⟨x1, hx1⟩ : ∃ x, s1[i]'(by rw [H1.out]; exact hlt) = x := ⟨_, rfl⟩
      obtain ⟨x2, hx2⟩ : ∃ x, s2[i]'(by rw [H2.out]; exact hlt) = x := ⟨_, rfl⟩
      obtain ⟨x3, hx3⟩ : ∃ x, s3[i]'(by rw [H3.out]; exact hlt) = x := ⟨_, rfl⟩
      have c1 := (q9.cell i).trans (savC_get (by rw [H1.out]; exact hlt))
      have c2 := (q8.cell i).trans (savC_get (by rw [H2.out]; exact hlt))
      have c3 := (q10.cell i).trans (savC_get (by rw [H3.out]; exact hlt))
      have hla := HLA.out i
      rw [List.getElem?_eq_getElem (l := s1) (by rw [H1.out]; exact hlt), List.getElem?_eq_getElem (l := s2) (by rw [H2.out]; exact hlt), List.getElem?_eq_getElem (l := s3) (by rw [H3.out]; exact hlt), hx1, hx2, hx3] at hla
      rw [hx1] at c1
      rw [hx2] at c2
      rw [hx3] at c3
      have d1 : wr.cell? ⟨g9, i, none⟩ = some (.int .u8 (x1.toNat : Int)) := c1
      have d2 : wr.cell? ⟨g8, i, none⟩ = some (.int .u8 (x2.toNat : Int)) := c2
      have d3 : wr.cell? ⟨g10, i, none⟩ = some (.int .u8 (x3.toNat : Int)) := c3
      clear c1 c2 c3 hx1 hx2 hx3
      have gk0 : (0 : Int) ≤ (i : Int) := by omega
      have gk1 : (i : Int) < 12 := by omega
      by_cases h0 : x3 = 0
      · rw [h0, if_pos rfl] at hla
        obtain rfl := Option.some.inj hla
        have t1 : ((x3.toNat : Int) != 0) = false := by rw [h0]; rfl
        clear hla h0
        go_wp2_with fail
        go_roundw
        case rel => exact ⟨i + 1, by omega, by go_num, trivial⟩
        case measure => simp [intOf]; omega
      · rw [if_neg (fun e => h0 (Option.some.inj e))] at hla
        obtain rfl := Option.some.inj hla
        have t1 : ((x2.toNat : Int) != 0) = true := by
          refine bne_iff_ne.2 fun e => h0 (UInt8.toNat_inj.1 ?_)
          show x2.toNat = 0
          omega
        clear hla h0
        go_wp2_with fail
        go_roundw
        case rel => exact ⟨i + 1, by omega, by go_num, trivial⟩
        case measure => simp [intOf]; omega
    · have gk1 : (12 : Int) ≤ (i : Int) := by omega
      go_wp2_with fail
      go_ret
      exact ⟨rfl, hbe6⟩
theorem saveLast_walk (H : SavC Inv) (a : Mo) (ha : okM a) (b : Mo) (hb : okM b) (A : Option Addr) (l : List Int) (c : Nat) (_hk : l.length ≤ c) (n : Int) (lo : -9223372036854775808 ≤ n) (hi : n ≤ 9223372036854775807) (w : World) (hr : Rd w A (is_ l)) (hli : ∀ z ∈ l, (Lit.int .i64 z).wf = true) (hv : Inv w) :
    Calls Try.prog 7 #[.agg ((moC a).toList ++ (moC b).toList).toArray, .slice A l.length c, .int .i64 n] w fun e w' => e = .returned (.bool true) ∧ Below w.heap.size w w' := by
  by_cases h : 30 < l.length
  · exact last_many H a b A c _ n w h hv
  · exact last_few H a b ha hb A l c _ rfl n ⟨by omega, by omega⟩ w hr (fun z hz => by
      have := bounds_i64 (hli z hz)
      exact ⟨by omega, by omega⟩) (by omega) hv
end
end Go.Proofs.Ytokhchejkfhmmaa
