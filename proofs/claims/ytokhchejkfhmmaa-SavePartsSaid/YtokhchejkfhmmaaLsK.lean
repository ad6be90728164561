/-
  Layer 7: the walk of SaveBack.
-/
import Derived.Test.YtokhchejkfhmmaaLsL
import Derived.Test.YtokhchejkfhmmaaLsT
namespace Go.Proofs.Ytokhchejkfhmmaa
open Go.RowKit

section
variable {Inv : World → Prop}
theorem Rd.ints_at {w : World} {A : Option Addr} {l : List Int} (h : Rd w A (is_ l)) (hp : 0 < l.length) :
    ∃ b o, A = some ⟨b, o, none⟩ ∧ b < w.heap.size ∧ ∀ k (hk : k < l.length), w.cell? ⟨b, o + k, none⟩ = some (.int .i64 l[k]) := by
  obtain ⟨b, o, rfl, hb, hc⟩ := h (by simpa [is_] using hp)
  exact ⟨b, o, rfl, hb, fun k hk => hc k _ (by simp [is_, hk])⟩
set_option maxRecDepth 100000 in
set_option maxHeartbeats 16000000 in
theorem back_many (H : SavC Inv) (m : Mo) (n : Int) (A : Option Addr) (c j : Nat) (w : World) (h30 : 30 < j) (hv : Inv w) :
    Calls Try.prog 4 #[moV m, .int .i64 n, .slice A j c] w fun e w' => e = .returned (.bool true) ∧ Below w.heap.size w w' := by
  rw [moV]
  have hbe : Below w.heap.size w (w.alloc (.cells #[.bool m.cursor, .bool m.keypad, .bool m.back, .bool m.focus, .bool m.paste, .bool m.lock, .bool m.line, .int .i64 m.mouse, .int .i64 m.coding, .int .i64 m.other] 25)) := (Below.refl _ w).alloc (Nat.le_refl _) _
  have hi := H.invB hv hbe
  go_enter Try.func4, Try.ntmps4
  go_wp2_with fail
  refine (saveAwake H _ hi).mono ?_
  rintro e w1 ⟨rfl, hb1⟩
  have hbe1 := below_step hbe hb1 hbe.size
  go_wp2_with fail
  go_ret
  exact ⟨rfl, hbe1⟩
/-- What stands between two rounds. -/
def BackI (w : World) (m : Mo) (g8 g9 : Nat) (d : Array Value) (mk : Mo) (W : World) : Prop := Blk W w.heap.size 25 (moC m) ∧ Blk W g8 28 d ∧ Blk W g9 25 (moC mk) ∧ Below w.heap.size w W
set_option maxRecDepth 100000 in
set_option maxHeartbeats 16000000 in
theorem back_few (H : SavC Inv) (m : Mo) (hm : okM m) (n : Int) (hnn : inI n) (A : Option Addr) (l : List Int) (c j : Nat) (hj : l.length = j) (w : World) (hr : Rd w A (is_ l)) (hli : ∀ z ∈ l, inI z) (h30 : j ≤ 30) (hv : Inv w) :
    Calls Try.prog 4 #[moV m, .int .i64 n, .slice A j c] w fun e w' => e = .returned (.bool true) ∧ Below w.heap.size w w' := by
  obtain ⟨s', hs'⟩ : ∃ s', saveS sav0 m [n] = s' := ⟨_, rfl⟩
  have hl' : s'.length = 12 := by rw [← hs', saveS_len]; rfl
  obtain ⟨d0, d1, d2, d3, d4, d5, d6, d7, d8, d9, d10, d11, hd⟩ := of12 hl'
  have hdv : savV s' = .agg #[.int .u8 (d0.toNat : Int), .int .u8 (d1.toNat : Int), .int .u8 (d2.toNat : Int), .int .u8 (d3.toNat : Int), .int .u8 (d4.toNat : Int), .int .u8 (d5.toNat : Int), .int .u8 (d6.toNat : Int), .int .u8 (d7.toNat : Int), .int .u8 (d8.toNat : Int), .int .u8 (d9.toNat : Int), .int .u8 (d10.toNat : Int), .int .u8 (d11.toNat : Int)] := by rw [hd]; rfl
  have HN1 := Lib.hid (show ∀ z ∈ [n], inI z by intro z hz; simp at hz; subst hz; exact hnn)
  have HC1 : Hid (∀ W A c, Inv W → Rd W A (is_ [n]) → Calls Try.prog 10 #[.agg #[.int .u8 0, .int .u8 0, .int .u8 0, .int .u8 0, .int .u8 0, .int .u8 0, .int .u8 0, .int .u8 0, .int .u8 0, .int .u8 0, .int .u8 0, .int .u8 0], .agg #[.bool m.cursor, .bool m.keypad, .bool m.back, .bool m.focus, .bool m.paste, .bool m.lock, .bool m.line, .int .i64 m.mouse, .int .i64 m.coding, .int .i64 m.other], .slice A 1 c] W fun e w' => e = .returned (.agg #[.int .u8 (d0.toNat : Int), .int .u8 (d1.toNat : Int), .int .u8 (d2.toNat : Int), .int .u8 (d3.toNat : Int), .int .u8 (d4.toNat : Int), .int .u8 (d5.toNat : Int), .int .u8 (d6.toNat : Int), .int .u8 (d7.toNat : Int), .int .u8 (d8.toNat : Int), .int .u8 (d9.toNat : Int), .int .u8 (d10.toNat : Int), .int .u8 (d11.toNat : Int)]) ∧ Below W.heap.size W w') := Lib.hid fun W A c hW hR => H.save_at W hW (s := sav0) rfl rfl (by decide) HN1.out hm hR hs' rfl rfl hdv
  have HC2 : Hid (∀ mk mr W A c, Inv W → okM mk → restS s' mk [n] = mr → Rd W A (is_ [n]) → Calls Try.prog 12 #[.agg #[.int .u8 (d0.toNat : Int), .int .u8 (d1.toNat : Int), .int .u8 (d2.toNat : Int), .int .u8 (d3.toNat : Int), .int .u8 (d4.toNat : Int), .int .u8 (d5.toNat : Int), .int .u8 (d6.toNat : Int), .int .u8 (d7.toNat : Int), .int .u8 (d8.toNat : Int), .int .u8 (d9.toNat : Int), .int .u8 (d10.toNat : Int), .int .u8 (d11.toNat : Int)], .agg #[.bool mk.cursor, .bool mk.keypad, .bool mk.back, .bool mk.focus, .bool mk.paste, .bool mk.lock, .bool mk.line, .int .i64 mk.mouse, .int .i64 mk.coding, .int .i64 mk.other], .slice A 1 c] W fun e w' => e = .returned (.agg #[.bool mr.cursor, .bool mr.keypad, .bool mr.back, .bool mr.focus, .bool mr.paste, .bool mr.lock, .bool mr.line, .int .i64 mr.mouse, .int .i64 mr.coding, .int .i64 mr.other]) ∧ Below W.heap.size W w') := Lib.hid fun mk mr W A c hW hmk hmr hR => H.rest_at W hW hl' rfl (by decide) HN1.out hmk hR hmr hdv rfl rfl
  have HBG : Hid (∀ mk, getM (restS s' mk [n]) true n = getM m true n) := Lib.hid fun mk => by rw [← hs']; exact back_get m mk n
  have HJ := Lib.hid hj
  have HLI := Lib.hid hli
  have HNN := Lib.hid hnn
  have HOM := Lib.hid hm
  clear hd hdv hl' hs' hj hli hnn hm
  rw [moV]
  have k0 := Blk.new w 25 #[.bool m.cursor, .bool m.keypad, .bool m.back, .bool m.focus, .bool m.paste, .bool m.lock, .bool m.line, .int .i64 m.mouse, .int .i64 m.coding, .int .i64 m.other]
  have hbe : Below w.heap.size w (w.alloc (.cells #[.bool m.cursor, .bool m.keypad, .bool m.back, .bool m.focus, .bool m.paste, .bool m.lock, .bool m.line, .int .i64 m.mouse, .int .i64 m.coding, .int .i64 m.other] 25)) := (Below.refl _ w).alloc (Nat.le_refl _) _
  have hi := H.invB hv hbe
  go_enter Try.func4, Try.ntmps4
  go_wp2_with fail
  refine (saveAwake H _ hi).mono ?_
  rintro e w1 ⟨rfl, hb1⟩
  have hbe1 := below_step hbe hb1 hbe.size
  have k1 := k0.below hb1 k0.lt
  have k1' := k1.alloc (.cells #[.int .i64 n] 3)
  have hbe2 := hbe1.alloc hbe1.size (.cells #[.int .i64 n] 3)
  have r2 : Rd _ _ (is_ [n]) := Rd.block (heap_alloc_new w1 (.cells #[.int .i64 n] 3)) rfl
  have hi2 := H.invB hv hbe2
  obtain ⟨a0, a1, a2, a3, a4, a5, a6, a7, a8, a9⟩ := Blk.cells10 k1
  clear k0 hbe hb1 hi hbe1
  go_wp2_with fail
  refine (HC1.out _ _ _ hi2 r2).mono ?_
  rintro e w2 ⟨rfl, hb2⟩
  have q1 := (k1'.below hb2 k1'.lt).alloc (.cells #[.int .u8 (d0.toNat : Int), .int .u8 (d1.toNat : Int), .int .u8 (d2.toNat : Int), .int .u8 (d3.toNat : Int), .int .u8 (d4.toNat : Int), .int .u8 (d5.toNat : Int), .int .u8 (d6.toNat : Int), .int .u8 (d7.toNat : Int), .int .u8 (d8.toNat : Int), .int .u8 (d9.toNat : Int), .int .u8 (d10.toNat : Int), .int .u8 (d11.toNat : Int)] 28)
  have q8 := Blk.new w2 28 #[.int .u8 (d0.toNat : Int), .int .u8 (d1.toNat : Int), .int .u8 (d2.toNat : Int), .int .u8 (d3.toNat : Int), .int .u8 (d4.toNat : Int), .int .u8 (d5.toNat : Int), .int .u8 (d6.toNat : Int), .int .u8 (d7.toNat : Int), .int .u8 (d8.toNat : Int), .int .u8 (d9.toNat : Int), .int .u8 (d10.toNat : Int), .int .u8 (d11.toNat : Int)]
  have hbe3 := below_step hbe2 hb2 hbe2.size
  have hbe4 := hbe3.alloc hbe3.size (.cells #[.int .u8 (d0.toNat : Int), .int .u8 (d1.toNat : Int), .int .u8 (d2.toNat : Int), .int .u8 (d3.toNat : Int), .int .u8 (d4.toNat : Int), .int .u8 (d5.toNat : Int), .int .u8 (d6.toNat : Int), .int .u8 (d7.toNat : Int), .int .u8 (d8.toNat : Int), .int .u8 (d9.toNat : Int), .int .u8 (d10.toNat : Int), .int .u8 (d11.toNat : Int)] 28)
  have e1 := q1.alloc (.cells #[.bool m.cursor, .bool m.keypad, .bool m.back, .bool m.focus, .bool m.paste, .bool m.lock, .bool m.line, .int .i64 m.mouse, .int .i64 m.coding, .int .i64 m.other] 25)
  have e8 := q8.alloc (.cells #[.bool m.cursor, .bool m.keypad, .bool m.back, .bool m.focus, .bool m.paste, .bool m.lock, .bool m.line, .int .i64 m.mouse, .int .i64 m.coding, .int .i64 m.other] 25)
  have e9 := Blk.new (w2.alloc (.cells #[.int .u8 (d0.toNat : Int), .int .u8 (d1.toNat : Int), .int .u8 (d2.toNat : Int), .int .u8 (d3.toNat : Int), .int .u8 (d4.toNat : Int), .int .u8 (d5.toNat : Int), .int .u8 (d6.toNat : Int), .int .u8 (d7.toNat : Int), .int .u8 (d8.toNat : Int), .int .u8 (d9.toNat : Int), .int .u8 (d10.toNat : Int), .int .u8 (d11.toNat : Int)] 28)) 25 #[.bool m.cursor, .bool m.keypad, .bool m.back, .bool m.focus, .bool m.paste, .bool m.lock, .bool m.line, .int .i64 m.mouse, .int .i64 m.coding, .int .i64 m.other]
  have hbe5 := hbe4.alloc hbe4.size (.cells #[.bool m.cursor, .bool m.keypad, .bool m.back, .bool m.focus, .bool m.paste, .bool m.lock, .bool m.line, .int .i64 m.mouse, .int .i64 m.coding, .int .i64 m.other] 25)
  have hg8 : w.heap.size < w2.heap.size := (k1'.below hb2 k1'.lt).lt
  simp only [World.size_alloc] at e9
  clear a0 a1 a2 a3 a4 a5 a6 a7 a8 a9 k1 k1' r2 hi2 hbe2 hb2 hbe3 hbe4
  obtain ⟨a0, a1, a2, a3, a4, a5, a6, a7, a8, a9⟩ := Blk.cells10 q1
  clear q1 q8
  go_wp2_with fail
  clear a0 a1 a2 a3 a4 a5 a6 a7 a8 a9
  obtain ⟨g8, hg8e⟩ : ∃ g8, w2.heap.size = g8 := ⟨_, rfl⟩
  obtain ⟨g9, hg9e⟩ : ∃ g9, g8 + 1 = g9 := ⟨_, rfl⟩
  have hg9 : w.heap.size < g9 := by omega
  have hne : g8 ≠ g9 := by omega
  rw [hg8e] at e8 e9 hg8 ⊢
  rw [hg9e] at e9 ⊢
  have hI0 : BackI w m g8 g9 #[.int .u8 (d0.toNat : Int), .int .u8 (d1.toNat : Int), .int .u8 (d2.toNat : Int), .int .u8 (d3.toNat : Int), .int .u8 (d4.toNat : Int), .int .u8 (d5.toNat : Int), .int .u8 (d6.toNat : Int), .int .u8 (d7.toNat : Int), .int .u8 (d8.toNat : Int), .int .u8 (d9.toNat : Int), .int .u8 (d10.toNat : Int), .int .u8 (d11.toNat : Int)] m _ := ⟨e1, e8, e9, hbe5⟩
  clear e1 e8 e9 hbe5 hg8e hg9e
  go_loopw [10] (fun z wr => ∃ (i : Nat) (mk : Mo), i ≤ j ∧ z = .int .i64 i ∧ Hid (okM mk) ∧ BackI w m g8 g9 #[.int .u8 (d0.toNat : Int), .int .u8 (d1.toNat : Int), .int .u8 (d2.toNat : Int), .int .u8 (d3.toNat : Int), .int .u8 (d4.toNat : Int), .int .u8 (d5.toNat : Int), .int .u8 (d6.toNat : Int), .int .u8 (d7.toNat : Int), .int .u8 (d8.toNat : Int), .int .u8 (d9.toNat : Int), .int .u8 (d10.toNat : Int), .int .u8 (d11.toNat : Int)] mk wr) (fun z _ => j - (intOf z).toNat)
  case atStart => exact ⟨0, m, Nat.zero_le _, rfl, HOM, hI0⟩
  case round =>
    clear hI0
    obtain ⟨i, mk, hk, rfl, HO, k3, k8, k9, hbw⟩ := hrel
    by_cases hlt : i < j
    · have hkl : i < l.length := by rw [HJ.out]; exact hlt
      obtain ⟨b, o, rfl, hbl, hcell⟩ := hr.ints_at (by omega)
      obtain ⟨x, hx⟩ : ∃ x, l[i]'hkl = x := ⟨_, rfl⟩
      have HX := Lib.hid (show inI x by rw [← hx]; exact HLI.out _ (List.getElem_mem hkl))
      have hckr : wr.cell? ⟨b, o + i, none⟩ = some (.int .i64 x) := by rw [← hx]; exact (hbw.cell (p := ⟨b, o + i, none⟩) hbl).trans (hcell i hkl)
      clear hcell hx hkl
      obtain ⟨vb, hv2⟩ : ∃ vb, ((i : Int) % 2 == 0) = vb := ⟨_, rfl⟩
      have HV2 := Lib.hid hv2
      clear hv2
      obtain ⟨mn, q, hs⟩ : ∃ m' q, setM mk true x vb = (m', q) := ⟨_, _, rfl⟩
      have HS1 := Lib.hid hs
      have HO2 := Lib.hid (show okM mn by have := ok_set HO.out true HX.out vb; rw [hs] at this; exact this)
      clear hs
      have gk0 : (0 : Int) ≤ (i : Int) := by omega
      have gk1 : (i : Int) < (j : Int) := by omega
      have l9 : ∀ W, Below wr.heap.size wr W → Blk W g9 25 #[.bool mk.cursor, .bool mk.keypad, .bool mk.back, .bool mk.focus, .bool mk.paste, .bool mk.lock, .bool mk.line, .int .i64 mk.mouse, .int .i64 mk.coding, .int .i64 mk.other] := fun W h => k9.below h k9.lt
      have hbr : b < wr.heap.size := World.block_lt_of_cell? wr _ hckr
      have lx : ∀ W, Below wr.heap.size wr W → W.cell? ⟨b, o + i, none⟩ = some (.int .i64 x) := fun W h => (h.cell (p := ⟨b, o + i, none⟩) hbr).trans hckr
      go_wp2_with fail
      refine wp_region_one (w1 := wr) (ia := 12) (iz := 13) (d := 11) (ty := 25) (z := #[.bool false, .bool false, .bool false, .bool false, .bool false, .bool false, .bool false, .int .i64 0, .int .i64 0, .int .i64 0]) (cs := #[.bool mn.cursor, .bool mn.keypad, .bool mn.back, .bool mn.focus, .bool mn.paste, .bool mn.lock, .bool mn.line, .int .i64 mn.mouse, .int .i64 mn.coding, .int .i64 mn.other]) (ih := 1000) (ic := 1000) (dh := 1000) (n := 0) (xs := []) [11] (fun p v => ⟨#[.agg #[.bool m.cursor, .bool m.keypad, .bool m.back, .bool m.focus, .bool m.paste, .bool m.lock, .bool m.line, .int .i64 m.mouse, .int .i64 m.coding, .int .i64 m.other], .int .i64 n, .slice (some ⟨b, o, none⟩) j c, .pointer (some ⟨w.heap.size, 0, none⟩), undef, undef, .bool false, .bool true, .pointer (some ⟨g8, 0, none⟩), .pointer (some ⟨g9, 0, none⟩), .int .i64 (i : Int), p, .bool q, undef, .bool true, .slice (some ⟨b, o, none⟩) j c, .int .i64 (j : Int), .bool (decide (30 < (j : Int))), undef, .agg #[.int .u8 0, .int .u8 0, .int .u8 0, .int .u8 0, .int .u8 0, .int .u8 0, .int .u8 0, .int .u8 0, .int .u8 0, .int .u8 0, .int .u8 0, .int .u8 0], .agg #[.bool m.cursor, .bool m.keypad, .bool m.back, .bool m.focus, .bool m.paste, .bool m.lock, .bool m.line, .int .i64 m.mouse, .int .i64 m.coding, .int .i64 m.other], .int .i64 n, .slice (some ⟨w1.heap.size, 0, none⟩) 1 1, .agg #[.int .u8 (d0.toNat : Int), .int .u8 (d1.toNat : Int), .int .u8 (d2.toNat : Int), .int .u8 (d3.toNat : Int), .int .u8 (d4.toNat : Int), .int .u8 (d5.toNat : Int), .int .u8 (d6.toNat : Int), .int .u8 (d7.toNat : Int), .int .u8 (d8.toNat : Int), .int .u8 (d9.toNat : Int), .int .u8 (d10.toNat : Int), .int .u8 (d11.toNat : Int)], .agg #[.bool m.cursor, .bool m.keypad, .bool m.back, .bool m.focus, .bool m.paste, .bool m.lock, .bool m.line, .int .i64 m.mouse, .int .i64 m.coding, .int .i64 m.other], .int .i64 (i : Int), .slice (some ⟨b, o, none⟩) j c, .int .i64 (j : Int), .bool true, u29, u30, .tuple #[.agg #[.bool mn.cursor, .bool mn.keypad, .bool mn.back, .bool mn.focus, .bool mn.paste, .bool mn.lock, .bool mn.line, .int .i64 mn.mouse, .int .i64 mn.coding, .int .i64 mn.other], .bool q], .agg #[.bool mk.cursor, .bool mk.keypad, .bool mk.back, .bool mk.focus, .bool mk.paste, .bool mk.lock, .bool mk.line, .int .i64 mk.mouse, .int .i64 mk.coding, .int .i64 mk.other], .slice (some ⟨b, o, none⟩) j c, .int .i64 (i : Int), .pointer (some ⟨b, o + i, none⟩), .int .i64 x, .int .i64 (i : Int), .int .i64 ((i : Int) % 2), .bool vb, .tuple #[.agg #[.bool mn.cursor, .bool mn.keypad, .bool mn.back, .bool mn.focus, .bool mn.paste, .bool mn.lock, .bool mn.line, .int .i64 mn.mouse, .int .i64 mn.coding, .int .i64 mn.other], .bool q], .agg #[.bool mn.cursor, .bool mn.keypad, .bool mn.back, .bool mn.focus, .bool mn.paste, .bool mn.lock, .bool mn.line, .int .i64 mn.mouse, .int .i64 mn.coding, .int .i64 mn.other], .bool q, u43, undef, undef, undef, undef, undef, undef, undef, undef, undef, undef, undef, undef, undef, undef, undef], []⟩) [.agg #[.bool mk.cursor, .bool mk.keypad, .bool mk.back, .bool mk.focus, .bool mk.paste, .bool mk.lock, .bool mk.line, .int .i64 mk.mouse, .int .i64 mk.coding, .int .i64 mk.other], .slice (some ⟨b, o, none⟩) j c, .int .i64 (i : Int), .pointer (some ⟨b, o + i, none⟩), .int .i64 x, .int .i64 (i : Int), .int .i64 ((i : Int) % 2), .bool vb, .tuple #[.agg #[.bool mn.cursor, .bool mn.keypad, .bool mn.back, .bool mn.focus, .bool mn.paste, .bool mn.lock, .bool mn.line, .int .i64 mn.mouse, .int .i64 mn.coding, .int .i64 mn.other], .bool q], .tuple #[.agg #[.bool mn.cursor, .bool mn.keypad, .bool mn.back, .bool mn.focus, .bool mn.paste, .bool mn.lock, .bool mn.line, .int .i64 mn.mouse, .int .i64 mn.coding, .int .i64 mn.other], .bool q], .agg #[.bool mn.cursor, .bool mn.keypad, .bool mn.back, .bool mn.focus, .bool mn.paste, .bool mn.lock, .bool mn.line, .int .i64 mn.mouse, .int .i64 mn.coding, .int .i64 mn.other], .bool q, undef, undef, .bool q] (by kernel_rfl) (by kernel_rfl) (by kernel_rfl) (fun g => by kernel_rfl) (by kernel_rfl) (Below.refl _ _).drew (by decide) (by decide)
        (goes_cons (goesM_load (by decide) (by decide) (by decide) (fun g => by kernel_rfl) rfl (fun g => by kernel_rfl) rfl (fun g => by kernel_rfl) l9 Try.underlying25 rfl (by kernel_rfl)) 
        (goes_cons (goesM_val (fun _ => .slice (some ⟨b, o, none⟩) j c) (by decide) (by decide) (by decide) (fun g => by kernel_rfl) rfl (fun g => by kernel_rfl) (fun g w _ => by kernel_rfl)) 
        (goes_cons (goesM_val (fun _ => .int .i64 (i : Int)) (by decide) (by decide) (by decide) (fun g => by kernel_rfl) rfl (fun g => by kernel_rfl) (fun g w _ => by kernel_rfl)) 
        (goes_cons (goesM_index (b := b) (q := o) (m := j) (c := c) (k := i) (by decide) (by decide) (by decide) (fun g => by kernel_rfl) rfl (fun g => by kernel_rfl) rfl (fun g => by kernel_rfl) (fun g => by kernel_rfl) hlt Try.underlying26 (fun w => by kernel_rfl)) 
        (goes_cons (goesM_cell (by decide) (by decide) (by decide) (fun g => by kernel_rfl) rfl (fun g => by kernel_rfl) rfl (fun g => by kernel_rfl) lx (fun w => by kernel_rfl)) 
        (goes_cons (goesM_val (fun _ => .int .i64 (i : Int)) (by decide) (by decide) (by decide) (fun g => by kernel_rfl) rfl (fun g => by kernel_rfl) (fun g w _ => by kernel_rfl)) 
        (goes_cons (goesM_bin (v := .int .i64 ((i : Int) % 2)) (xv := .int .i64 (i : Int)) (yv := .int .i64 2) (by decide) (by decide) (by decide) (fun g => by kernel_rfl) rfl (fun g => by kernel_rfl) rfl (fun g => by kernel_rfl) (fun g => by kernel_rfl) (fun w => by go_simp; exact Int.tmod_eq_emod_of_nonneg (Int.natCast_nonneg i))) 
        (goes_cons (goesM_val (fun _ => .bool vb) (by decide) (by decide) (by decide) (fun g => by kernel_rfl) rfl (fun g => by kernel_rfl) (fun g w _ => by rw [← HV2.out]; kernel_rfl)) 
        (goes_cons (goesM_call (by decide) (by decide) (by decide) (fun g => by kernel_rfl) rfl (fun g => by kernel_rfl) (fun g w => by kernel_rfl) (args := fun g => #[.agg #[.bool mk.cursor, .bool mk.keypad, .bool mk.back, .bool mk.focus, .bool mk.paste, .bool mk.lock, .bool mk.line, .int .i64 mk.mouse, .int .i64 mk.coding, .int .i64 mk.other], .bool true, .int .i64 x, .bool vb]) (fun l g W hsz hf hr h => pset_at (m := mk) (m' := mn) W HX.out HS1.out)) 
        (goes_cons (goesM_val (fun _ => .tuple #[.agg #[.bool mn.cursor, .bool mn.keypad, .bool mn.back, .bool mn.focus, .bool mn.paste, .bool mn.lock, .bool mn.line, .int .i64 mn.mouse, .int .i64 mn.coding, .int .i64 mn.other], .bool q]) (by decide) (by decide) (by decide) (fun g => by kernel_rfl) rfl (fun g => by kernel_rfl) (fun g w _ => by kernel_rfl)) 
        (goes_cons (goesM_val (fun _ => .agg #[.bool mn.cursor, .bool mn.keypad, .bool mn.back, .bool mn.focus, .bool mn.paste, .bool mn.lock, .bool mn.line, .int .i64 mn.mouse, .int .i64 mn.coding, .int .i64 mn.other]) (by decide) (by decide) (by decide) (fun g => by kernel_rfl) rfl (fun g => by kernel_rfl) (fun g w _ => by kernel_rfl)) 
        (goes_cons (goesM_val (fun _ => .bool q) (by decide) (by decide) (by decide) (fun g => by kernel_rfl) rfl (fun g => by kernel_rfl) (fun g w _ => by kernel_rfl)) 
        (goes_cons (goesM_alloc rfl (by decide) (by decide) (by decide) (fun g => by kernel_rfl) rfl (fun g => by kernel_rfl) (fun g w => by kernel_rfl)) 
        (goes_cons (goesM_store rfl rfl (by decide) (by decide) (fun g => by kernel_rfl) rfl rfl (fun g => by kernel_rfl) (fun g => by kernel_rfl) rfl (by kernel_rfl) rfl (fun l hsz hr => ⟨hr ⟨12, .data⟩ (by simp) rfl, (fun h => by rw [Array.getD_eq_getD_getElem?, Array.getElem?_eq_none (by rw [hsz]; decide)] at h; cases h)⟩)) 
        (goes_cons (goesM_val (fun _ => .bool q) (by decide) (by decide) (by decide) (fun g => by kernel_rfl) rfl (fun g => by kernel_rfl) (fun g w _ => by kernel_rfl)) goes_nil))))))))))))))) ?_
      intro b5 v5 w5 hg5 hb5 kb5
      have f3 := k3.below hb5 k3.lt
      have f8 := k8.below hb5 k8.lt
      have f9 := k9.below hb5 k9.lt
      have hbw5 := below_step hbw hb5 hbw.size
      have hge : g9 < wr.heap.size := k9.lt
      clear k3 k8 k9 hbw l9 lx hckr hbr hb5
      obtain ⟨c0, c1, c2, c3, c4, c5, c6, c7, c8, c9⟩ := Blk.cells10 kb5
      obtain ⟨e0, e1, e2, e3, e4, e5, e6, e7, e8, e9⟩ := Blk.cells10 f9
      have z0 := f9.frozen 0; have z1 := f9.frozen 1; have z2 := f9.frozen 2; have z3 := f9.frozen 3; have z4 := f9.frozen 4; have z5 := f9.frozen 5; have z6 := f9.frozen 6; have z7 := f9.frozen 7; have z8 := f9.frozen 8; have z9 := f9.frozen 9
      have r3 := f3.far10 (b := g9) (by omega) (.bool mn.cursor) (.bool mn.keypad) (.bool mn.back) (.bool mn.focus) (.bool mn.paste) (.bool mn.lock) (.bool mn.line) (.int .i64 mn.mouse) (.int .i64 mn.coding) (.int .i64 mn.other)
      have r8 := f8.far10 (b := g9) (by omega) (.bool mn.cursor) (.bool mn.keypad) (.bool mn.back) (.bool mn.focus) (.bool mn.paste) (.bool mn.lock) (.bool mn.line) (.int .i64 mn.mouse) (.int .i64 mn.coding) (.int .i64 mn.other)
      have r9 := f9.set10 (.bool mn.cursor) (.bool mn.keypad) (.bool mn.back) (.bool mn.focus) (.bool mn.paste) (.bool mn.lock) (.bool mn.line) (.int .i64 mn.mouse) (.int .i64 mn.coding) (.int .i64 mn.other)
      have hE := below_set10 hbw5 (g := g9) (by omega) (.bool mn.cursor) (.bool mn.keypad) (.bool mn.back) (.bool mn.focus) (.bool mn.paste) (.bool mn.lock) (.bool mn.line) (.int .i64 mn.mouse) (.int .i64 mn.coding) (.int .i64 mn.other)
      clear f3 f8 f9 kb5 hbw5
      go_wp2_with fail
      go_roundw
      case rel => exact ⟨i + 1, mn, by omega, by go_num, HO2, r3, r8, r9, hE⟩
      case measure => simp [intOf]; omega
    · have gk1 : (j : Int) ≤ (i : Int) := by omega
      obtain ⟨mr, hmr⟩ : ∃ mr, restS s' mk [n] = mr := ⟨_, rfl⟩
      have HMR := Lib.hid hmr
      obtain ⟨y, hy⟩ : ∃ y, getM m true n = y := ⟨_, rfl⟩
      have HY1 := Lib.hid (show getM mr true n = y by rw [← hmr, HBG.out, hy])
      have HY2 := Lib.hid hy
      clear hmr hy
      have hi0 := H.invB hv hbw
      have r2 : Rd _ _ (is_ [n]) := Rd.block (heap_alloc_new wr (.cells #[.int .i64 n] 3)) rfl
      have k3' := k3.alloc (.cells #[.int .i64 n] 3)
      have hbw2 := hbw.alloc hbw.size (.cells #[.int .i64 n] 3)
      have hi2 := H.invB hv hbw2
      obtain ⟨a0, a1, a2, a3, a4, a5, a6, a7, a8, a9, a10, a11⟩ := Blk.cells12 k8
      obtain ⟨e0, e1, e2, e3, e4, e5, e6, e7, e8, e9⟩ := Blk.cells10 k9
      clear k3 k8 k9 hbw hi0
      go_wp2_with fail
      refine (HC2.out mk mr _ _ _ hi2 HO.out HMR.out r2).mono ?_
      rintro e w4 ⟨rfl, hb4⟩
      have f3 := (k3'.below hb4 k3'.lt).alloc (.cells #[.bool mr.cursor, .bool mr.keypad, .bool mr.back, .bool mr.focus, .bool mr.paste, .bool mr.lock, .bool mr.line, .int .i64 mr.mouse, .int .i64 mr.coding, .int .i64 mr.other] 25)
      have f13 := Blk.new w4 25 #[.bool mr.cursor, .bool mr.keypad, .bool mr.back, .bool mr.focus, .bool mr.paste, .bool mr.lock, .bool mr.line, .int .i64 mr.mouse, .int .i64 mr.coding, .int .i64 mr.other]
      have hbw4 := below_step hbw2 hb4 hbw2.size
      have hbw5 := hbw4.alloc hbw4.size (.cells #[.bool mr.cursor, .bool mr.keypad, .bool mr.back, .bool mr.focus, .bool mr.paste, .bool mr.lock, .bool mr.line, .int .i64 mr.mouse, .int .i64 mr.coding, .int .i64 mr.other] 25)
      clear a0 a1 a2 a3 a4 a5 a6 a7 a8 a9 a10 a11 e0 e1 e2 e3 e4 e5 e6 e7 e8 e9 r2 k3' hbw2 hi2 hb4 hbw4
      go_wp2_with fail
      obtain ⟨g13, hg13⟩ : ∃ g13, w4.heap.size = g13 := ⟨_, rfl⟩
      rw [hg13] at f13 ⊢
      obtain ⟨w5, hw5⟩ : ∃ w5, w4.alloc (.cells #[.bool mr.cursor, .bool mr.keypad, .bool mr.back, .bool mr.focus, .bool mr.paste, .bool mr.lock, .bool mr.line, .int .i64 mr.mouse, .int .i64 mr.coding, .int .i64 mr.other] 25) = w5 := ⟨_, rfl⟩
      rw [hw5] at f3 f13 hbw5 ⊢
      clear hg13 hw5
      have st : ∀ w w' : World, Below w5.heap.size w5 w → Below w.heap.size w w' → Below w5.heap.size w5 w' := fun w w' h1 h2 => below_step h1 h2 h1.size
      have l3 : ∀ W, Below w5.heap.size w5 W → Blk W w.heap.size 25 #[.bool m.cursor, .bool m.keypad, .bool m.back, .bool m.focus, .bool m.paste, .bool m.lock, .bool m.line, .int .i64 m.mouse, .int .i64 m.coding, .int .i64 m.other] := fun W h => f3.below h f3.lt
      have l13 : ∀ W, Below w5.heap.size w5 W → Blk W g13 25 #[.bool mr.cursor, .bool mr.keypad, .bool mr.back, .bool mr.focus, .bool mr.paste, .bool mr.lock, .bool mr.line, .int .i64 mr.mouse, .int .i64 mr.coding, .int .i64 mr.other] := fun W h => f13.below h f13.lt
      refine wp_region_goes (S := fun W => Below w5.heap.size w5 W) (by kernel_rfl) (by kernel_rfl) (by kernel_rfl) ⟨#[.agg #[.bool m.cursor, .bool m.keypad, .bool m.back, .bool m.focus, .bool m.paste, .bool m.lock, .bool m.line, .int .i64 m.mouse, .int .i64 m.coding, .int .i64 m.other], .int .i64 n, .slice A j c, .pointer (some ⟨w.heap.size, 0, none⟩), undef, undef, .bool (y == y), .bool true, .pointer (some ⟨g8, 0, none⟩), .pointer (some ⟨g9, 0, none⟩), .int .i64 (i : Int), u11, u12, .pointer (some ⟨g13, 0, none⟩), .bool true, .slice A j c, .int .i64 (j : Int), .bool (decide (30 < (j : Int))), undef, .agg #[.int .u8 0, .int .u8 0, .int .u8 0, .int .u8 0, .int .u8 0, .int .u8 0, .int .u8 0, .int .u8 0, .int .u8 0, .int .u8 0, .int .u8 0, .int .u8 0], .agg #[.bool m.cursor, .bool m.keypad, .bool m.back, .bool m.focus, .bool m.paste, .bool m.lock, .bool m.line, .int .i64 m.mouse, .int .i64 m.coding, .int .i64 m.other], .int .i64 n, .slice (some ⟨w1.heap.size, 0, none⟩) 1 1, .agg #[.int .u8 (d0.toNat : Int), .int .u8 (d1.toNat : Int), .int .u8 (d2.toNat : Int), .int .u8 (d3.toNat : Int), .int .u8 (d4.toNat : Int), .int .u8 (d5.toNat : Int), .int .u8 (d6.toNat : Int), .int .u8 (d7.toNat : Int), .int .u8 (d8.toNat : Int), .int .u8 (d9.toNat : Int), .int .u8 (d10.toNat : Int), .int .u8 (d11.toNat : Int)], .agg #[.bool m.cursor, .bool m.keypad, .bool m.back, .bool m.focus, .bool m.paste, .bool m.lock, .bool m.line, .int .i64 m.mouse, .int .i64 m.coding, .int .i64 m.other], .int .i64 (i : Int), .slice A j c, .int .i64 (j : Int), .bool false, u29, u30, u31, u32, u33, u34, u35, u36, u37, u38, u39, u40, u41, u42, u43, .agg #[.int .u8 (d0.toNat : Int), .int .u8 (d1.toNat : Int), .int .u8 (d2.toNat : Int), .int .u8 (d3.toNat : Int), .int .u8 (d4.toNat : Int), .int .u8 (d5.toNat : Int), .int .u8 (d6.toNat : Int), .int .u8 (d7.toNat : Int), .int .u8 (d8.toNat : Int), .int .u8 (d9.toNat : Int), .int .u8 (d10.toNat : Int), .int .u8 (d11.toNat : Int)], .agg #[.bool mk.cursor, .bool mk.keypad, .bool mk.back, .bool mk.focus, .bool mk.paste, .bool mk.lock, .bool mk.line, .int .i64 mk.mouse, .int .i64 mk.coding, .int .i64 mk.other], .int .i64 n, .slice (some ⟨wr.heap.size, 0, none⟩) 1 1, .agg #[.bool mr.cursor, .bool mr.keypad, .bool mr.back, .bool mr.focus, .bool mr.paste, .bool mr.lock, .bool mr.line, .int .i64 mr.mouse, .int .i64 mr.coding, .int .i64 mr.other], .bool true, .bool true, .agg #[.bool mr.cursor, .bool mr.keypad, .bool mr.back, .bool mr.focus, .bool mr.paste, .bool mr.lock, .bool mr.line, .int .i64 mr.mouse, .int .i64 mr.coding, .int .i64 mr.other], .int .i64 n, .int .i64 y, .agg #[.bool m.cursor, .bool m.keypad, .bool m.back, .bool m.focus, .bool m.paste, .bool m.lock, .bool m.line, .int .i64 m.mouse, .int .i64 m.coding, .int .i64 m.other], .int .i64 n, .int .i64 y, .bool (y == y), .bool (y == y)], []⟩ (near_of [.bool true, .bool true, .agg #[.bool mr.cursor, .bool mr.keypad, .bool mr.back, .bool mr.focus, .bool mr.paste, .bool mr.lock, .bool mr.line, .int .i64 mr.mouse, .int .i64 mr.coding, .int .i64 mr.other], .int .i64 n, .int .i64 y, .agg #[.bool m.cursor, .bool m.keypad, .bool m.back, .bool m.focus, .bool m.paste, .bool m.lock, .bool m.line, .int .i64 m.mouse, .int .i64 m.coding, .int .i64 m.other], .int .i64 n, .int .i64 y, .bool (y == y), .bool (y == y), .bool (y == y)] (by kernel_rfl)) (Below.refl _ _).drew (goesAll_of
        (all_cons (goes_at (.bool true) rfl (by kernel_rfl) (by kernel_rfl) (goes_val fun w _ => by kernel_rfl)) 
        (all_cons (goes_at (.bool true) rfl (by kernel_rfl) (by kernel_rfl) (goes_val fun w _ => by kernel_rfl)) 
        (all_cons (goes_at (.agg #[.bool mr.cursor, .bool mr.keypad, .bool mr.back, .bool mr.focus, .bool mr.paste, .bool mr.lock, .bool mr.line, .int .i64 mr.mouse, .int .i64 mr.coding, .int .i64 mr.other]) rfl (by kernel_rfl) (by kernel_rfl) (goes_load rfl (by kernel_rfl) l13 Try.underlying25 rfl (by kernel_rfl))) 
        (all_cons (goes_at (.int .i64 n) rfl (by kernel_rfl) (by kernel_rfl) (goes_val fun w _ => by kernel_rfl)) 
        (all_cons (goes_at (.int .i64 y) rfl (by kernel_rfl) (by kernel_rfl) (goes_call (fun w => by kernel_rfl) (fun W hW => pget_at (m := mr) W HNN.out HY1.out) st)) 
        (all_cons (goes_at (.agg #[.bool m.cursor, .bool m.keypad, .bool m.back, .bool m.focus, .bool m.paste, .bool m.lock, .bool m.line, .int .i64 m.mouse, .int .i64 m.coding, .int .i64 m.other]) rfl (by kernel_rfl) (by kernel_rfl) (goes_load rfl (by kernel_rfl) l3 Try.underlying25 rfl (by kernel_rfl))) 
        (all_cons (goes_at (.int .i64 n) rfl (by kernel_rfl) (by kernel_rfl) (goes_val fun w _ => by kernel_rfl)) 
        (all_cons (goes_at (.int .i64 y) rfl (by kernel_rfl) (by kernel_rfl) (goes_call (fun w => by kernel_rfl) (fun W hW => pget_at (m := m) W HNN.out HY2.out) st)) 
        (all_cons (goes_at (.bool (y == y)) rfl (by kernel_rfl) (by kernel_rfl) (goes_val fun w _ => by kernel_rfl)) 
        (all_cons (goes_at (.bool (y == y)) rfl (by kernel_rfl) (by kernel_rfl) (goes_val fun w _ => by kernel_rfl)) 
        (all_cons (goes_at (.bool (y == y)) rfl (by kernel_rfl) (by kernel_rfl) (goes_val fun w _ => by kernel_rfl)) all_nil)))))))))))) ?_
      intro w6 hw6
      have hE := below_step hbw5 hw6 hbw5.size
      go_wp2_with fail
      go_ret
      exact ⟨by simp, hE⟩
theorem saveBack_walk (H : SavC Inv) (m : Mo) (hm : okM m) (n : Int) (lo : -9223372036854775808 ≤ n) (hi : n ≤ 9223372036854775807) (A : Option Addr) (l : List Int) (c : Nat) (_hk : l.length ≤ c) (w : World) (hr : Rd w A (is_ l)) (hli : ∀ z ∈ l, (Lit.int .i64 z).wf = true) (hv : Inv w) :
    Calls Try.prog 4 #[moV m, .int .i64 n, .slice A l.length c] w fun e w' => e = .returned (.bool true) ∧ Below w.heap.size w w' := by
  by_cases h : 30 < l.length
  · exact back_many H m n A c _ w h hv
  · exact back_few H m hm n ⟨by omega, by omega⟩ A l c _ rfl w hr (fun z hz => by
      have := bounds_i64 (hli z hz)
      exact ⟨by omega, by omega⟩) (by omega) hv
end
end Go.Proofs.Ytokhchejkfhmmaa
