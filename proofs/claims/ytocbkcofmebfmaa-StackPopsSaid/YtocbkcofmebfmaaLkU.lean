/-
  Layer 8: the walk of StackBack.
-/
import Derived.Test.YtocbkcofmebfmaaLkT
namespace Go.Proofs.Ytocbkcofmebfmaa
open Go.RowKit

/-- A stack that is told, its row outside a block. -/
def FO (g6 : Nat) (x : St) (xn : Int) (k : Nat) (v : Value) (w : World) : Prop := ∃ A c, v = .agg #[.int .i64 xn, .slice A k c] ∧ k ≤ c ∧ RdOff w (fun b => b = g6) A (is_ x.kept)
theorem FO.below {g6 : Nat} {x : St} {xn : Int} {k : Nat} {v : Value} {w w' : World} (h : FO g6 x xn k v w) (hb : Below w.heap.size w w') : FO g6 x xn k v w' := by
  obtain ⟨A, c, h1, h2, h3⟩ := h
  exact ⟨A, c, h1, h2, h3.fr (Fr.of_below hb _) (Wid.refl _ _)⟩
theorem fo_of {g6 : Nat} {x : St} {xn : Int} {k : Nat} {w : World} {e : Ending} {w' : World} (h : StkA (fun b => b = g6) x xn k w e w') : ∃ v, e = .returned v ∧ FO g6 x xn k v w' ∧ Below w.heap.size w w' := by
  obtain ⟨A, c, rfl, h1, h2, h3⟩ := h
  exact ⟨_, rfl, ⟨A, c, rfl, h1, h2⟩, h3⟩
section
variable {Inv : World → Prop}
set_option maxRecDepth 100000 in
set_option maxHeartbeats 16000000 in
theorem back8_many (H : StackC Inv) (now : Int) (A : Option Addr) (c j : Nat) (w : World) (h8 : 8 < j) (hv : Inv w) :
    Calls Try.prog 4 #[.int .i64 now, .slice A j c] w fun e w' => e = .returned (.bool true) ∧ Below w.heap.size w w' := by
  go_enter Try.func4, Try.ntmps4
  go_wp2_with fail
  refine (stackAwake H _ hv).mono ?_
  rintro e w1 ⟨rfl, hb1⟩
  go_wp2_with fail
  go_ret
  exact ⟨rfl, hb1⟩
set_option maxRecDepth 100000 in
set_option maxHeartbeats 32000000 in
theorem back8_few (H : StackC Inv) (now : Int) (LA : Option Addr) (l : List Int) (c j : Nat) (hj : l.length = j) (h8 : j ≤ 8) (hli : ∀ z ∈ l, inK z) (w : World) (hr : Rd w LA (is_ l)) (hv : Inv w) :
    Calls Try.prog 4 #[.int .i64 now, .slice LA j c] w fun e w' => e = .returned (.bool true) ∧ Below w.heap.size w w' := by
  obtain ⟨F, hF⟩ : ∃ F, flg now = F := ⟨_, rfl⟩
  have hFr : okF F := by rw [← hF]; exact flg_rng now
  obtain ⟨s0, hs0⟩ : ∃ s : St, s = ⟨F, []⟩ := ⟨_, rfl⟩
  have hok0 : okS s0 := by rw [hs0]; exact ⟨hFr, by simp, by simp⟩
  have hk0 : s0.kept.length = 0 := by rw [hs0]; rfl
  have hn0 : s0.now = F := by rw [hs0]
  have HJ := Lib.hid hj
  have HLI := Lib.hid hli
  have HOK := Lib.hid hok0
  have HK0 := Lib.hid hk0
  have HN0 := Lib.hid hn0
  have hE0 : is_ s0.kept = [] := by rw [hs0]; rfl
  have HE0 := Lib.hid hE0
  clear hs0 hok0 hk0 hn0 hj hli hFr hE0
  go_enter Try.func4, Try.ntmps4
  go_wp2_with fail
  refine (stackAwake H _ hv).mono ?_
  rintro e w1 ⟨rfl, hb1⟩
  have hfl := rflags_any now w1
  rw [hF] at hfl
  clear hF
  go_wp2_with fail
  refine hfl.mono ?_
  rintro e w2 ⟨rfl, hb2⟩
  have hbe2 := below_step8 hb1 hb2 hb1.size
  have k6a := Blk.new w2 27 #[.int .i64 F, .slice none 0 0]
  have k6b := k6a.alloc (.cells #[.int .i64 F, .slice none 0 0] 27)
  have k7b := Blk.new (w2.alloc (.cells #[.int .i64 F, .slice none 0 0] 27)) 27 #[.int .i64 F, .slice none 0 0]
  have hbe3 := hbe2.alloc hbe2.size (.cells #[.int .i64 F, .slice none 0 0] 27)
  have hbe4 := hbe3.alloc hbe3.size (.cells #[.int .i64 F, .slice none 0 0] 27)
  have a0 := k6a.cell 0
  have a1 := k6a.cell 1
  simp only [World.size_alloc] at k7b
  clear hfl hb1 hb2
  go_wp2_with fail
  clear a0 a1 k6a hbe3
  obtain ⟨g6, hg6⟩ : ∃ g, w2.heap.size = g := ⟨_, rfl⟩
  obtain ⟨g7, hg7⟩ : ∃ g, g6 + 1 = g := ⟨_, rfl⟩
  have hne : g7 ≠ g6 := by omega
  have hge : w.heap.size ≤ g6 := by rw [← hg6]; exact hbe2.size
  rw [hg6] at k6b k7b ⊢
  rw [hg7] at k7b ⊢
  clear hg6 hg7 hbe2
  go_loopw [8] (fun z wr => ∃ (i : Nat) (x : St) (xn : Int) (A : Option Addr) (d : Nat), i ≤ j ∧ z = .int .i64 i ∧ Hid (pushAll s0 (l.take i) = x) ∧ Hid (x.now = xn) ∧ i ≤ d ∧ Blk wr g6 27 #[.int .i64 xn, .slice A i d] ∧ Blk wr g7 27 #[.int .i64 F, .slice none 0 0] ∧ RdOff wr (fun b => b = g6) A (is_ x.kept) ∧ Below w.heap.size w wr) (fun z _ => j - (intOf z).toNat)
  case atStart => exact ⟨0, s0, F, none, 0, Nat.zero_le _, rfl, Lib.hid rfl, HN0, Nat.le_refl _, k6b, k7b, by rw [HE0.out]; exact RdOff.nil _ _ _, hbe4⟩
  case round =>
    clear k6b k7b hbe4
    obtain ⟨i, x, xn, A, d, hij, rfl, HX, HXN, hid, k6, k7, hro, hbw⟩ := hrel
    have hlen : (l.take i).length = i := by rw [List.length_take, HJ.out]; omega
    have hokx : okS x := by rw [← HX.out]; exact ok_pushAll _ HOK.out
    have hkx : x.kept.length = i := by
      rw [← HX.out, pushAll_kept _ _ (by rw [HK0.out, hlen]; omega), HK0.out, hlen, Nat.zero_add]
    have l6 : ∀ W, Below wr.heap.size wr W → Blk W g6 27 #[.int .i64 xn, .slice A i d] := fun W h => k6.below h k6.lt
    have HV : Hid (∀ W, Below wr.heap.size wr W → Inv W) := Lib.hid fun W hb => H.invB hv (below_step8 hbw hb hbw.size)
    have HR : Hid (∀ W, Below wr.heap.size wr W → RdOff W (fun b => b = g6) A (is_ x.kept)) := Lib.hid fun W hb => hro.fr (Fr.of_below hb _) (Wid.refl _ _)
    by_cases hlt : i < j
    · have hil : i < l.length := by rw [HJ.out]; exact hlt
      obtain ⟨b, o, rfl, hbl, hcc⟩ := hr.ints_at8 (by omega)
      obtain ⟨z, hz⟩ : ∃ z, l[i]'hil = z := ⟨_, rfl⟩
      have hzk : inK z := by rw [← hz]; exact HLI.out _ (List.getElem_mem hil)
      have hcz : wr.cell? ⟨b, o + i, none⟩ = some (.int .i64 z) := by rw [← hz]; exact (hbw.cell (p := ⟨b, o + i, none⟩) hbl).trans (hcc i hil)
      have hbr : b < wr.heap.size := World.block_lt_of_cell? wr _ hcz
      obtain ⟨x1, hx1⟩ : ∃ y, pushS x z = y := ⟨_, rfl⟩
      obtain ⟨n1, hn1⟩ : ∃ y, x1.now = y := ⟨_, rfl⟩
      have HX1 := Lib.hid (show pushAll s0 (l.take (i + 1)) = x1 by rw [List.take_succ_eq_append_getElem hil, pushAll_snoc, HX.out, hz, hx1])
      have HN1 := Lib.hid hn1
      have hk1 : x1.kept.length = i + 1 := by
        rw [← hx1]
        show (last8 _).length = _
        rw [last8_len, List.length_append, hkx]
        simp
        omega
      have HPU : Hid (∀ W, Inv W → RdOff W (fun b => b = g6) A (is_ x.kept) → g6 < W.heap.size → Calls Try.prog 13 #[.agg #[.int .i64 xn, .slice A i d], .int .i64 z] W fun e w' => ∃ v, e = .returned v ∧ FO g6 x1 n1 (i + 1) v w' ∧ Below W.heap.size W w') := Lib.hid fun W hW hR hg => (H.push_at W hW (fun k hk => by rw [hk]; exact hg) hokx hkx hid hzk hR HXN.out hx1 hn1 hk1).mono fun _ _ => fo_of
      have lz : ∀ W, Below wr.heap.size wr W → W.cell? ⟨b, o + i, none⟩ = some (.int .i64 z) := fun W h => (h.cell (p := ⟨b, o + i, none⟩) hbr).trans hcz
      have gk0 : (i : Int) < (j : Int) := by omega
      have h6lt : ∀ W, Below wr.heap.size wr W → g6 < W.heap.size := fun W h => Nat.lt_of_lt_of_le k6.lt h.size
      have hst : ∀ f ∈ ([⟨5, 29, FO g6 x1 n1 (i + 1)⟩] : List Fact), f.ok := all_ok fun q f hq => by
        match q, hq with
        | 0, hq => obtain rfl := Option.some.inj hq; exact fun _ _ _ h hb => h.below hb
        | q + 1, hq => simp at hq
      clear hcc hz hx1 hn1 hk1 hlen hokx hkx
      go_wp2_with fail
      refine wp_region_last (w1 := wr) (K := [⟨5, 29, FO g6 x1 n1 (i + 1)⟩]) (ix := 6) (iz := 6) (R0 := fun _ _ _ => True) (R1 := fun g ws w => ∃ cs : Array Value, g 29 = .agg cs ∧ w = ws.setCells g6 0 cs.toList) [29] (⟨#[.int .i64 now, .slice (some ⟨b, o, none⟩) j c, undef, undef, .bool false, .bool true, .pointer (some ⟨g6, 0, none⟩), .pointer (some ⟨g7, 0, none⟩), .int .i64 (i : Int), .bool true, .slice (some ⟨b, o, none⟩) j c, .int .i64 (j : Int), .bool (decide (8 < (j : Int))), undef, .int .i64 now, .int .i64 F, .agg #[.int .i64 F, .slice none 0 0], .agg #[.int .i64 F, .slice none 0 0], .int .i64 (i : Int), .slice (some ⟨b, o, none⟩) j c, .int .i64 (j : Int), .bool true, u22, u23, .agg #[.int .i64 xn, .slice A i d], .slice (some ⟨b, o, none⟩) j c, .int .i64 (i : Int), .pointer (some ⟨b, o + i, none⟩), .int .i64 z, undef, undef, undef, undef, undef, undef, undef, undef, undef, undef, undef, undef, undef, undef, undef, undef, undef, undef], []⟩) (fun g => ⟨#[.int .i64 now, .slice (some ⟨b, o, none⟩) j c, undef, undef, .bool false, .bool true, .pointer (some ⟨g6, 0, none⟩), .pointer (some ⟨g7, 0, none⟩), .int .i64 (i : Int), .bool true, .slice (some ⟨b, o, none⟩) j c, .int .i64 (j : Int), .bool (decide (8 < (j : Int))), undef, .int .i64 now, .int .i64 F, .agg #[.int .i64 F, .slice none 0 0], .agg #[.int .i64 F, .slice none 0 0], .int .i64 (i : Int), .slice (some ⟨b, o, none⟩) j c, .int .i64 (j : Int), .bool true, u22, u23, .agg #[.int .i64 xn, .slice A i d], .slice (some ⟨b, o, none⟩) j c, .int .i64 (i : Int), .pointer (some ⟨b, o + i, none⟩), .int .i64 z, (g 29), undef, undef, undef, undef, undef, undef, undef, undef, undef, undef, undef, undef, undef, undef, undef, undef, undef], []⟩) [.agg #[.int .i64 xn, .slice A i d], .slice (some ⟨b, o, none⟩) j c, .int .i64 (i : Int), .pointer (some ⟨b, o + i, none⟩), .int .i64 z, undef, undef] (by kernel_rfl) (by kernel_rfl) (by kernel_rfl) (fun g => by kernel_rfl) (by kernel_rfl) (Below.refl _ _).drew (by decide)
        (goes_cons (goesK_load hst (ahead_path [0] (by kernel_rfl) (by decide)) rfl (by decide) (by decide) (by kernel_rfl) (fun g => by kernel_rfl) rfl (fun g => by kernel_rfl) rfl (fun g => by kernel_rfl) l6 Try.underlying27 rfl (by kernel_rfl)) 
        (goes_cons (goesK_pure (fun _ => .slice (some ⟨b, o, none⟩) j c) rfl (by decide) (by decide) (by kernel_rfl) (fun g => by kernel_rfl) rfl (fun g => by kernel_rfl) (fun g w => by kernel_rfl)) 
        (goes_cons (goesK_pure (fun _ => .int .i64 (i : Int)) rfl (by decide) (by decide) (by kernel_rfl) (fun g => by kernel_rfl) rfl (fun g => by kernel_rfl) (fun g w => by kernel_rfl)) 
        (goes_cons (goesK_index (b := b) (q := o) (m := j) (c := c) (k := i) rfl (by decide) (by decide) (by kernel_rfl) (fun g => by kernel_rfl) rfl (fun g => by kernel_rfl) rfl (fun g => by kernel_rfl) (fun g => by kernel_rfl) hlt Try.underlying22 (fun w => by kernel_rfl)) 
        (goes_cons (goesK_cell hst (ahead_path [4] (by kernel_rfl) (by decide)) rfl (by decide) (by decide) (by kernel_rfl) (fun g => by kernel_rfl) rfl (fun g => by kernel_rfl) rfl (fun g => by kernel_rfl) lz (fun w => by kernel_rfl)) 
        (goes_cons (goesK_ghost (args := fun g => #[.agg #[.int .i64 xn, .slice A i d], .int .i64 z]) hst (ahead_path [5] (by kernel_rfl) (by decide)) rfl (by decide) (by decide) 0 rfl (by kernel_rfl) (fun g => by kernel_rfl) rfl (fun g => by kernel_rfl) (fun g w => by kernel_rfl) (fun g W hW hin => HPU.out W (HV.out W hW) (HR.out W hW) (h6lt W hW))) 
        (goes_cons (goesK_box rfl rfl rfl (by kernel_rfl) (fun g => by kernel_rfl) rfl rfl (fun g => by kernel_rfl) (fun g => by kernel_rfl) k6 (by kernel_rfl) (fun g W hW hK => by obtain ⟨A2, c2, e2, _⟩ := hK 0 _ rfl; exact ⟨_, e2, rfl, rfl⟩)) goes_nil))))))) ?_
      rintro g ws W hW hK ⟨cs, ecs, rfl⟩
      obtain ⟨A2, c2, e2, hc2, r2⟩ := hK 0 _ rfl
      have e2' : g 29 = _ := e2
      obtain rfl : cs = #[.int .i64 n1, .slice A2 (i + 1) c2] := by
        rw [e2'] at ecs
        injection ecs with h
        exact h.symm
      have kE := (k6.below hW k6.lt).setAll (ds := #[.int .i64 n1, .slice A2 (i + 1) c2]) rfl
      have hfr := setCells_fr g6 [.int .i64 n1, .slice A2 (i + 1) c2] ws
      have k7E := (k7.below hW k7.lt).fr hfr hne
      have rE := r2.fr hfr (Wid.refl _ _)
      have bE := (below_step8 hbw hW hbw.size).trans (hfr.below (B := w.heap.size) (Nat.le_trans hbw.size hW.size) (fun k hk => by omega))
      rw [e2']
      clear hK k6 k7 hro hbw l6 lz hst hW ecs e2 hfr r2
      go_wp2_with fail
      go_roundw
      case rel => exact ⟨i + 1, x1, n1, A2, c2, by omega, by go_num, HX1, HN1, hc2, kE, k7E, rE, bE⟩
      case measure => simp [intOf]; omega
    · obtain rfl : i = j := by omega
      have hpp : popS x (i : Int) = s0 := by
        show popN ((i : Int).toNat) x = s0
        rw [Int.toNat_natCast, ← HX.out]
        have := pop_pushAll (l.take i) s0 (by rw [HK0.out, hlen]; omega)
        rwa [hlen] at this
      have HPO : Hid (∀ W, Inv W → RdOff W (fun b => b = g6) A (is_ x.kept) → Calls Try.prog 15 #[.agg #[.int .i64 xn, .slice A i d], .int .i64 (i : Int)] W fun e w' => ∃ v, e = .returned v ∧ FS s0 F 0 v w' ∧ Below W.heap.size W w') := Lib.hid fun W hW hR => (H.pop_at W hW (no_set W) hokx hkx hid ⟨by omega, by omega⟩ (rd_off hR.rd) HXN.out hpp HN0.out HK0.out).mono fun _ _ => fs_of
      have HSA : Hid (∀ W, Inv W → ∀ A1 c1, Rd W A1 (is_ s0.kept) → Calls Try.prog 20 #[.agg #[.int .i64 F, .slice A1 0 c1], .agg #[.int .i64 F, .slice none 0 0]] W fun e w' => e = .returned (.bool true) ∧ Below W.heap.size W w') := Lib.hid fun W hW A1 c1 hR => H.same_at W hW HK0.out HK0.out (by omega) (by omega) hR (by rw [HE0.out]; exact Rd.nil _ _) HN0.out HN0.out (sameS_self s0)
      have l7 : ∀ W, Below wr.heap.size wr W → Blk W g7 27 #[.int .i64 F, .slice none 0 0] := fun W h => k7.below h k7.lt
      have l61 : ∀ W, Below wr.heap.size wr W → W.cell? ⟨g6, 1, none⟩ = some (.slice A i d) := fun W h => (k6.below h k6.lt).cell 1
      have gk0 : (i : Int) ≤ (i : Int) := by omega
      have hst : ∀ f ∈ ([⟨5, 35, FS s0 F 0⟩] : List Fact), f.ok := all_ok fun q f hq => by
        match q, hq with
        | 0, hq => obtain rfl := Option.some.inj hq; exact fun _ _ _ h hb => h.below hb
        | q + 1, hq => simp at hq
      clear hlen hokx hkx hpp
      go_wp2_with fail
      refine wp_region_told (w1 := wr) (K := [⟨5, 35, FS s0 F 0⟩]) (ix := 1000) (R0 := fun _ _ _ => True) (R1 := fun _ _ _ => True) [35] (⟨#[.int .i64 now, .slice LA i c, undef, undef, .bool true, .bool true, .pointer (some ⟨g6, 0, none⟩), .pointer (some ⟨g7, 0, none⟩), .int .i64 (i : Int), .bool true, .slice LA i c, .int .i64 (i : Int), .bool (decide (8 < (i : Int))), undef, .int .i64 now, .int .i64 F, .agg #[.int .i64 F, .slice none 0 0], .agg #[.int .i64 F, .slice none 0 0], .int .i64 (i : Int), .slice LA i c, .int .i64 (i : Int), .bool false, u22, u23, u24, u25, u26, u27, u28, u29, .bool true, .bool true, .agg #[.int .i64 xn, .slice A i d], .slice LA i c, .int .i64 (i : Int), undef, .agg #[.int .i64 F, .slice none 0 0], .bool true, .bool true, .bool true, .pointer (some ⟨g6, 1, none⟩), .slice A i d, .int .i64 (i : Int), .slice LA i c, .int .i64 (i : Int), .bool true, .bool true], []⟩) (fun g => ⟨#[.int .i64 now, .slice LA i c, undef, undef, .bool true, .bool true, .pointer (some ⟨g6, 0, none⟩), .pointer (some ⟨g7, 0, none⟩), .int .i64 (i : Int), .bool true, .slice LA i c, .int .i64 (i : Int), .bool (decide (8 < (i : Int))), undef, .int .i64 now, .int .i64 F, .agg #[.int .i64 F, .slice none 0 0], .agg #[.int .i64 F, .slice none 0 0], .int .i64 (i : Int), .slice LA i c, .int .i64 (i : Int), .bool false, u22, u23, u24, u25, u26, u27, u28, u29, .bool true, .bool true, .agg #[.int .i64 xn, .slice A i d], .slice LA i c, .int .i64 (i : Int), (g 35), .agg #[.int .i64 F, .slice none 0 0], .bool true, .bool true, .bool true, .pointer (some ⟨g6, 1, none⟩), .slice A i d, .int .i64 (i : Int), .slice LA i c, .int .i64 (i : Int), .bool true, .bool true], []⟩) [.bool true, .bool true, .agg #[.int .i64 xn, .slice A i d], .slice LA i c, .int .i64 (i : Int), undef, .agg #[.int .i64 F, .slice none 0 0], .bool true, .bool true, .bool true, .pointer (some ⟨g6, 1, none⟩), .slice A i d, .int .i64 (i : Int), .slice LA i c, .int .i64 (i : Int), .bool true, .bool true, .bool true] (by kernel_rfl) (by kernel_rfl) (by kernel_rfl) (fun g => by kernel_rfl) (by kernel_rfl) (Below.refl _ _).drew (by decide) (by kernel_rfl)
        (goes_cons (goesK_pure (fun _ => .bool true) rfl (by decide) (by decide) (by kernel_rfl) (fun g => by kernel_rfl) rfl (fun g => by kernel_rfl) (fun g w => by kernel_rfl)) 
        (goes_cons (goesK_pure (fun _ => .bool true) rfl (by decide) (by decide) (by kernel_rfl) (fun g => by kernel_rfl) rfl (fun g => by kernel_rfl) (fun g w => by kernel_rfl)) 
        (goes_cons (goesK_load hst (ahead_none (by decide)) rfl (by decide) (by decide) (by kernel_rfl) (fun g => by kernel_rfl) rfl (fun g => by kernel_rfl) rfl (fun g => by kernel_rfl) l6 Try.underlying27 rfl (by kernel_rfl)) 
        (goes_cons (goesK_pure (fun _ => .slice LA i c) rfl (by decide) (by decide) (by kernel_rfl) (fun g => by kernel_rfl) rfl (fun g => by kernel_rfl) (fun g w => by kernel_rfl)) 
        (goes_cons (goesK_pure (fun _ => .int .i64 (i : Int)) rfl (by decide) (by decide) (by kernel_rfl) (fun g => by kernel_rfl) rfl (fun g => by kernel_rfl) (fun g w => by kernel_rfl)) 
        (goes_cons (goesK_ghost (args := fun g => #[.agg #[.int .i64 xn, .slice A i d], .int .i64 (i : Int)]) hst (ahead_none (by decide)) rfl (by decide) (by decide) 0 rfl (by kernel_rfl) (fun g => by kernel_rfl) rfl (fun g => by kernel_rfl) (fun g w => by kernel_rfl) (fun g W hW hin => HPO.out W (HV.out W hW) (HR.out W hW))) 
        (goes_cons (goesK_load hst (ahead_none (by decide)) rfl (by decide) (by decide) (by kernel_rfl) (fun g => by kernel_rfl) rfl (fun g => by kernel_rfl) rfl (fun g => by kernel_rfl) l7 Try.underlying27 rfl (by kernel_rfl)) 
        (goes_cons (goesK_call (args := fun g => #[g 35, .agg #[.int .i64 F, .slice none 0 0]]) hst (ahead_none (by decide)) rfl (by decide) (by decide) (by kernel_rfl) (fun g => by kernel_rfl) rfl (fun g => by kernel_rfl) (fun g w => by kernel_rfl) (fun g W hW hin => by
        obtain ⟨A1, c1, e1, _, r1⟩ := hin 0 _ rfl (by kernel_rfl)
        have e1' : g 35 = _ := e1
        show Calls _ _ #[g 35, .agg #[.int .i64 F, .slice none 0 0]] W _
        rw [e1']
        exact HSA.out W (HV.out W hW) A1 c1 r1)) 
        (goes_cons (goesK_pure (fun _ => .bool true) rfl (by decide) (by decide) (by kernel_rfl) (fun g => by kernel_rfl) rfl (fun g => by kernel_rfl) (fun g w => by kernel_rfl)) 
        (goes_cons (goesK_pure (fun _ => .bool true) rfl (by decide) (by decide) (by kernel_rfl) (fun g => by kernel_rfl) rfl (fun g => by kernel_rfl) (fun g w => by kernel_rfl)) 
        (goes_cons (goesK_pure (fun _ => .pointer (some ⟨g6, 1, none⟩)) rfl (by decide) (by decide) (by kernel_rfl) (fun g => by kernel_rfl) rfl (fun g => by kernel_rfl) (fun g w => by kernel_rfl)) 
        (goes_cons (goesK_cell hst (ahead_none (by decide)) rfl (by decide) (by decide) (by kernel_rfl) (fun g => by kernel_rfl) rfl (fun g => by kernel_rfl) rfl (fun g => by kernel_rfl) l61 (fun w => by kernel_rfl)) 
        (goes_cons (goesK_pure (fun _ => .int .i64 (i : Int)) rfl (by decide) (by decide) (by kernel_rfl) (fun g => by kernel_rfl) rfl (fun g => by kernel_rfl) (fun g w => by kernel_rfl)) 
        (goes_cons (goesK_pure (fun _ => .slice LA i c) rfl (by decide) (by decide) (by kernel_rfl) (fun g => by kernel_rfl) rfl (fun g => by kernel_rfl) (fun g w => by kernel_rfl)) 
        (goes_cons (goesK_pure (fun _ => .int .i64 (i : Int)) rfl (by decide) (by decide) (by kernel_rfl) (fun g => by kernel_rfl) rfl (fun g => by kernel_rfl) (fun g w => by kernel_rfl)) 
        (goes_cons (goesK_bin (v := .bool true) (xv := .int .i64 (i : Int)) (yv := .int .i64 (i : Int)) rfl (by decide) (by decide) (by kernel_rfl) (fun g => by kernel_rfl) rfl (fun g => by kernel_rfl) rfl (fun g => by kernel_rfl) (fun g => by kernel_rfl) (fun w => by go_simp)) 
        (goes_cons (goesK_pure (fun _ => .bool true) rfl (by decide) (by decide) (by kernel_rfl) (fun g => by kernel_rfl) rfl (fun g => by kernel_rfl) (fun g w => by kernel_rfl)) 
        (goes_cons (goesK_pure (fun _ => .bool true) rfl (by decide) (by decide) (by kernel_rfl) (fun g => by kernel_rfl) rfl (fun g => by kernel_rfl) (fun g w => by kernel_rfl)) goes_nil)))))))))))))))))) ?_
      intro g W hW hK
      have hbE := below_step8 hbw hW hbw.size
      clear hK hst
      go_wp2_with fail
      go_ret
      exact ⟨rfl, hbE⟩
theorem stackBack_walk (H : StackC Inv) (now : Int) (_lo : -9223372036854775808 ≤ now) (_hi : now ≤ 9223372036854775807) (A : Option Addr) (l : List Int) (c : Nat) (_hk : l.length ≤ c) (w : World) (hr : Rd w A (is_ l)) (hli : ∀ z ∈ l, (Lit.int .i64 z).wf = true) (hv : Inv w) :
    Calls Try.prog 4 #[.int .i64 now, .slice A l.length c] w fun e w' => e = .returned (.bool true) ∧ Below w.heap.size w w' := by
  by_cases h : 8 < l.length
  · exact back8_many H now A c _ w h hv
  · exact back8_few H now A l c _ rfl (by omega) (fun z hz => by
      have := bounds_i64 (hli z hz)
      exact ⟨by omega, by omega⟩) w hr hv
end
end Go.Proofs.Ytocbkcofmebfmaa
