/-
  Layer 8: the walk of StackDeep.
-/
import Derived.Test.YtocbkcofmebfmaaLkU
namespace Go.Proofs.Ytocbkcofmebfmaa
open Go.RowKit

section
variable {Inv : World → Prop}
set_option maxRecDepth 100000 in
set_option maxHeartbeats 16000000 in
theorem deep_many (H : StackC Inv) (A : Option Addr) (c j : Nat) (n : Int) (w : World) (h8 : 40 < j) (hv : Inv w) :
    Calls Try.prog 5 #[.slice A j c, .int .u8 n] w fun e w' => e = .returned (.bool true) ∧ Below w.heap.size w w' := by
  go_enter Try.func5, Try.ntmps5
  go_wp2_with fail
  refine (stackAwake H _ hv).mono ?_
  rintro e w1 ⟨rfl, hb1⟩
  go_wp2_with fail
  go_ret
  exact ⟨rfl, hb1⟩
set_option maxRecDepth 100000 in
set_option maxHeartbeats 32000000 in
theorem deep_few (H : StackC Inv) (LA : Option Addr) (l : List Int) (c j : Nat) (hj : l.length = j) (h8 : j ≤ 40) (hli : ∀ z ∈ l, inK z) (n : Int) (n0 : 0 ≤ n) (n255 : n ≤ 255) (w : World) (hr : Rd w LA (is_ l)) (hv : Inv w) :
    Calls Try.prog 5 #[.slice LA j c, .int .u8 n] w fun e w' => e = .returned (.bool true) ∧ Below w.heap.size w w' := by
  obtain ⟨s0, hs0⟩ : ∃ s : St, s = ⟨0, []⟩ := ⟨_, rfl⟩
  have hok0 : okS s0 := by rw [hs0]; exact okS_lit _ _ (by decide)
  have hk0 : s0.kept.length = 0 := by rw [hs0]; rfl
  have hn0 : s0.now = 0 := by rw [hs0]
  have hE0 : is_ s0.kept = [] := by rw [hs0]; rfl
  have HS0 := Lib.hid hs0
  have HJ := Lib.hid hj
  have HLI := Lib.hid hli
  have HOK := Lib.hid hok0
  have HK0 := Lib.hid hk0
  have HN0 := Lib.hid hn0
  have HE0 := Lib.hid hE0
  clear hs0 hok0 hk0 hn0 hj hli hE0
  go_enter Try.func5, Try.ntmps5
  go_wp2_with fail
  refine (stackAwake H _ hv).mono ?_
  rintro e w2 ⟨rfl, hbe2⟩
  have k6b := Blk.new w2 27 #[.int .i64 0, .slice none 0 0]
  have hbe4 := hbe2.alloc hbe2.size (.cells #[.int .i64 0, .slice none 0 0] 27)
  go_wp2_with fail
  obtain ⟨g6, hg6⟩ : ∃ g, w2.heap.size = g := ⟨_, rfl⟩
  have hge : w.heap.size ≤ g6 := by rw [← hg6]; exact hbe2.size
  rw [hg6] at k6b ⊢
  clear hg6 hbe2
  go_loopw [7] (fun z wr => ∃ (i : Nat) (x : St) (xn : Int) (A : Option Addr) (k d : Nat), i ≤ j ∧ z = .int .i64 i ∧ Hid (pushAll s0 (l.take i) = x) ∧ Hid (x.now = xn) ∧ Hid (x.kept.length = k) ∧ k ≤ d ∧ Blk wr g6 27 #[.int .i64 xn, .slice A k d] ∧ RdOff wr (fun b => b = g6) A (is_ x.kept) ∧ Below w.heap.size w wr) (fun z _ => j - (intOf z).toNat)
  case atStart => exact ⟨0, s0, 0, none, 0, 0, Nat.zero_le _, rfl, Lib.hid rfl, HN0, HK0, Nat.le_refl _, k6b, by rw [HE0.out]; exact RdOff.nil _ _ _, hbe4⟩
  case round =>
    clear k6b hbe4
    obtain ⟨i, x, xn, A, k, d, hij, rfl, HX, HXN, HXK, hid, k6, hro, hbw⟩ := hrel
    have hokx : okS x := by rw [← HX.out]; exact ok_pushAll _ HOK.out
    have hk8 : k ≤ 8 := by rw [← HXK.out]; exact hokx.2.2
    have HV : Hid (∀ W, Below wr.heap.size wr W → Inv W) := Lib.hid fun W hb => H.invB hv (below_step8 hbw hb hbw.size)
    have HR : Hid (∀ W, Below wr.heap.size wr W → RdOff W (fun b => b = g6) A (is_ x.kept)) := Lib.hid fun W hb => hro.fr (Fr.of_below hb _) (Wid.refl _ _)
    by_cases hlt : i < j
    · have l6 : ∀ W, Below wr.heap.size wr W → Blk W g6 27 #[.int .i64 xn, .slice A k d] := fun W h => k6.below h k6.lt
      have hil : i < l.length := by rw [HJ.out]; exact hlt
      obtain ⟨b, o, rfl, hbl, hcc⟩ := hr.ints_at8 (by omega)
      obtain ⟨z, hz⟩ : ∃ z, l[i]'hil = z := ⟨_, rfl⟩
      have hzk : inK z := by rw [← hz]; exact HLI.out _ (List.getElem_mem hil)
      have hcz0 := hcc i hil
      rw [hz] at hcz0
      have hcz : wr.cell? ⟨b, o + i, none⟩ = some (.int .i64 z) := (hbw.cell (p := ⟨b, o + i, none⟩) hbl).trans hcz0
      have hbr : b < wr.heap.size := World.block_lt_of_cell? wr _ hcz
      obtain ⟨x1, hx1⟩ : ∃ y, pushS x z = y := ⟨_, rfl⟩
      obtain ⟨n1, hn1⟩ : ∃ y, x1.now = y := ⟨_, rfl⟩
      obtain ⟨k1, hk1⟩ : ∃ y, x1.kept.length = y := ⟨_, rfl⟩
      have hk18 : k1 ≤ 8 := by rw [← hk1, ← hx1]; exact (ok_push hokx z).2.2
      have hfl1 : flg z = n1 := by rw [← hn1, ← hx1]; rfl
      have HX1 := Lib.hid (show pushAll s0 (l.take (i + 1)) = x1 by rw [List.take_succ_eq_append_getElem hil, pushAll_snoc, HX.out, hz, hx1])
      have HN1 := Lib.hid hn1
      have HK1 := Lib.hid hk1
      have HPU : Hid (∀ W, Inv W → RdOff W (fun b => b = g6) A (is_ x.kept) → g6 < W.heap.size → Calls Try.prog 13 #[.agg #[.int .i64 xn, .slice A k d], .int .i64 z] W fun e w' => ∃ v, e = .returned v ∧ FO g6 x1 n1 k1 v w' ∧ Below W.heap.size W w') := Lib.hid fun W hW hR hg => (H.push_at W hW (fun k hk => by rw [hk]; exact hg) hokx HXK.out hid hzk hR HXN.out hx1 hn1 hk1).mono fun _ _ => fo_of
      have HFL : Hid (∀ W, Calls Try.prog 19 #[.int .i64 z] W fun e w' => e = .returned (.int .i64 n1) ∧ Below W.heap.size W w') := Lib.hid fun W => by
        have := rflags_any z W
        rwa [hfl1] at this
      have lz : ∀ W, Below wr.heap.size wr W → W.cell? ⟨b, o + i, none⟩ = some (.int .i64 z) := fun W h => (h.cell (p := ⟨b, o + i, none⟩) hbr).trans hcz
      have gk0 : (i : Int) < (j : Int) := by omega
      have h6lt : ∀ W, Below wr.heap.size wr W → g6 < W.heap.size := fun W h => Nat.lt_of_lt_of_le k6.lt h.size
      have hst : ∀ f ∈ ([⟨5, 26, FO g6 x1 n1 k1⟩] : List Fact), f.ok := all_ok fun q f hq => by
        match q, hq with
        | 0, hq => obtain rfl := Option.some.inj hq; exact fun _ _ _ h hb => h.below hb
        | q + 1, hq => simp at hq
      clear hcc hz hx1 hn1 hk1 hokx hfl1
      go_wp2_with fail
      refine wp_region_last (w1 := wr) (K := [⟨5, 26, FO g6 x1 n1 k1⟩]) (ix := 6) (iz := 6) (R0 := fun _ _ _ => True) (R1 := fun g ws w => ∃ cs : Array Value, g 26 = .agg cs ∧ w = ws.setCells g6 0 cs.toList) [26] (⟨#[.slice (some ⟨b, o, none⟩) j c, .int .u8 n, undef, undef, u4, .bool true, .pointer (some ⟨g6, 0, none⟩), .int .i64 (i : Int), undef, .bool true, .slice (some ⟨b, o, none⟩) j c, .int .i64 (j : Int), .bool (decide (40 < (j : Int))), undef, .agg #[.int .i64 0, .slice none 0 0], .int .i64 (i : Int), .slice (some ⟨b, o, none⟩) j c, .int .i64 (j : Int), .bool true, u19, u20, .agg #[.int .i64 xn, .slice A k d], .slice (some ⟨b, o, none⟩) j c, .int .i64 (i : Int), .pointer (some ⟨b, o + i, none⟩), .int .i64 z, undef, u27, u28, u29, u30, u31, u32, u33, u34, u35, u36, u37, u38, u39, u40, undef, undef, undef, undef, undef, undef, undef, undef, undef, undef, undef, undef, undef, undef, undef, undef, undef], []⟩) (fun g => ⟨#[.slice (some ⟨b, o, none⟩) j c, .int .u8 n, undef, undef, u4, .bool true, .pointer (some ⟨g6, 0, none⟩), .int .i64 (i : Int), undef, .bool true, .slice (some ⟨b, o, none⟩) j c, .int .i64 (j : Int), .bool (decide (40 < (j : Int))), undef, .agg #[.int .i64 0, .slice none 0 0], .int .i64 (i : Int), .slice (some ⟨b, o, none⟩) j c, .int .i64 (j : Int), .bool true, u19, u20, .agg #[.int .i64 xn, .slice A k d], .slice (some ⟨b, o, none⟩) j c, .int .i64 (i : Int), .pointer (some ⟨b, o + i, none⟩), .int .i64 z, (g 26), u27, u28, u29, u30, u31, u32, u33, u34, u35, u36, u37, u38, u39, u40, undef, undef, undef, undef, undef, undef, undef, undef, undef, undef, undef, undef, undef, undef, undef, undef, undef], []⟩) [.agg #[.int .i64 xn, .slice A k d], .slice (some ⟨b, o, none⟩) j c, .int .i64 (i : Int), .pointer (some ⟨b, o + i, none⟩), .int .i64 z, undef, undef] (by kernel_rfl) (by kernel_rfl) (by kernel_rfl) (fun g => by kernel_rfl) (by kernel_rfl) (Below.refl _ _).drew (by decide)
        (goes_cons (goesK_load hst (ahead_path [0] (by kernel_rfl) (by decide)) rfl (by decide) (by decide) (by kernel_rfl) (fun g => by kernel_rfl) rfl (fun g => by kernel_rfl) rfl (fun g => by kernel_rfl) l6 Try.underlying27 rfl (by kernel_rfl)) 
        (goes_cons (goesK_pure (fun _ => .slice (some ⟨b, o, none⟩) j c) rfl (by decide) (by decide) (by kernel_rfl) (fun g => by kernel_rfl) rfl (fun g => by kernel_rfl) (fun g w => by kernel_rfl)) 
        (goes_cons (goesK_pure (fun _ => .int .i64 (i : Int)) rfl (by decide) (by decide) (by kernel_rfl) (fun g => by kernel_rfl) rfl (fun g => by kernel_rfl) (fun g w => by kernel_rfl)) 
        (goes_cons (goesK_index (b := b) (q := o) (m := j) (c := c) (k := i) rfl (by decide) (by decide) (by kernel_rfl) (fun g => by kernel_rfl) rfl (fun g => by kernel_rfl) rfl (fun g => by kernel_rfl) (fun g => by kernel_rfl) hlt Try.underlying22 (fun w => by kernel_rfl)) 
        (goes_cons (goesK_cell hst (ahead_path [4] (by kernel_rfl) (by decide)) rfl (by decide) (by decide) (by kernel_rfl) (fun g => by kernel_rfl) rfl (fun g => by kernel_rfl) rfl (fun g => by kernel_rfl) lz (fun w => by kernel_rfl)) 
        (goes_cons (goesK_ghost (args := fun g => #[.agg #[.int .i64 xn, .slice A k d], .int .i64 z]) hst (ahead_path [5] (by kernel_rfl) (by decide)) rfl (by decide) (by decide) 0 rfl (by kernel_rfl) (fun g => by kernel_rfl) rfl (fun g => by kernel_rfl) (fun g w => by kernel_rfl) (fun g W hW hin => HPU.out W (HV.out W hW) (HR.out W hW) (h6lt W hW))) 
        (goes_cons (goesK_box rfl rfl rfl (by kernel_rfl) (fun g => by kernel_rfl) rfl rfl (fun g => by kernel_rfl) (fun g => by kernel_rfl) k6 (by kernel_rfl) (fun g W hW hK => by obtain ⟨A2, c2, e2, _⟩ := hK 0 _ rfl; exact ⟨_, e2, rfl, rfl⟩)) goes_nil))))))) ?_
      rintro g ws W hW hK ⟨cs, ecs, rfl⟩
      obtain ⟨A2, c2, e2, hc2, r2⟩ := hK 0 _ rfl
      have e2' : g 26 = _ := e2
      obtain rfl : cs = #[.int .i64 n1, .slice A2 k1 c2] := by
        rw [e2'] at ecs
        injection ecs with h
        exact h.symm
      have kE := (k6.below hW k6.lt).setAll (ds := #[.int .i64 n1, .slice A2 k1 c2]) rfl
      have hfr := setCells_fr g6 [.int .i64 n1, .slice A2 k1 c2] ws
      have rE := r2.fr hfr (Wid.refl _ _)
      have bE := (below_step8 hbw hW hbw.size).trans (hfr.below (B := w.heap.size) (Nat.le_trans hbw.size hW.size) (fun k hk => by omega))
      rw [e2']
      clear hK k6 hro hbw l6 lz hst hW ecs e2 hfr r2 HV HR h6lt HPU hcz
      obtain ⟨wE, hwE⟩ : ∃ wE, ws.setCells g6 0 (#[.int .i64 n1, .slice A2 k1 c2] : Array Value).toList = wE := ⟨_, rfl⟩
      have hwE' : ws.setCells g6 0 [.int .i64 n1, .slice A2 k1 c2] = wE := hwE
      rw [hwE'] at rE bE
      rw [hwE] at kE ⊢
      clear hwE hwE'
      have m60 : ∀ W, Below wE.heap.size wE W → W.cell? ⟨g6, 0, none⟩ = some (.int .i64 n1) := fun W h => (kE.below h kE.lt).cell 0
      have m61 : ∀ W, Below wE.heap.size wE W → W.cell? ⟨g6, 1, none⟩ = some (.slice A2 k1 c2) := fun W h => (kE.below h kE.lt).cell 1
      have hbrE : b < wE.heap.size := Nat.lt_of_lt_of_le hbl bE.size
      have mz : ∀ W, Below wE.heap.size wE W → W.cell? ⟨b, o + i, none⟩ = some (.int .i64 z) := fun W h => (h.cell (p := ⟨b, o + i, none⟩) hbrE).trans ((bE.cell (p := ⟨b, o + i, none⟩) hbl).trans hcz0)
      have hst : ∀ f ∈ ([] : List Fact), f.ok := fun f hf => by cases hf
      go_wp2_with fail
      refine wp_region_told (w1 := wE) (K := []) (ix := 1000) (R0 := fun _ _ _ => True) (R1 := fun _ _ _ => True) [] (⟨#[.slice (some ⟨b, o, none⟩) j c, .int .u8 n, undef, undef, u4, .bool true, .pointer (some ⟨g6, 0, none⟩), .int .i64 (i : Int), undef, .bool true, .slice (some ⟨b, o, none⟩) j c, .int .i64 (j : Int), .bool (decide (40 < (j : Int))), undef, .agg #[.int .i64 0, .slice none 0 0], .int .i64 (i : Int), .slice (some ⟨b, o, none⟩) j c, .int .i64 (j : Int), .bool true, u19, u20, .agg #[.int .i64 xn, .slice A k d], .slice (some ⟨b, o, none⟩) j c, .int .i64 (i : Int), .pointer (some ⟨b, o + i, none⟩), .int .i64 z, .agg #[.int .i64 n1, .slice A2 k1 c2], .pointer (some ⟨g6, 1, none⟩), .slice A2 k1 c2, .int .i64 (k1 : Int), .bool false, .bool false, .pointer (some ⟨g6, 0, none⟩), .int .i64 n1, .slice (some ⟨b, o, none⟩) j c, .int .i64 (i : Int), .pointer (some ⟨b, o + i, none⟩), .int .i64 z, .int .i64 n1, .bool false, .bool false, undef, undef, undef, undef, undef, undef, undef, undef, undef, undef, undef, undef, undef, undef, undef, undef, undef], []⟩) (fun g => ⟨#[.slice (some ⟨b, o, none⟩) j c, .int .u8 n, undef, undef, u4, .bool true, .pointer (some ⟨g6, 0, none⟩), .int .i64 (i : Int), undef, .bool true, .slice (some ⟨b, o, none⟩) j c, .int .i64 (j : Int), .bool (decide (40 < (j : Int))), undef, .agg #[.int .i64 0, .slice none 0 0], .int .i64 (i : Int), .slice (some ⟨b, o, none⟩) j c, .int .i64 (j : Int), .bool true, u19, u20, .agg #[.int .i64 xn, .slice A k d], .slice (some ⟨b, o, none⟩) j c, .int .i64 (i : Int), .pointer (some ⟨b, o + i, none⟩), .int .i64 z, .agg #[.int .i64 n1, .slice A2 k1 c2], .pointer (some ⟨g6, 1, none⟩), .slice A2 k1 c2, .int .i64 (k1 : Int), .bool false, .bool false, .pointer (some ⟨g6, 0, none⟩), .int .i64 n1, .slice (some ⟨b, o, none⟩) j c, .int .i64 (i : Int), .pointer (some ⟨b, o + i, none⟩), .int .i64 z, .int .i64 n1, .bool false, .bool false, undef, undef, undef, undef, undef, undef, undef, undef, undef, undef, undef, undef, undef, undef, undef, undef, undef], []⟩) [.pointer (some ⟨g6, 1, none⟩), .slice A2 k1 c2, .int .i64 (k1 : Int), .bool false, .bool false, .pointer (some ⟨g6, 0, none⟩), .int .i64 n1, .slice (some ⟨b, o, none⟩) j c, .int .i64 (i : Int), .pointer (some ⟨b, o + i, none⟩), .int .i64 z, .int .i64 n1, .bool false, .bool false] (by kernel_rfl) (by kernel_rfl) (by kernel_rfl) (fun g => by kernel_rfl) (by kernel_rfl) (Below.refl _ _).drew (by decide) (by kernel_rfl)
        (goes_cons (goesK_pure (fun _ => .pointer (some ⟨g6, 1, none⟩)) rfl (by decide) (by decide) (by kernel_rfl) (fun g => by kernel_rfl) rfl (fun g => by kernel_rfl) (fun g w => by kernel_rfl)) 
        (goes_cons (goesK_cell hst (ahead_none (by decide)) rfl (by decide) (by decide) (by kernel_rfl) (fun g => by kernel_rfl) rfl (fun g => by kernel_rfl) rfl (fun g => by kernel_rfl) m61 (fun w => by kernel_rfl)) 
        (goes_cons (goesK_pure (fun _ => .int .i64 (k1 : Int)) rfl (by decide) (by decide) (by kernel_rfl) (fun g => by kernel_rfl) rfl (fun g => by kernel_rfl) (fun g w => by kernel_rfl)) 
        (goes_cons (goesK_bin (v := .bool false) (xv := .int .i64 (k1 : Int)) (yv := .int .i64 8) rfl (by decide) (by decide) (by kernel_rfl) (fun g => by kernel_rfl) rfl (fun g => by kernel_rfl) rfl (fun g => by kernel_rfl) (fun g => by kernel_rfl) (fun w => by go_simp; omega)) 
        (goes_cons (goesK_pure (fun _ => .bool false) rfl (by decide) (by decide) (by kernel_rfl) (fun g => by kernel_rfl) rfl (fun g => by kernel_rfl) (fun g w => by kernel_rfl)) 
        (goes_cons (goesK_pure (fun _ => .pointer (some ⟨g6, 0, none⟩)) rfl (by decide) (by decide) (by kernel_rfl) (fun g => by kernel_rfl) rfl (fun g => by kernel_rfl) (fun g w => by kernel_rfl)) 
        (goes_cons (goesK_cell hst (ahead_none (by decide)) rfl (by decide) (by decide) (by kernel_rfl) (fun g => by kernel_rfl) rfl (fun g => by kernel_rfl) rfl (fun g => by kernel_rfl) m60 (fun w => by kernel_rfl)) 
        (goes_cons (goesK_pure (fun _ => .slice (some ⟨b, o, none⟩) j c) rfl (by decide) (by decide) (by kernel_rfl) (fun g => by kernel_rfl) rfl (fun g => by kernel_rfl) (fun g w => by kernel_rfl)) 
        (goes_cons (goesK_pure (fun _ => .int .i64 (i : Int)) rfl (by decide) (by decide) (by kernel_rfl) (fun g => by kernel_rfl) rfl (fun g => by kernel_rfl) (fun g w => by kernel_rfl)) 
        (goes_cons (goesK_index (b := b) (q := o) (m := j) (c := c) (k := i) rfl (by decide) (by decide) (by kernel_rfl) (fun g => by kernel_rfl) rfl (fun g => by kernel_rfl) rfl (fun g => by kernel_rfl) (fun g => by kernel_rfl) hlt Try.underlying22 (fun w => by kernel_rfl)) 
        (goes_cons (goesK_cell hst (ahead_none (by decide)) rfl (by decide) (by decide) (by kernel_rfl) (fun g => by kernel_rfl) rfl (fun g => by kernel_rfl) rfl (fun g => by kernel_rfl) mz (fun w => by kernel_rfl)) 
        (goes_cons (goesK_call (args := fun g => #[.int .i64 z]) hst (ahead_none (by decide)) rfl (by decide) (by decide) (by kernel_rfl) (fun g => by kernel_rfl) rfl (fun g => by kernel_rfl) (fun g w => by kernel_rfl) (fun g W hW hin => HFL.out W)) 
        (goes_cons (goesK_bin (v := .bool false) (xv := .int .i64 n1) (yv := .int .i64 n1) rfl (by decide) (by decide) (by kernel_rfl) (fun g => by kernel_rfl) rfl (fun g => by kernel_rfl) rfl (fun g => by kernel_rfl) (fun g => by kernel_rfl) (fun w => by go_simp)) 
        (goes_cons (goesK_pure (fun _ => .bool false) rfl (by decide) (by decide) (by kernel_rfl) (fun g => by kernel_rfl) rfl (fun g => by kernel_rfl) (fun g w => by kernel_rfl)) goes_nil)))))))))))))) ?_
      intro g' W hW _
      have kF := kE.below hW kE.lt
      have rF := rE.fr (Fr.of_below hW _) (Wid.refl _ _)
      have bF := below_step8 bE hW bE.size
      clear kE rE bE m60 m61 mz hst hW
      go_wp2_with fail
      go_roundw
      case rel => exact ⟨i + 1, x1, n1, A2, k1, c2, by omega, by go_num, HX1, HN1, HK1, hc2, kF, rF, bF⟩
      case measure => simp [intOf]; omega
    · have hpp : popS x (9 + n) = s0 := by
        rw [HS0.out]
        exact popN_all _ _ (by rw [HXK.out]; omega)
      have gk0 : (j : Int) ≤ (i : Int) := by omega
      have hi0 := HV.out wr (Below.refl _ _)
      have HPO := Lib.hid (H.pop_at (S := fun b => b = g6) wr hi0 (fun k hk => by rw [hk]; exact k6.lt) hokx HXK.out hid (f := 9 + n) ⟨by omega, by omega⟩ hro HXN.out hpp HN0.out HK0.out)
      have a0 := k6.cell 0
      have a1 := k6.cell 1
      have hw9 : IntKind.i64.wrap (9 + n) = 9 + n := by rw [IntKind.wrap_i64]; go_num
      clear hokx hpp hi0
      go_wp2_with fail
      refine HPO.out.mono ?_
      rintro e w4 ⟨A4, c4, rfl, hc4, hr4, hb4⟩
      have k8 := Blk.new w4 27 #[.int .i64 0, .slice A4 0 c4]
      have hbE := (below_step8 hbw hb4 hbw.size).alloc (below_step8 hbw hb4 hbw.size).size (.cells #[.int .i64 0, .slice A4 0 c4] 27)
      have d0 := k8.cell 0
      have d1 := k8.cell 1
      clear a0 a1 k6 hro hbw hb4 hr4
      go_wp2_with fail
      go_ret
      exact ⟨rfl, hbE⟩
theorem stackDeep_walk (H : StackC Inv) (A : Option Addr) (l : List Int) (c : Nat) (_hk : l.length ≤ c) (n : Int) (lo : 0 ≤ n) (hi : n ≤ 255) (w : World) (hr : Rd w A (is_ l)) (hli : ∀ z ∈ l, (Lit.int .i64 z).wf = true) (hv : Inv w) :
    Calls Try.prog 5 #[.slice A l.length c, .int .u8 n] w fun e w' => e = .returned (.bool true) ∧ Below w.heap.size w w' := by
  by_cases h : 40 < l.length
  · exact deep_many H A c _ n w h hv
  · exact deep_few H A l c _ rfl (by omega) (fun z hz => by
      have := bounds_i64 (hli z hz)
      exact ⟨by omega, by omega⟩) n lo hi w hr hv
end
end Go.Proofs.Ytocbkcofmebfmaa
