/-
  Layer 8: the laws' words, walked: flags, both.
-/
import Derived.Test.YtocbkcofmebfmaaLkA
import Derived.Test.YtocbkcofmebfmaaRegB
namespace Go.Proofs.Ytocbkcofmebfmaa
open Go.RowKit

section
theorem Rd.ints_at8 {w : World} {A : Option Addr} {l : List Int} (h : Rd w A (is_ l)) (hp : 0 < l.length) :
    ∃ b o, A = some ⟨b, o, none⟩ ∧ b < w.heap.size ∧ ∀ k (hk : k < l.length), w.cell? ⟨b, o + k, none⟩ = some (.int .i64 l[k]) := by
  obtain ⟨b, o, rfl, hb, hc⟩ := h (by simpa [is_] using hp)
  exact ⟨b, o, rfl, hb, fun k hk => hc k _ (by simp [is_, hk])⟩
variable {S : Nat → Prop}
def flagsS (now : Int) (l : List Int) : St := ⟨flg now, (l.take 8).map flg⟩
theorem ok_flags (now : Int) (l : List Int) : okS (flagsS now l) := ⟨flg_rng now, fun z hz => by
  obtain ⟨y, _, rfl⟩ := List.mem_map.1 hz
  exact flg_rng y, by simp [flagsS]; omega⟩
set_option maxRecDepth 100000 in
set_option maxHeartbeats 16000000 in
theorem flags_any (now : Int) (A : Option Addr) (l : List Int) (n c : Nat) (w : World) (hS : ∀ k, S k → k < w.heap.size) (hn : l.length = n) (hr : Rd w A (is_ l)) :
    Calls Try.prog 10 #[.agg #[.int .i64 now, .slice A n c]] w (StkE S (flagsS now l) w) := by
  obtain ⟨i0, hti, hz0, hz1, hz2⟩ := info_parts Try.intinfo8
  have HN := Lib.hid hn
  have HS := Lib.hid hS
  have hB0 : Below w.heap.size w (((w.alloc (.cells #[.int .i64 now, .slice A n c] 24)).alloc (.cells #[.int .i64 0, .slice none 0 0] 24)).alloc (.cells #[.int .i64 0, .slice none 0 0] 24)) := (((Below.refl _ w).alloc (Nat.le_refl _) _).alloc (by simp) _).alloc (by simp; omega) _
  have hx0 : Blk (((w.alloc (.cells #[.int .i64 now, .slice A n c] 24)).alloc (.cells #[.int .i64 0, .slice none 0 0] 24)).alloc (.cells #[.int .i64 0, .slice none 0 0] 24)) w.heap.size 24 #[.int .i64 now, .slice A n c] := ((Blk.new w _ _).alloc _).alloc _
  have hy0 : Blk (((w.alloc (.cells #[.int .i64 now, .slice A n c] 24)).alloc (.cells #[.int .i64 0, .slice none 0 0] 24)).alloc (.cells #[.int .i64 0, .slice none 0 0] 24)) (w.heap.size + 1) 24 #[.int .i64 0, .slice none 0 0] := by
    have := (Blk.new (w.alloc (.cells #[.int .i64 now, .slice A n c] 24)) 24 #[.int .i64 0, .slice none 0 0]).alloc (.cells #[.int .i64 0, .slice none 0 0] 24)
    rwa [World.size_alloc] at this
  have hz0' : Blk (((w.alloc (.cells #[.int .i64 now, .slice A n c] 24)).alloc (.cells #[.int .i64 0, .slice none 0 0] 24)).alloc (.cells #[.int .i64 0, .slice none 0 0] 24)) (w.heap.size + 1 + 1) 24 #[.int .i64 0, .slice none 0 0] := by
    have := Blk.new ((w.alloc (.cells #[.int .i64 now, .slice A n c] 24)).alloc (.cells #[.int .i64 0, .slice none 0 0] 24)) 24 #[.int .i64 0, .slice none 0 0]
    rwa [World.size_alloc, World.size_alloc] at this
  obtain ⟨F, hF⟩ : ∃ F, flg now = F := ⟨_, rfl⟩
  have hfl := rflags_any now (((w.alloc (.cells #[.int .i64 now, .slice A n c] 24)).alloc (.cells #[.int .i64 0, .slice none 0 0] 24)).alloc (.cells #[.int .i64 0, .slice none 0 0] 24))
  rw [hF] at hfl
  have HE := Lib.hid (show flagsS now l = ⟨F, (l.take 8).map flg⟩ by unfold flagsS; rw [hF])
  clear hF hn hS
  go_enter Try.func10, Try.ntmps10
  go_wp2_with fail
  refine hfl.mono ?_
  rintro e w1 ⟨rfl, hb1⟩
  have kx1 := hx0.below hb1 hx0.lt
  have ky1 := hy0.below hb1 hy0.lt
  have kz1 := hz0'.below hb1 hz0'.lt
  have hbw1 := below_step8 hB0 hb1 hB0.size
  have zf := kz1.frozen 0
  have kx2 := kx1.far (a := ⟨w.heap.size + 1 + 1, 0, none⟩) (by show w.heap.size ≠ w.heap.size + 1 + 1; omega) (.int .i64 F)
  have ky2 := ky1.far (a := ⟨w.heap.size + 1 + 1, 0, none⟩) (by show w.heap.size + 1 ≠ w.heap.size + 1 + 1; omega) (.int .i64 F)
  have kz2 := kz1.set 0 (.int .i64 F)
  have hbw2 := hbw1.setCell (p := ⟨w.heap.size + 1 + 1, 0, none⟩) (by simp; omega) (.int .i64 F)
  have cz := kz1.cell 0
  clear hfl hx0 hy0 hz0' hB0 hb1 hbw1 kx1 ky1 kz1
  go_wp2_with fail
  clear zf cz
  go_loopw [4] (fun z wr => ∃ (i : Nat) (v : Value), i ≤ n ∧ i ≤ 8 ∧ z = .int .i64 i ∧ Blk wr w.heap.size 24 #[.int .i64 now, .slice A n c] ∧ Blk wr (w.heap.size + 1) 24 #[.int .i64 0, .slice none 0 0] ∧ Blk wr (w.heap.size + 1 + 1) 24 #[.int .i64 F, v] ∧ Own wr w.heap.size 3 1 v i (is_ ((l.take i).map flg)) ∧ Below w.heap.size w wr) (fun z _ => 9 - (intOf z).toNat)
  case atStart => exact ⟨0, .slice none 0 0, by omega, by omega, rfl, kx2, ky2, kz2, Own.nil_ _ _ _ _, hbw2⟩
  case round =>
    clear kx2 ky2 kz2 hbw2
    obtain ⟨i, v0, hin, hi8, rfl, k1, k2, k3, own, hbw⟩ := hrel
    obtain ⟨B, d, rfl, hrd⟩ := own.form
    have c11 := k1.cell 1
    by_cases hlt : i < n
    · by_cases hl8 : i < 8
      · have hil : i < l.length := by rw [HN.out]; exact hlt
        obtain ⟨b, o, rfl, hbl, hcc⟩ := hr.ints_at8 (by omega)
        obtain ⟨z, hz⟩ : ∃ z, l[i]'hil = z := ⟨_, rfl⟩
        have hcz : wr.cell? ⟨b, o + i, none⟩ = some (.int .i64 z) := by rw [← hz]; exact (hbw.cell (p := ⟨b, o + i, none⟩) hbl).trans (hcc i hil)
        have hbr : b < wr.heap.size := World.block_lt_of_cell? wr _ hcz
        obtain ⟨y, hy⟩ : ∃ y, flg z = y := ⟨_, rfl⟩
        have HFZ : Hid (∀ W, Calls Try.prog 19 #[.int .i64 z] W fun e w' => e = .returned (.int .i64 y) ∧ Below W.heap.size W w') := Lib.hid fun W => by
          have := rflags_any z W
          rwa [hy] at this
        have HT := Lib.hid (show is_ ((l.take (i + 1)).map flg) = is_ ((l.take i).map flg) ++ is_ [y] by
          rw [List.take_succ_eq_append_getElem hil, hz]
          simp [is_, hy])
        clear hcc hz hy
        have l1 : ∀ W, Below wr.heap.size wr W → W.cell? ⟨w.heap.size, 1, none⟩ = some (.slice (some ⟨b, o, none⟩) n c) := fun W h => (k1.below h k1.lt).cell 1
        have l3 : ∀ W, Below wr.heap.size wr W → W.cell? ⟨w.heap.size + 1 + 1, 1, none⟩ = some (.slice B i d) := fun W h => (k3.below h k3.lt).cell 1
        have lz : ∀ W, Below wr.heap.size wr W → W.cell? ⟨b, o + i, none⟩ = some (.int .i64 z) := fun W h => (h.cell (p := ⟨b, o + i, none⟩) hbr).trans hcz
        have gk0 : (i : Int) < (n : Int) := by omega
        have gk1 : (i : Int) < 8 := by omega
        have h63 : i + 1 ≤ maxLen := by simp only [maxLen]; omega
        have hlim : (i + 1) * 8 ≤ 140737488355328 := by omega
        have hbs := hbw.size
        go_wp2_with fail
        have hst : ∀ f ∈ ([⟨8, 28, fun v w => ∃ bb, v = .slice (some ⟨bb, 0, none⟩) 1 1 ∧ Rd w (some ⟨bb, 0, none⟩) (is_ [y])⟩] : List Fact), f.ok := fun f hf => by
          cases hf with
          | head => exact fun v w w' ⟨bb, h1, h2⟩ hb => ⟨bb, h1, h2.below hb⟩
          | tail _ h => cases h
        refine wp_region_last (w1 := wr) (K := [⟨8, 28, fun v w => ∃ bb, v = .slice (some ⟨bb, 0, none⟩) 1 1 ∧ Rd w (some ⟨bb, 0, none⟩) (is_ [y])⟩]) (ix := 9) (iz := 11) (R0 := AppR w.heap.size 3 29 (i + 1) (is_ ((l.take i).map flg) ++ is_ [y]) (.slice B i d)) (R1 := fun g ws W => ∃ wm, AppR w.heap.size 3 29 (i + 1) (is_ ((l.take i).map flg) ++ is_ [y]) (.slice B i d) g ws wm ∧ W = wm.setCell ⟨w.heap.size + 1 + 1, 1, none⟩ (g 29)) [28, 29] (⟨#[.agg #[.int .i64 now, .slice (some ⟨b, o, none⟩) n c], .pointer (some ⟨w.heap.size, 0, none⟩), .pointer (some ⟨w.heap.size + 1, 0, none⟩), .pointer (some ⟨w.heap.size + 1 + 1, 0, none⟩), .int .i64 (i : Int), .pointer (some ⟨w.heap.size, 0, none⟩), .int .i64 now, .int .i64 F, .pointer (some ⟨w.heap.size + 1 + 1, 0, none⟩), .int .i64 (i : Int), .pointer (some ⟨w.heap.size, 1, none⟩), .slice (some ⟨b, o, none⟩) n c, .int .i64 (n : Int), .bool true, .bool true, .int .i64 (i : Int), .bool true, .bool true, u18, u19, .pointer (some ⟨w.heap.size + 1 + 1, 1, none⟩), .slice B i d, .pointer (some ⟨w.heap.size, 1, none⟩), .slice (some ⟨b, o, none⟩) n c, .int .i64 (i : Int), .pointer (some ⟨b, o + i, none⟩), .int .i64 z, .int .i64 y, undef, undef, .pointer (some ⟨w.heap.size + 1 + 1, 1, none⟩), undef], []⟩) (fun g => ⟨#[.agg #[.int .i64 now, .slice (some ⟨b, o, none⟩) n c], .pointer (some ⟨w.heap.size, 0, none⟩), .pointer (some ⟨w.heap.size + 1, 0, none⟩), .pointer (some ⟨w.heap.size + 1 + 1, 0, none⟩), .int .i64 (i : Int), .pointer (some ⟨w.heap.size, 0, none⟩), .int .i64 now, .int .i64 F, .pointer (some ⟨w.heap.size + 1 + 1, 0, none⟩), .int .i64 (i : Int), .pointer (some ⟨w.heap.size, 1, none⟩), .slice (some ⟨b, o, none⟩) n c, .int .i64 (n : Int), .bool true, .bool true, .int .i64 (i : Int), .bool true, .bool true, u18, u19, .pointer (some ⟨w.heap.size + 1 + 1, 1, none⟩), .slice B i d, .pointer (some ⟨w.heap.size, 1, none⟩), .slice (some ⟨b, o, none⟩) n c, .int .i64 (i : Int), .pointer (some ⟨b, o + i, none⟩), .int .i64 z, .int .i64 y, g 28, g 29, .pointer (some ⟨w.heap.size + 1 + 1, 1, none⟩), undef], []⟩) [.pointer (some ⟨w.heap.size + 1 + 1, 1, none⟩), .slice B i d, .pointer (some ⟨w.heap.size, 1, none⟩), .slice (some ⟨b, o, none⟩) n c, .int .i64 (i : Int), .pointer (some ⟨b, o + i, none⟩), .int .i64 z, .int .i64 y, undef, undef, .pointer (some ⟨w.heap.size + 1 + 1, 1, none⟩), undef] (by kernel_rfl) (by kernel_rfl) (by kernel_rfl) (fun g => by kernel_rfl) (by kernel_rfl) (Below.refl _ _).drew (by decide) 
          (goes_cons (goesK_pure (fun _ => .pointer (some ⟨w.heap.size + 1 + 1, 1, none⟩)) rfl (by decide) (by decide) (by kernel_rfl) (fun g => by kernel_rfl) rfl (fun g => by kernel_rfl) (fun g w => by kernel_rfl)) 
          (goes_cons (goesK_cell hst (ahead_path [1] (by kernel_rfl) (by decide)) rfl (by decide) (by decide) (by kernel_rfl) (fun g => by kernel_rfl) rfl (fun g => by kernel_rfl) rfl (fun g => by kernel_rfl) l3 (fun w => by kernel_rfl)) 
          (goes_cons (goesK_pure (fun _ => .pointer (some ⟨w.heap.size, 1, none⟩)) rfl (by decide) (by decide) (by kernel_rfl) (fun g => by kernel_rfl) rfl (fun g => by kernel_rfl) (fun g w => by kernel_rfl)) 
          (goes_cons (goesK_cell hst (ahead_path [8, 7, 6, 5, 3] (by kernel_rfl) (by decide)) rfl (by decide) (by decide) (by kernel_rfl) (fun g => by kernel_rfl) rfl (fun g => by kernel_rfl) rfl (fun g => by kernel_rfl) l1 (fun w => by kernel_rfl)) 
          (goes_cons (goesK_pure (fun _ => .int .i64 (i : Int)) rfl (by decide) (by decide) (by kernel_rfl) (fun g => by kernel_rfl) rfl (fun g => by kernel_rfl) (fun g w => by kernel_rfl)) 
          (goes_cons (goesK_index (b := b) (q := o) (m := n) (c := c) (k := i) rfl (by decide) (by decide) (by kernel_rfl) (fun g => by kernel_rfl) rfl (fun g => by kernel_rfl) rfl (fun g => by kernel_rfl) (fun g => by kernel_rfl) hlt Try.underlying22 (fun w => by kernel_rfl)) 
          (goes_cons (goesK_cell hst (ahead_path [8, 7, 6] (by kernel_rfl) (by decide)) rfl (by decide) (by decide) (by kernel_rfl) (fun g => by kernel_rfl) rfl (fun g => by kernel_rfl) rfl (fun g => by kernel_rfl) lz (fun w => by kernel_rfl)) 
          (goes_cons (goesK_call (args := fun g => #[.int .i64 z]) hst (ahead_path [8, 7] (by kernel_rfl) (by decide)) rfl (by decide) (by decide) (by kernel_rfl) (fun g => by kernel_rfl) rfl (fun g => by kernel_rfl) (fun g w => by kernel_rfl) (fun g W hW _ => HFZ.out W)) 
          (goes_cons (goesK_make hst (ahead_path [8] (by kernel_rfl) (by decide)) rfl (by decide) (by decide) 0 rfl (by kernel_rfl) (fun g => by kernel_rfl) rfl (fun g => by kernel_rfl) (fun w => .slice (some ⟨w.heap.size, 0, none⟩) 1 1) (fun w => w.alloc (.cells #[.int .i64 y] 3)) (fun g w => by kernel_rfl) (fun W hW => ⟨⟨W.heap.size, rfl, Rd.block (heap_alloc_new W (.cells #[.int .i64 y] 3)) rfl⟩, (Below.refl _ W).alloc (Nat.le_refl _) _⟩)) 
          (goes_cons (goesK_app (s := .tmp 21) (x := .tmp 28) (v0 := .slice B i d) rfl (by decide) rfl (by kernel_rfl) (by kernel_rfl) (fun g => by kernel_rfl) rfl (fun g => by kernel_rfl) rfl Try.underlying22 hti hz0 hz1 hz2 rfl (fun g => by kernel_rfl) own hbs rfl (is_one [y]) h63 hlim (fun g W _ hK => by
            obtain ⟨bb, e28, hR⟩ := hK 0 _ rfl
            exact ⟨some ⟨bb, 0, none⟩, 1, Eq.trans (b := g 28) (by kernel_rfl) e28, hR⟩)) 
          (goes_cons (goesK_pure (fun _ => .pointer (some ⟨w.heap.size + 1 + 1, 1, none⟩)) rfl (by decide) (by decide) (by kernel_rfl) (fun g => by kernel_rfl) rfl (fun g => by kernel_rfl) (fun g w => by kernel_rfl)) 
          (goes_cons (goesK_put (u := .slice B i d) rfl (by decide) rfl (by kernel_rfl) (by kernel_rfl) (fun g => by kernel_rfl) rfl rfl (fun g => by kernel_rfl) (fun g => by kernel_rfl) (fun w => by kernel_rfl) own k3 rfl (by decide)) goes_nil)))))))))))) ?_
        rintro g ws W hW hK ⟨wm, ⟨hO, hG⟩, rfl⟩
        obtain ⟨v9, hv9⟩ : ∃ v, g 29 = v := ⟨_, rfl⟩
        obtain ⟨v8, hv8⟩ : ∃ v, g 28 = v := ⟨_, rfl⟩
        rw [hv9, hv8]
        rw [hv9] at hO
        have hown := own.behind hW
        have k1w := (k1.below hW k1.lt).grown hG (hown.no_cells (k1.below hW k1.lt) (by decide))
        have k2w := (k2.below hW k2.lt).grown hG (hown.no_cells (k2.below hW k2.lt) (by decide))
        have k3w := (k3.below hW k3.lt).grown hG (hown.no_cells (k3.below hW k3.lt) (by decide))
        have hnx := hO.no_cells k3w (by decide)
        have hbm : Below w.heap.size w wm := (below_step8 hbw hW hbw.size).grown hG (Nat.le_trans hbw.size hW.size) (fun k e => (hown.lt k e).1)
        have k1e := k1w.far (a := ⟨w.heap.size + 1 + 1, 1, none⟩) (by show w.heap.size ≠ w.heap.size + 1 + 1; omega) v9
        have k2e := k2w.far (a := ⟨w.heap.size + 1 + 1, 1, none⟩) (by show w.heap.size + 1 ≠ w.heap.size + 1 + 1; omega) v9
        have k3e := k3w.set 1 v9
        have oE := hO.fr (Fr.setCell wm (w.heap.size + 1 + 1) 1 v9 (fun k => k = w.heap.size + 1 + 1) rfl) (fun k hk e => hnx (by rw [hk, e]))
        have bE := hbm.setCell (p := ⟨w.heap.size + 1 + 1, 1, none⟩) (by simp; omega) v9
        rw [← HT.out] at oE
        clear k1 k2 k3 own hbw k1w k2w k3w hO hK hG hown hW hbm l1 l3 lz hst
        go_wp2_with fail
        go_roundw
        case rel => exact ⟨i + 1, v9, by omega, by omega, by go_num, k1e, k2e, k3e, oE, bE⟩
        case measure => simp [intOf]; omega
      · have gk0 : (i : Int) < (n : Int) := by omega
        have gk1 : (8 : Int) ≤ (i : Int) := by omega
        obtain rfl : i = 8 := by omega
        have zy0 := k2.frozen 0
        have zy1 := k2.frozen 1
        have y0 := k2.cell 0
        have y1 := k2.cell 1
        have z0 := k3.cell 0
        have z1 := k3.cell 1
        have yE1 := k2.set 0 (.int .i64 F)
        have yE2 := yE1.set 1 (.slice B 8 d)
        have g5 := yE2.cell 0
        have g6 := yE2.cell 1
        have hBE := (hbw.setCell (p := ⟨w.heap.size + 1, 0, none⟩) (by simp) (.int .i64 F)).setCell (p := ⟨w.heap.size + 1, 1, none⟩) (by simp) (.slice B 8 d)
        have hny := own.no_cells k2 (by decide)
        have hF : Fr wr ((wr.setCell ⟨w.heap.size + 1, 0, none⟩ (.int .i64 F)).setCell ⟨w.heap.size + 1, 1, none⟩ (.slice B 8 d)) (fun k => k = w.heap.size + 1) := (Fr.setCell wr _ _ _ (fun k => k = w.heap.size + 1) rfl).trans (Fr.setCell _ _ _ _ (fun k => k = w.heap.size + 1) rfl) (fun k hk => .inl hk)
        have ownE := own.fr hF (fun k hk e => hny (by rw [hk, e]))
        have hcap := own.cap.1
        have hE2 : (l.take 8).map flg = (l.take 8).map flg := by rfl
        have rdE := RdOff.of_own (S := S) ownE (fun k hk hs => by have := (ownE.lt k hk).1; have := HS.out k hs; omega)
        clear k1 k2 k3 yE1 yE2 ownE own
        go_wp2_with fail
        refine bodyPost_ret (v := stV F B 8 d) (by simp [results, Try.results10, go_sem, stV, g5, g6]) rfl ?_
        rw [HE.out]
        exact ⟨B, 8, d, rfl, ⟨by simp [HN.out]; omega, hcap⟩, rdE, hBE⟩
    · obtain rfl : i = n := by omega
      have gk0 : (i : Int) ≤ (i : Int) := by omega
      have zy0 := k2.frozen 0
      have zy1 := k2.frozen 1
      have y0 := k2.cell 0
      have y1 := k2.cell 1
      have z0 := k3.cell 0
      have z1 := k3.cell 1
      have yE1 := k2.set 0 (.int .i64 F)
      have yE2 := yE1.set 1 (.slice B i d)
      have g5 := yE2.cell 0
      have g6 := yE2.cell 1
      have hBE := (hbw.setCell (p := ⟨w.heap.size + 1, 0, none⟩) (by simp) (.int .i64 F)).setCell (p := ⟨w.heap.size + 1, 1, none⟩) (by simp) (.slice B i d)
      have hny := own.no_cells k2 (by decide)
      have hF : Fr wr ((wr.setCell ⟨w.heap.size + 1, 0, none⟩ (.int .i64 F)).setCell ⟨w.heap.size + 1, 1, none⟩ (.slice B i d)) (fun k => k = w.heap.size + 1) := (Fr.setCell wr _ _ _ (fun k => k = w.heap.size + 1) rfl).trans (Fr.setCell _ _ _ _ (fun k => k = w.heap.size + 1) rfl) (fun k hk => .inl hk)
      have ownE := own.fr hF (fun k hk e => hny (by rw [hk, e]))
      have hcap := own.cap.1
      have hE2 : (l.take i).map flg = (l.take 8).map flg := by rw [List.take_of_length_le (by rw [HN.out]; exact Nat.le_refl _), List.take_of_length_le (by rw [HN.out]; exact hi8)]
      have rdE := RdOff.of_own (S := S) ownE (fun k hk hs => by have := (ownE.lt k hk).1; have := HS.out k hs; omega)
      clear k1 k2 k3 yE1 yE2 ownE own
      go_wp2_with fail
      refine bodyPost_ret (v := stV F B i d) (by simp [results, Try.results10, go_sem, stV, g5, g6]) rfl ?_
      rw [HE.out]
      exact ⟨B, i, d, rfl, ⟨by simp [HN.out]; omega, hcap⟩, by rw [← hE2]; exact rdE, hBE⟩
end
end Go.Proofs.Ytocbkcofmebfmaa
