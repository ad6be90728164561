/-
  Layer 11, the laws' walks over the bundle. Stage 11, the landed legacy: Key, whatever the event; what the laws need of it.
-/
import Derived.Test.YtbjmfhcgkpjcfaaGreatDoorG07
import Derived.Test.YtbjmfhcgkpjcfaaGreatDoorG32
import Derived.Test.YtbjmfhcgkpjcfaaGreatDoorG40
import Derived.Test.YtbjmfhcgkpjcfaaGreatDoorG43
import Derived.Test.YtbjmfhcgkpjcfaaGreatDoorG44
namespace Go.Proofs.YtbjmfhcgkpjcfaaGreatDoor
open Go.RowKit

variable {Inv : World → Prop}
set_option maxRecDepth 100000 in
set_option maxHeartbeats 8000000 in
theorem legacyTells_walk (H : LegC Inv) (m : Mo) (_ : okM m) (k : Ky) (hk : okK k) (hs : k.text.size ≤ maxLen) (w : World) (hv : Inv w) : Calls Tryz.prog 3 #[moV m, kyV k] w fun e w' => e = .returned (.bool true) ∧ Below w.heap.size w w' := by
  obtain ⟨L, hL⟩ : ∃ L, legL m k = L := ⟨_, rfl⟩
  have HKA0 : Hid (k.text.size ≤ 4294967296 → ∀ W, Inv W → Calls Tryz.prog 6 #[moV m, kyV k] W (Out L W)) := Lib.hid fun h W hW => by rw [← hL]; exact H.key m k W hW hk h
  have HKB0 : Hid (k.text.size ≤ 4294967296 → ∀ W, Calls Tryz.prog 7 #[moV m, kyV k] W (Out L W)) := Lib.hid fun h W => by rw [← hL]; exact rkey11_any m k hk h W
  clear hL hk
  simp only [moV, kyV] at HKA0 HKB0 ⊢
  obtain ⟨code, mods, typ, shift, base, text⟩ := k
  obtain ⟨m0, m1, m2, m3, m4, m5, m6, m7, m8, m9⟩ := m
  have hB : Below w.heap.size w ((w.alloc (.cells #[.bool m0, .bool m1, .bool m2, .bool m3, .bool m4, .bool m5, .bool m6, .int .i64 m7, .int .i64 m8, .int .i64 m9] 23)).alloc (.cells #[.int .i64 code, .int .i64 mods, .int .i64 typ, .int .i64 shift, .int .i64 base, .string text] 25)) := ((Below.refl _ w).alloc (Nat.le_refl _) _).alloc (by simp) _
  have a0 := (Blk.new w 23 #[.bool m0, .bool m1, .bool m2, .bool m3, .bool m4, .bool m5, .bool m6, .int .i64 m7, .int .i64 m8, .int .i64 m9]).alloc (.cells #[.int .i64 code, .int .i64 mods, .int .i64 typ, .int .i64 shift, .int .i64 base, .string text] 25)
  have b0 := Blk.new (w.alloc (.cells #[.bool m0, .bool m1, .bool m2, .bool m3, .bool m4, .bool m5, .bool m6, .int .i64 m7, .int .i64 m8, .int .i64 m9] 23)) 25 #[.int .i64 code, .int .i64 mods, .int .i64 typ, .int .i64 shift, .int .i64 base, .string text]
  rw [World.size_alloc] at b0
  have hv0 := H.invB hv hB
  simp only at HKA0 HKB0 hs
  have HSZ := Lib.hid hs
  clear hs
  go_enter Tryz.func3, Tryz.ntmps3
  go_wp2_with fail
  refine (legAwake H _ hv0).mono ?_
  rintro e w1 ⟨rfl, hb1⟩
  have a1 := a0.below hb1 a0.lt
  have b1 := b0.below hb1 b0.lt
  have hB1 := hB.trans (hb1.mono hB.size)
  have hv1 := H.invB hv hB1
  clear hv0 a0 b0 hB hb1
  have c5 := b1.cell 5
  have hsz : (text.size : Int) ≤ 9223372036854775807 := by
    have := HSZ.out
    simp only [maxLen] at this
    omega
  by_cases h : 100 < text.size
  · have t1 : decide (100 < (text.size : Int)) = true := decide_eq_true (by omega)
    clear h
    go_wp2_with fail
    go_ret
    exact ⟨rfl, hB1⟩
  · have t1 : decide (100 < (text.size : Int)) = false := decide_eq_false (by omega)
    have HKA := Lib.hid (HKA0.out (by omega))
    have HKB := Lib.hid (HKB0.out (by omega))
    have HV : Hid (∀ W, Below w1.heap.size w1 W → Inv W) := Lib.hid fun W hW => H.invB hv1 hW
    have lm : ∀ W, Below w1.heap.size w1 W → Blk W w.heap.size 23 #[.bool m0, .bool m1, .bool m2, .bool m3, .bool m4, .bool m5, .bool m6, .int .i64 m7, .int .i64 m8, .int .i64 m9] := fun W hW => a1.below hW a1.lt
    have lk : ∀ W, Below w1.heap.size w1 W → Blk W (w.heap.size + 1) 25 #[.int .i64 code, .int .i64 mods, .int .i64 typ, .int .i64 shift, .int .i64 base, .string text] := fun W hW => b1.below hW b1.lt
    have hst : ∀ f ∈ ([⟨4, 16, FB L⟩, ⟨8, 20, FB L⟩] : List Fact), f.ok := List.forall_mem_cons.2 ⟨fb_ok _ _ _, List.forall_mem_cons.2 ⟨fb_ok _ _ _, fun _ h => by cases h⟩⟩
    clear h
    go_wp2_with fail
    refine wp_region_told (w1 := w1) (K := [⟨4, 16, FB L⟩, ⟨8, 20, FB L⟩]) (ix := 1000) (R0 := fun _ _ _ => True) (R1 := fun _ _ _ => True) [16, 20] (⟨#[.agg #[.bool m0, .bool m1, .bool m2, .bool m3, .bool m4, .bool m5, .bool m6, .int .i64 m7, .int .i64 m8, .int .i64 m9], .agg #[.int .i64 code, .int .i64 mods, .int .i64 typ, .int .i64 shift, .int .i64 base, .string text], .pointer (some ⟨w.heap.size, 0, none⟩), .pointer (some ⟨w.heap.size + 1, 0, none⟩), .bool true, .bool true, .bool true, .pointer (some ⟨w.heap.size + 1, 5, none⟩), .string text, .int .i64 (text.size : Int), .bool false, undef, .bool true, .bool true, .agg #[.bool m0, .bool m1, .bool m2, .bool m3, .bool m4, .bool m5, .bool m6, .int .i64 m7, .int .i64 m8, .int .i64 m9], .agg #[.int .i64 code, .int .i64 mods, .int .i64 typ, .int .i64 shift, .int .i64 base, .string text], undef, .string ⟨L.toArray⟩, .agg #[.bool m0, .bool m1, .bool m2, .bool m3, .bool m4, .bool m5, .bool m6, .int .i64 m7, .int .i64 m8, .int .i64 m9], .agg #[.int .i64 code, .int .i64 mods, .int .i64 typ, .int .i64 shift, .int .i64 base, .string text], undef, .string ⟨L.toArray⟩, .bool true, .bool true], []⟩) (fun g => ⟨#[.agg #[.bool m0, .bool m1, .bool m2, .bool m3, .bool m4, .bool m5, .bool m6, .int .i64 m7, .int .i64 m8, .int .i64 m9], .agg #[.int .i64 code, .int .i64 mods, .int .i64 typ, .int .i64 shift, .int .i64 base, .string text], .pointer (some ⟨w.heap.size, 0, none⟩), .pointer (some ⟨w.heap.size + 1, 0, none⟩), .bool true, .bool true, .bool true, .pointer (some ⟨w.heap.size + 1, 5, none⟩), .string text, .int .i64 (text.size : Int), .bool false, undef, .bool true, .bool true, .agg #[.bool m0, .bool m1, .bool m2, .bool m3, .bool m4, .bool m5, .bool m6, .int .i64 m7, .int .i64 m8, .int .i64 m9], .agg #[.int .i64 code, .int .i64 mods, .int .i64 typ, .int .i64 shift, .int .i64 base, .string text], (g 16), .string ⟨L.toArray⟩, .agg #[.bool m0, .bool m1, .bool m2, .bool m3, .bool m4, .bool m5, .bool m6, .int .i64 m7, .int .i64 m8, .int .i64 m9], .agg #[.int .i64 code, .int .i64 mods, .int .i64 typ, .int .i64 shift, .int .i64 base, .string text], (g 20), .string ⟨L.toArray⟩, .bool true, .bool true], []⟩) [.bool true, .bool true, .agg #[.bool m0, .bool m1, .bool m2, .bool m3, .bool m4, .bool m5, .bool m6, .int .i64 m7, .int .i64 m8, .int .i64 m9], .agg #[.int .i64 code, .int .i64 mods, .int .i64 typ, .int .i64 shift, .int .i64 base, .string text], undef, .string ⟨L.toArray⟩, .agg #[.bool m0, .bool m1, .bool m2, .bool m3, .bool m4, .bool m5, .bool m6, .int .i64 m7, .int .i64 m8, .int .i64 m9], .agg #[.int .i64 code, .int .i64 mods, .int .i64 typ, .int .i64 shift, .int .i64 base, .string text], undef, .string ⟨L.toArray⟩, .bool true, .bool true, .bool true] (by kernel_rfl) (by kernel_rfl) (by kernel_rfl) (fun g => by kernel_rfl) (by kernel_rfl) (Below.refl _ _).drew (by decide) (by kernel_rfl)
      (goes_cons (goesK_pure (fun _ => .bool true) rfl (by decide) (by decide) (by kernel_rfl) (fun g => by kernel_rfl) rfl (fun g => by kernel_rfl) (fun g w => by kernel_rfl)) 
      (goes_cons (goesK_pure (fun _ => .bool true) rfl (by decide) (by decide) (by kernel_rfl) (fun g => by kernel_rfl) rfl (fun g => by kernel_rfl) (fun g w => by kernel_rfl)) 
      (goes_cons (goesK_load hst (ahead_none (by decide)) rfl (by decide) (by decide) (by kernel_rfl) (fun g => by kernel_rfl) rfl (fun g => by kernel_rfl) rfl (fun g => by kernel_rfl) lm Tryz.underlying23 rfl (by kernel_rfl)) 
      (goes_cons (goesK_load hst (ahead_none (by decide)) rfl (by decide) (by decide) (by kernel_rfl) (fun g => by kernel_rfl) rfl (fun g => by kernel_rfl) rfl (fun g => by kernel_rfl) lk Tryz.underlying25 rfl (by kernel_rfl)) 
      (goes_cons (goesK_ghost (args := fun g => #[.agg #[.bool m0, .bool m1, .bool m2, .bool m3, .bool m4, .bool m5, .bool m6, .int .i64 m7, .int .i64 m8, .int .i64 m9], .agg #[.int .i64 code, .int .i64 mods, .int .i64 typ, .int .i64 shift, .int .i64 base, .string text]]) hst (ahead_none (by decide)) rfl (by decide) (by decide) 0 rfl (by kernel_rfl) (fun g => by kernel_rfl) rfl (fun g => by kernel_rfl) (fun g w => by kernel_rfl) (fun g W hW hin => fb_out (HKA.out W (HV.out W hW)))) 
      (goes_cons (goesK_str 0 rfl (by kernel_rfl) Tryz.underlying27 Tryz.underlying5 Tryz.underlying9 hst (ahead_none (by decide)) rfl (by decide) (by decide) (by kernel_rfl) (fun g => by kernel_rfl) rfl (fun g => by kernel_rfl) rfl (fun g => by kernel_rfl)) 
      (goes_cons (goesK_load hst (ahead_none (by decide)) rfl (by decide) (by decide) (by kernel_rfl) (fun g => by kernel_rfl) rfl (fun g => by kernel_rfl) rfl (fun g => by kernel_rfl) lm Tryz.underlying23 rfl (by kernel_rfl)) 
      (goes_cons (goesK_load hst (ahead_none (by decide)) rfl (by decide) (by decide) (by kernel_rfl) (fun g => by kernel_rfl) rfl (fun g => by kernel_rfl) rfl (fun g => by kernel_rfl) lk Tryz.underlying25 rfl (by kernel_rfl)) 
      (goes_cons (goesK_ghost (args := fun g => #[.agg #[.bool m0, .bool m1, .bool m2, .bool m3, .bool m4, .bool m5, .bool m6, .int .i64 m7, .int .i64 m8, .int .i64 m9], .agg #[.int .i64 code, .int .i64 mods, .int .i64 typ, .int .i64 shift, .int .i64 base, .string text]]) hst (ahead_none (by decide)) rfl (by decide) (by decide) 1 rfl (by kernel_rfl) (fun g => by kernel_rfl) rfl (fun g => by kernel_rfl) (fun g w => by kernel_rfl) (fun g W hW hin => fb_out (HKB.out W))) 
      (goes_cons (goesK_str 1 rfl (by kernel_rfl) Tryz.underlying27 Tryz.underlying5 Tryz.underlying9 hst (ahead_none (by decide)) rfl (by decide) (by decide) (by kernel_rfl) (fun g => by kernel_rfl) rfl (fun g => by kernel_rfl) rfl (fun g => by kernel_rfl)) 
      (goes_cons (goesK_bin (v := .bool true) (xv := .string ⟨L.toArray⟩) (yv := .string ⟨L.toArray⟩) rfl (by decide) (by decide) (by kernel_rfl) (fun g => by kernel_rfl) rfl (fun g => by kernel_rfl) rfl (fun g => by kernel_rfl) (fun g => by kernel_rfl) (fun w => by go_simp)) 
      (goes_cons (goesK_pure (fun _ => .bool true) rfl (by decide) (by decide) (by kernel_rfl) (fun g => by kernel_rfl) rfl (fun g => by kernel_rfl) (fun g w => by kernel_rfl)) 
      (goes_cons (goesK_pure (fun _ => .bool true) rfl (by decide) (by decide) (by kernel_rfl) (fun g => by kernel_rfl) rfl (fun g => by kernel_rfl) (fun g w => by kernel_rfl)) goes_nil))))))))))))) ?_
    intro g W hW _
    go_wp2_with fail
    go_ret
    exact ⟨rfl, hB1.trans (hW.mono hB1.size)⟩
end Go.Proofs.YtbjmfhcgkpjcfaaGreatDoor
namespace Go.Proofs.YtbjmfhcgkpjcfaaGreatDoor
open Go.RowKit

/-- What later calls ask of the world. -/
def Inv11 (w : World) : Prop := Siz w ∧ Rws w ∧ Tab w
theorem Inv11.below {w w' : World} (h : Inv11 w) (hb : Below w.heap.size w w') : Inv11 w' := ⟨h.1.below' hb, h.2.1.below hb, h.2.2.below hb⟩
theorem rest_two {c : Int} (h : restN c = 2) : c = 9 ∨ c = 13 ∨ c = 27 ∨ c = 127 := by
  unfold restN at h
  repeat' split at h
  all_goals first | omega | simp at h
theorem lplain_code {c : Int} (h : (lookE c).kind = 2) : c = 9 ∨ c = 13 ∨ c = 27 ∨ c = 127 := by
  by_cases hc : c < 57344 ∨ 57455 ≤ c
  · rw [look_out hc] at h
    exact rest_two h
  · obtain ⟨k, rfl⟩ : ∃ k : Fin 111, c = 57344 + k.1 := ⟨⟨(c - 57344).toNat, by omega⟩, by simp; omega⟩
    have := code_all k
    omega
theorem pad_fin : ∀ k : Fin 111, (lookE (57344 + (k.1 : Int))).kind = 5 → (lookE (lookE (57344 + (k.1 : Int))).char).kind = 1 ∨ (lookE (lookE (57344 + (k.1 : Int))).char).kind = 2 := by decide +kernel
theorem pad_char {c : Int} (h : (lookE c).kind = 5) : (lookE (lookE c).char).kind = 1 ∨ (lookE (lookE c).char).kind = 2 := by
  by_cases hc : c < 57344 ∨ 57455 ≤ c
  · rw [look_out hc] at h
    have := rest_rng c
    simp only at h
    omega
  · obtain ⟨k, rfl⟩ : ∃ k : Fin 111, c = 57344 + k.1 := ⟨⟨(c - 57344).toNat, by omega⟩, by simp; omega⟩
    exact pad_fin k h
theorem outR_weak {rm : Bool} {L : List UInt8} {n : Nat} {P : Program} {f : FuncId} {args : Array Value} {w : World} (h : Calls P f args w (OutR rm L n w)) : Calls P f args w (OutR false L n w) :=
  h.mono fun e w' ⟨A, c, he, _, hr, hb⟩ => ⟨A, c, he, (fun h => by cases h), hr, hb⟩
theorem outR_is {rm : Bool} {L M : List UInt8} {n p : Nat} (hl : L = M) (hn : n = p) {P : Program} {f : FuncId} {args : Array Value} {w : World} (h : Calls P f args w (OutR rm M p w)) : Calls P f args w (OutR rm L n w) := by subst hl hn; exact h
/-- A functional key, with the room. -/
theorem lkey_func (m : Mo) (k : Ky) (hk : okK k) (hs : k.text.size ≤ 4294967296) (hm : mayK k = true) (h3 : k.typ ≠ 3) (hK : (lookE k.code).kind = 3 ∨ (lookE k.code).kind = 4) (w : World) (hv : Inv11 w) :
    Calls Tryz.prog 6 #[moV m, kyV k] w (OutR true (legL m k) (legL m k).length w) := by
  obtain ⟨o0, o1⟩ := lold_rng k.mods
  obtain ⟨_, hfp⟩ := func_put m (c := k.code) (o := oldN k.mods) hK o0 o1
  have hL : legL m k = putS (funcQ m (lookE k.code) (oldN k.mods)) := by
    rw [leg_yes hm h3, ← hfp]
    unfold legG legE
    rw [if_neg (by omega), if_neg (by omega), if_neg (by omega), if_pos hK]
  have hI : ∀ W, Below w.heap.size w W → Inv11 W := fun W hW => hv.below hW
  obtain ⟨f4, f3, _⟩ := form_e k.code
  rcases hK with hK | hK
  · refine outR_is hL (by rw [hL]) (lkey_letter m k hk hs hm h3 _ _ rfl rfl hK true _ _ w hI (fun W hW => ?_) hv.1 hv.2.1)
    exact outR_C rfl (lletter_any m k _ _ (by omega) (f3 hK).1 (fin_83 hK) o0 o1 W hW.2.2)
  · refine outR_is hL (by rw [hL]) (lkey_number m k hk hs hm h3 _ _ rfl rfl hK true _ _ w hI (fun W hW => ?_) hv.1 hv.2.1)
    exact outR_C rfl (lnumber_any m k _ _ hK (f4 hK).1 (f4 hK).2 o0 o1 W hW.2.2)
theorem lkey_flat (m : Mo) (k : Ky) (hk : okK k) (hs : k.text.size ≤ 4294967296) (h5 : (lookE k.code).kind ≠ 5) (w : World) (hv : Inv11 w) :
    Calls Tryz.prog 6 #[moV m, kyV k] w (OutR false (legL m k) (legL m k).length w) := by
  by_cases hno : mayK k = false ∨ k.typ = 3
  · exact outR_is (leg_no hno) (by rw [leg_no hno]; rfl) (lkey_no m k hs hno false w hv.1 hv.2.1)
  · have hm : mayK k = true := by cases h : mayK k with | true => rfl | false => exact absurd (.inl h) hno
    have h3 : k.typ ≠ 3 := fun h => hno (.inr h)
    obtain ⟨p1, p2, p4⟩ := old_has k.mods
    have hI : ∀ W, Below w.heap.size w W → Inv11 W := fun W hW => hv.below hW
    obtain ⟨r0, r8⟩ := look_rng k.code
    have k0 := ((may_parts k).1 hm).1.1
    by_cases hF : (lookE k.code).kind = 3 ∨ (lookE k.code).kind = 4
    · exact outR_weak (lkey_func m k hk hs hm h3 hF w hv)
    · have hE : legL m k = legE m (lookE k.code) k.code k.shift (oldN k.mods) (hasN k.mods 1) (hasN k.mods 2) (hasN k.mods 4) k.text.data.toList := by
        rw [leg_yes hm h3]
        unfold legG
        rw [if_neg h5]
      by_cases h1 : (lookE k.code).kind = 1
      · have hsm := shownG_len k.code k.shift (hasN k.mods 1) (hasN k.mods 4) k.text.data.toList
        have hsz : k.text.data.toList.length ≤ 4294967296 := by rw [Array.length_toList]; exact hs
        have HS : ∀ W, Inv11 W → Calls Tryz.prog 28 #[.agg (evC m k (lookE k.code) (oldN k.mods))] W (OutR false (shownG k.code k.shift (hasN k.mods 1) (hasN k.mods 4) k.text.data.toList) _ W) := fun W hW => outR_O rfl (ltext_any m k _ _ _ p4 hk hs W hW.1)
        have hL : legL m k = aheadG (hasN k.mods 2) (shownG k.code k.shift (hasN k.mods 1) (hasN k.mods 4) k.text.data.toList) := by rw [hE]; exact if_pos h1
        cases h2 : hasN k.mods 2 with
        | true =>
          rw [h2] at hL p2
          exact outR_is (hL.trans (if_pos rfl)) (by rw [hL]; rfl) (lkey_text_on m k hk hs hm h3 _ _ rfl rfl h1 p2 false _ _ rfl (by omega) w hI HS hv.1 hv.2.1)
        | false =>
          rw [h2] at hL p2
          exact outR_is (hL.trans (if_neg (by decide))) (by rw [hL]; rfl) (lkey_text_off m k hk hs hm h3 _ _ rfl rfl h1 p2 false _ _ w hI HS hv.1 hv.2.1)
      · by_cases hp : (lookE k.code).kind = 2
        · have hsm := plainG_len m k.code (hasN k.mods 1) (hasN k.mods 4)
          have HS : ∀ W, Inv11 W → Calls Tryz.prog 29 #[.agg (evC m k (lookE k.code) (oldN k.mods))] W (OutR false (plainG m k.code (hasN k.mods 1) (hasN k.mods 4)) _ W) := fun W hW => outR_O rfl (lplain_any m k _ _ (lplain_code hp) _ _ p1 p4 W hW.2.2)
          have hL : legL m k = aheadG (hasN k.mods 2) (plainG m k.code (hasN k.mods 1) (hasN k.mods 4)) := by rw [hE]; unfold legE; rw [if_neg h1, if_pos hp]
          cases h2 : hasN k.mods 2 with
          | true =>
            rw [h2] at hL p2
            exact outR_is (hL.trans (if_pos rfl)) (by rw [hL]; rfl) (lkey_plain_on m k hk hs hm h3 _ _ rfl rfl hp p2 false _ _ rfl (by omega) w hI HS hv.1 hv.2.1)
          | false =>
            rw [h2] at hL p2
            exact outR_is (hL.trans (if_neg (by decide))) (by rw [hL]; rfl) (lkey_plain_off m k hk hs hm h3 _ _ rfl rfl hp p2 false _ _ w hI HS hv.1 hv.2.1)
        · have hL : legL m k = [] := by rw [hE]; unfold legE; rw [if_neg h1, if_neg hp, if_neg hF]
          refine outR_is hL (by rw [hL]; rfl) (lkey_none m k hk hs hm h3 _ _ _ rfl rfl rfl r0 r8 ?_ false w hv.1 hv.2.1)
          unfold lformAt
          rw [if_neg h1, if_neg hp, if_neg (by omega), if_neg (by omega), if_neg h5]
theorem lkey_any (m : Mo) (k : Ky) (hk : okK k) (hs : k.text.size ≤ 4294967296) (w : World) (hv : Inv11 w) :
    Calls Tryz.prog 6 #[moV m, kyV k] w (OutR false (legL m k) (legL m k).length w) := by
  by_cases h5 : (lookE k.code).kind = 5
  · by_cases hno : mayK k = false ∨ k.typ = 3
    · exact outR_is (leg_no hno) (by rw [leg_no hno]; rfl) (lkey_no m k hs hno false w hv.1 hv.2.1)
    · have hm : mayK k = true := by cases h : mayK k with | true => rfl | false => exact absurd (.inl h) hno
      have h3 : k.typ ≠ 3 := fun h => hno (.inr h)
      have hI : ∀ W, Below w.heap.size w W → Inv11 W := fun W hW => hv.below hW
      obtain ⟨_, _, f5⟩ := form_e k.code
      obtain ⟨g0, g1⟩ := f5 h5
      have hch := pad_char h5
      have hcr := (char_e k.code).1
      have hL : legL m k = if m.keypad = true ∧ oldN k.mods = 0 then seqB 2 (lookE k.code).fin [] else legE m (lookE (lookE k.code).char) (lookE k.code).char 0 (oldN k.mods) (hasN k.mods 1) (hasN k.mods 2) (hasN k.mods 4) k.text.data.toList := by
        rw [leg_yes hm h3]
        unfold legG
        rw [if_pos h5]
      obtain ⟨⟨_, b, c, d, e⟩, _, f, g⟩ := (may_parts k).1 hm
      have hm' : mayK ⟨(lookE k.code).char, k.mods, k.typ, 0, k.base, k.text⟩ = true := (may_parts _).2 ⟨⟨by show (lookE (lookE k.code).char).kind ≠ 0; omega, b, c, d, e⟩, .inl rfl, f, g⟩
      have hk' : okK ⟨(lookE k.code).char, k.mods, k.typ, 0, k.base, k.text⟩ := ⟨⟨by show -9223372036854775808 ≤ (lookE k.code).char; omega, by show (lookE k.code).char ≤ 9223372036854775807; omega⟩, hk.mods, hk.typ, in_lit11 (c := 0) (by decide), hk.base⟩
      have hL' : legL m ⟨(lookE k.code).char, k.mods, k.typ, 0, k.base, k.text⟩ = legE m (lookE (lookE k.code).char) (lookE k.code).char 0 (oldN k.mods) (hasN k.mods 1) (hasN k.mods 2) (hasN k.mods 4) k.text.data.toList := by
        rw [leg_yes hm' h3]
        unfold legG
        rw [if_neg (by show (lookE (lookE k.code).char).kind ≠ 5; omega)]
      by_cases hq : m.keypad = true ∧ oldN k.mods = 0
      · have hL2 : legL m k = putS (sqN 2 (lookE k.code).fin []) := by rw [hL, if_pos hq]; exact seqB_is (may_ss3 (by omega) (by omega))
        refine lkey_pad m k hk hs hm h3 _ _ rfl rfl h5 false _ _ w hI (fun W hW => ?_) hv.1 hv.2.1
        exact lpad_seq m k _ _ (by omega) (by omega) hq _ _ hL2.symm rfl W hW.2.2
      · have hL2 : legL m k = legL m ⟨(lookE k.code).char, k.mods, k.typ, 0, k.base, k.text⟩ := by rw [hL, hL', if_neg hq]
        refine lkey_pad m k hk hs hm h3 _ _ rfl rfl h5 false _ _ w hI (fun W hW => ?_) hv.1 hv.2.1
        refine lpad_key m k _ _ (fun h => hq ⟨h.2, h.1⟩) _ _ W (Inv := Inv11) (fun W' hW' => hW.below hW') (fun W' hW' => ?_)
        rw [hL2]
        exact lkey_flat m _ hk' hs (by show (lookE (lookE k.code).char).kind ≠ 5; omega) W' hW'
  · exact lkey_flat m k hk hs h5 w hv
theorem legC : LegC Inv11 where
  invB := fun h hb => h.below hb
  key := fun m k w hv hk hs => (lkey_any m k hk hs w hv).mono fun _ _ ⟨A, c, he, _, hr, hb⟩ => ⟨A, c, he, hr, hb⟩
  look := fun c w hv _ => plook_any c w hv.1 hv.2.1
end Go.Proofs.YtbjmfhcgkpjcfaaGreatDoor
