/-
  Layer 9, the landed keys, walked: Look.
-/
import Derived.Test.YtdhpbihooeckoaaDoorKoT
namespace Go.Proofs.YtdhpbihooeckoaaDoor
open Go.RowKit

theorem find_take_no {k : Nat} {c : Int} (h : ∀ r ∈ roL.take k, inRo c r = false) {r : Ro} (hk : k < roL.length) (hr : roL[k] = r) (hi : inRo c r = true) : roL.find? (inRo c) = some r := by
  have e : roL = roL.take k ++ roL.drop k := (List.take_append_drop k roL).symm
  rw [List.drop_eq_getElem_cons hk, hr] at e
  rw [e, List.find?_append, List.find?_eq_none.2 (fun x hx => by rw [h x hx]; decide)]
  simp [hi]
theorem take_more {k : Nat} {c : Int} (h : ∀ r ∈ roL.take k, inRo c r = false) {r : Ro} (hk : k < roL.length) (hr : roL[k] = r) (hi : inRo c r = false) : ∀ r ∈ roL.take (k + 1), inRo c r = false := by
  rw [List.take_succ_eq_append_getElem hk, hr]
  intro x hx
  rcases List.mem_append.1 hx with hx | hx
  · exact h x hx
  · rw [List.mem_singleton.1 hx]; exact hi
theorem ro_mem {k : Nat} (hk : k < roL.length) {r : Ro} (hr : roL[k] = r) : r ∈ roL := hr ▸ List.getElem_mem hk
theorem find_all_no {c : Int} (h : ∀ r ∈ roL.take 22, inRo c r = false) : roL.find? (inRo c) = none := by
  rw [show roL.take 22 = roL from rfl] at h
  exact List.find?_eq_none.2 (fun x hx => by rw [h x hx]; decide)
theorem below_set5 {B : Nat} {a w : World} (h : Below B a w) {b : Nat} (hb : B ≤ b) (x y z u v : Value) : Below B a (((((w.setCell ⟨b, 0, none⟩ x).setCell ⟨b, 1, none⟩ y).setCell ⟨b, 2, none⟩ z).setCell ⟨b, 3, none⟩ u).setCell ⟨b, 4, none⟩ v) :=
  ((((h.setCell (p := ⟨b, 0, none⟩) hb x).setCell (p := ⟨b, 1, none⟩) hb y).setCell (p := ⟨b, 2, none⟩) hb z).setCell (p := ⟨b, 3, none⟩) hb u).setCell (p := ⟨b, 4, none⟩) hb v
set_option maxRecDepth 100000 in
set_option maxHeartbeats 4000000 in
theorem plook_any (c : Int) (w : World) (hs : Siz w) (hR : Rws w) : Calls Tryd.prog 22 #[.int .i64 c] w fun e w' => e = .returned (enV (lookE c)) ∧ Below w.heap.size w w' := by
  have HC := Lib.hid (lookP_eq c)
  obtain ⟨b, o, cp, t, fz, hg, hg0, hb0, hrd⟩ := hR
  have cg := cell_of_row w 0 0 _ t fz hg
  simp only [List.getElem?_toArray, List.getElem?_cons_zero] at cg
  have hG : ∀ x, (w.alloc x).cell? ⟨0, 0, none⟩ = some (.slice (some ⟨b, o, none⟩) 22 cp) := fun x => (((Below.refl _ w).alloc (Nat.le_refl _) x).cell (p := ⟨0, 0, none⟩) hg0).trans cg
  have p0 := Blk.new w 34 #[.int .i64 0, .int .u8 0, .int .i64 0, .int .i64 0, .bool false]
  have hB0 := (Below.refl w.heap.size w).alloc (Nat.le_refl _) (.cells #[.int .i64 0, .int .u8 0, .int .i64 0, .int .i64 0, .bool false] 34)
  go_enter Tryd.func22, Tryd.ntmps22
  go_wp2
  clear hG cg hg
  go_loopw [7] (fun i wr => ∃ k : Nat, k ≤ 22 ∧ i = .int .i64 k ∧ Hid (∀ r ∈ roL.take k, inRo c r = false) ∧ Blk wr w.heap.size 34 #[.int .i64 0, .int .u8 0, .int .i64 0, .int .i64 0, .bool false] ∧ Below w.heap.size w wr) (fun i _ => 22 - (intOf i).toNat)
  case atStart => exact ⟨0, by omega, rfl, Lib.hid (by simp), p0, hB0⟩
  case round =>
    obtain ⟨k, hk, rfl, HN, hp, hbw⟩ := hrel
    clear p0 hB0
    by_cases hlt : k < 22
    · obtain ⟨r, hr⟩ : ∃ r, roL[k]'hlt = r := ⟨_, rfl⟩
      obtain ⟨A, cp1, hns, a0, a1, a2, a3, a4, a5, a6⟩ := (hrd.below hbw hb0).at_ hlt hr
      have hb1 : b < wr.heap.size := Nat.lt_of_lt_of_le hb0 hbw.size
      have HNS : Hid (∀ x, Rd (wr.alloc x) A (is_ r.nums)) := Lib.hid fun x => (hns.rd hbw.size).alloc x
      have k1 : (k : Int) < 22 := by omega
      have k0 : (0 : Int) ≤ (k : Int) := by omega
      have hx := ro_mem hlt hr
      clear hns
      by_cases h1 : r.first ≤ c
      · by_cases h2 : c ≤ r.last
        · have HF := Lib.hid (find_take_no HN.out hlt hr ((inRo_iff c r).2 ⟨h1, h2⟩))
          have HE : Hid (enV (entK r (c - r.first).toNat) = enV (lookE c)) := Lib.hid (by rw [← HC.out]; unfold lookP; rw [HF.out])
          obtain ⟨⟨K, F, N, C, B⟩, hE⟩ : ∃ E, entK r (c - r.first).toNat = E := ⟨_, rfl⟩
          have HQ : Hid (∀ W, Rd W A (is_ r.nums) → Calls Tryd.prog 32 #[.agg #[.int .i64 r.first, .int .i64 r.last, .int .i64 r.kind, .string ⟨r.finals.toArray⟩, .slice A r.nums.length cp1, .string ⟨r.chars.toArray⟩, .bool r.keys], .int .i64 c] W fun e w' => e = .returned (.agg #[.int .i64 K, .int .u8 F, .int .i64 N, .int .i64 C, .bool B]) ∧ Below W.heap.size W w') := Lib.hid fun W hW => by
            have := entry_ro r hx (c - r.first).toNat c (by omega) h2 A cp1 W hW
            rwa [hE] at this
          rw [hE] at HE
          clear hE hr
          go_wp2_with fail
          refine (HQ.out _ (HNS.out _)).mono ?_
          rintro e w2 ⟨rfl, hb2⟩
          have hp2 := (hp.alloc (.cells #[.int .i64 r.first, .int .i64 r.last, .int .i64 r.kind, .string ⟨r.finals.toArray⟩, .slice A r.nums.length cp1, .string ⟨r.chars.toArray⟩, .bool r.keys] 45)).below hb2 (by simp; exact Nat.lt_succ_of_lt hp.lt)
          have hbe := (hbw.alloc hbw.size (.cells #[.int .i64 r.first, .int .i64 r.last, .int .i64 r.kind, .string ⟨r.finals.toArray⟩, .slice A r.nums.length cp1, .string ⟨r.chars.toArray⟩, .bool r.keys] 45)).trans (hb2.mono (by simp; exact Nat.le_succ_of_le hbw.size))
          have q0 := hp2.frozen 0
          have q1 := hp2.frozen 1
          have q2 := hp2.frozen 2
          have q3 := hp2.frozen 3
          have q4 := hp2.frozen 4
          have c0 := hp2.cell 0
          have c1 := hp2.cell 1
          have c2 := hp2.cell 2
          have c3 := hp2.cell 3
          have c4 := hp2.cell 4
          go_wp2_with fail
          exact bodyPost_ret (v := .agg #[.int .i64 K, .int .u8 F, .int .i64 N, .int .i64 C, .bool B]) (by simp [results, Tryd.results22, go_sem, c0, c1, c2, c3, c4]) rfl ⟨by rw [← HE.out]; rfl, below_set5 hbe (Nat.le_refl _) _ _ _ _ _⟩
        · have HN2 := Lib.hid (take_more HN.out hlt hr (inRo_no (c := c) (r := r) (fun h => h2 h.2)))
          clear hr
          go_wp2
          go_roundw
          case rel => exact ⟨k + 1, by omega, by go_num, HN2, hp.alloc _, hbw.alloc hbw.size _⟩
          case measure => simp [intOf]; omega
      · have HN2 := Lib.hid (take_more HN.out hlt hr (inRo_no (c := c) (r := r) (fun h => h1 h.1)))
        clear hr
        go_wp2
        go_roundw
        case rel => exact ⟨k + 1, by omega, by go_num, HN2, hp.alloc _, hbw.alloc hbw.size _⟩
        case measure => simp [intOf]; omega
    · obtain rfl : k = 22 := by omega
      have HF := Lib.hid (find_all_no HN.out)
      have hs2 := hs.below hbw (Nat.le_refl _)
      obtain ⟨T, hT⟩ : ∃ T, txK c = T := ⟨_, rfl⟩
      have HE : Hid ((if T then (⟨1, 0, 0, 0, false⟩ : En) else ⟨0, 0, 0, 0, false⟩) = lookE c) := Lib.hid (by rw [← HC.out, ← hT]; unfold lookP; rw [HF.out])
      have HQ := Lib.hid (isText_any c wr hs2)
      rw [hT] at HQ
      clear hT
      go_wp2_with fail
      refine HQ.out.mono ?_
      rintro e w2 ⟨rfl, hb2⟩
      have hp2 := hp.below hb2 hp.lt
      have hbe := hbw.trans (hb2.mono hbw.size)
      have q0 := hp2.frozen 0
      have q1 := hp2.frozen 1
      have q2 := hp2.frozen 2
      have q3 := hp2.frozen 3
      have q4 := hp2.frozen 4
      have c0 := hp2.cell 0
      have c1 := hp2.cell 1
      have c2 := hp2.cell 2
      have c3 := hp2.cell 3
      have c4 := hp2.cell 4
      cases T with
      | true =>
        go_wp2_with fail
        exact bodyPost_ret (v := .agg #[.int .i64 1, .int .u8 0, .int .i64 0, .int .i64 0, .bool false]) (by simp [results, Tryd.results22, go_sem, c0, c1, c2, c3, c4]) rfl ⟨by rw [← HE.out]; rfl, below_set5 hbe (Nat.le_refl _) _ _ _ _ _⟩
      | false =>
        go_wp2_with fail
        exact bodyPost_ret (v := .agg #[.int .i64 0, .int .u8 0, .int .i64 0, .int .i64 0, .bool false]) (by simp [results, Tryd.results22, go_sem, c0, c1, c2, c3, c4]) rfl ⟨by rw [← HE.out]; rfl, below_set5 hbe (Nat.le_refl _) _ _ _ _ _⟩
end Go.Proofs.YtdhpbihooeckoaaDoor
