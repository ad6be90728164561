/-
  Layer 9, the landed keys, walked: Look. Layer 10, the landed mods: May. A drawn region that lays one new block and stores known cells into it, last; and whose calls answer what the run alone tells. From layer 10's walks on: a key's event that came in. Layer 3, walked: the program's reader: one, part.
-/
import Derived.Test.YtbjmfhcgkpjcfaaDoorG15
import Derived.Test.YtbjmfhcgkpjcfaaDoorG17
import Derived.Test.YtbjmfhcgkpjcfaaDoorG26
import Derived.Test.YtbjmfhcgkpjcfaaDoorG27
import Derived.Test.YtbjmfhcgkpjcfaaDoorG31
import Derived.Test.YtbjmfhcgkpjcfaaDoorG32
import Derived.Deep.Matrix
import Derived.Deep.Slices
import Derived.OpenShut
import Derived.Deep.Grids
namespace Go.Proofs.YtbjmfhcgkpjcfaaDoor
open Go.RowKit

theorem find_take_no {k : Nat} {c : Int} (h : ∀ r ∈ roL.take k, inRo c r = false) {r : Ro} (hk : k < roL.length) (hr : roL[k] = r) (hi : inRo c r = true) : roL.find? (inRo c) = some r := by
  have e : roL = roL.take k ++ roL.drop k := (List.take_append_drop k roL).symm
  rw [List.drop_eq_getElem_cons hk, hr] at e
  rw [e, List.find?_append, List.find?_eq_none.2 (fun x hx => by rw [h x hx]; decide)]
  simp [hi]
theorem take_more {k : Nat} {c : Int} (h : ∀ r ∈ roL.take k, inRo c r = false) {r : Ro} (hk : k < roL.length) (hr : roL[k] = r) (hi : inRo c r = false) : ∀ r ∈ roL.take (k + 1), inRo c r = false := by
  rw [List.take_succ_eq_append_getElem hk, hr]
  intro x hx
  rcases List.mem_append.1 hx with hx | hx
  · exact h x hx
  · rw [List.mem_singleton.1 hx]; exact hi
theorem ro_mem {k : Nat} (hk : k < roL.length) {r : Ro} (hr : roL[k] = r) : r ∈ roL := hr ▸ List.getElem_mem hk
theorem find_all_no {c : Int} (h : ∀ r ∈ roL.take 22, inRo c r = false) : roL.find? (inRo c) = none := by
  rw [show roL.take 22 = roL from rfl] at h
  exact List.find?_eq_none.2 (fun x hx => by rw [h x hx]; decide)
theorem below_set5 {B : Nat} {a w : World} (h : Below B a w) {b : Nat} (hb : B ≤ b) (x y z u v : Value) : Below B a (((((w.setCell ⟨b, 0, none⟩ x).setCell ⟨b, 1, none⟩ y).setCell ⟨b, 2, none⟩ z).setCell ⟨b, 3, none⟩ u).setCell ⟨b, 4, none⟩ v) :=
  ((((h.setCell (p := ⟨b, 0, none⟩) hb x).setCell (p := ⟨b, 1, none⟩) hb y).setCell (p := ⟨b, 2, none⟩) hb z).setCell (p := ⟨b, 3, none⟩) hb u).setCell (p := ⟨b, 4, none⟩) hb v
set_option maxRecDepth 100000 in
set_option maxHeartbeats 4000000 in
theorem plook_any (c : Int) (w : World) (hs : Siz w) (hR : Rws w) : Calls Tryd.prog 10 #[.int .i64 c] w fun e w' => e = .returned (enV (lookE c)) ∧ Below w.heap.size w w' := by
  have HC := Lib.hid (lookP_eq c)
  obtain ⟨b, o, cp, t, fz, hg, hg0, hb0, hrd⟩ := hR
  have cg := cell_of_row w 0 0 _ t fz hg
  simp only [List.getElem?_toArray, List.getElem?_cons_zero] at cg
  have hG : ∀ x, (w.alloc x).cell? ⟨0, 0, none⟩ = some (.slice (some ⟨b, o, none⟩) 22 cp) := fun x => (((Below.refl _ w).alloc (Nat.le_refl _) x).cell (p := ⟨0, 0, none⟩) hg0).trans cg
  have p0 := Blk.new w 32 #[.int .i64 0, .int .u8 0, .int .i64 0, .int .i64 0, .bool false]
  have hB0 := (Below.refl w.heap.size w).alloc (Nat.le_refl _) (.cells #[.int .i64 0, .int .u8 0, .int .i64 0, .int .i64 0, .bool false] 32)
  go_enter Tryd.func10, Tryd.ntmps10
  go_wp2
  clear hG cg hg
  go_loopw [7] (fun i wr => ∃ k : Nat, k ≤ 22 ∧ i = .int .i64 k ∧ Hid (∀ r ∈ roL.take k, inRo c r = false) ∧ Blk wr w.heap.size 32 #[.int .i64 0, .int .u8 0, .int .i64 0, .int .i64 0, .bool false] ∧ Below w.heap.size w wr) (fun i _ => 22 - (intOf i).toNat)
  case atStart => exact ⟨0, by omega, rfl, Lib.hid (by simp), p0, hB0⟩
  case round =>
    obtain ⟨k, hk, rfl, HN, hp, hbw⟩ := hrel
    clear p0 hB0
    by_cases hlt : k < 22
    · obtain ⟨r, hr⟩ : ∃ r, roL[k]'hlt = r := ⟨_, rfl⟩
      obtain ⟨A, cp1, hns, a0, a1, a2, a3, a4, a5, a6⟩ := (hrd.below hbw hb0).at_ hlt hr
      have hb1 : b < wr.heap.size := Nat.lt_of_lt_of_le hb0 hbw.size
      have HNS : Hid (∀ x, Rd (wr.alloc x) A (is_ r.nums)) := Lib.hid fun x => (hns.rd hbw.size).alloc x
      have k1 : (k : Int) < 22 := by omega
      have k0 : (0 : Int) ≤ (k : Int) := by omega
      have hx := ro_mem hlt hr
      clear hns
      by_cases h1 : r.first ≤ c
      · by_cases h2 : c ≤ r.last
        · have HF := Lib.hid (find_take_no HN.out hlt hr ((inRo_iff c r).2 ⟨h1, h2⟩))
          have HE : Hid (enV (entK r (c - r.first).toNat) = enV (lookE c)) := Lib.hid (by rw [← HC.out]; unfold lookP; rw [HF.out])
          obtain ⟨⟨K, F, N, C, B⟩, hE⟩ : ∃ E, entK r (c - r.first).toNat = E := ⟨_, rfl⟩
          have HQ : Hid (∀ W, Rd W A (is_ r.nums) → Calls Tryd.prog 23 #[.agg #[.int .i64 r.first, .int .i64 r.last, .int .i64 r.kind, .string ⟨r.finals.toArray⟩, .slice A r.nums.length cp1, .string ⟨r.chars.toArray⟩, .bool r.keys], .int .i64 c] W fun e w' => e = .returned (.agg #[.int .i64 K, .int .u8 F, .int .i64 N, .int .i64 C, .bool B]) ∧ Below W.heap.size W w') := Lib.hid fun W hW => by
            have := entry_ro r hx (c - r.first).toNat c (by omega) h2 A cp1 W hW
            rwa [hE] at this
          rw [hE] at HE
          clear hE hr
          go_wp2_with fail
          refine (HQ.out _ (HNS.out _)).mono ?_
          rintro e w2 ⟨rfl, hb2⟩
          have hp2 := (hp.alloc (.cells #[.int .i64 r.first, .int .i64 r.last, .int .i64 r.kind, .string ⟨r.finals.toArray⟩, .slice A r.nums.length cp1, .string ⟨r.chars.toArray⟩, .bool r.keys] 62)).below hb2 (by simp; exact Nat.lt_succ_of_lt hp.lt)
          have hbe := (hbw.alloc hbw.size (.cells #[.int .i64 r.first, .int .i64 r.last, .int .i64 r.kind, .string ⟨r.finals.toArray⟩, .slice A r.nums.length cp1, .string ⟨r.chars.toArray⟩, .bool r.keys] 62)).trans (hb2.mono (by simp; exact Nat.le_succ_of_le hbw.size))
          have q0 := hp2.frozen 0
          have q1 := hp2.frozen 1
          have q2 := hp2.frozen 2
          have q3 := hp2.frozen 3
          have q4 := hp2.frozen 4
          have c0 := hp2.cell 0
          have c1 := hp2.cell 1
          have c2 := hp2.cell 2
          have c3 := hp2.cell 3
          have c4 := hp2.cell 4
          go_wp2_with fail
          exact bodyPost_ret (v := .agg #[.int .i64 K, .int .u8 F, .int .i64 N, .int .i64 C, .bool B]) (by simp [results, Tryd.results10, go_sem, c0, c1, c2, c3, c4]) rfl ⟨by rw [← HE.out]; rfl, below_set5 hbe (Nat.le_refl _) _ _ _ _ _⟩
        · have HN2 := Lib.hid (take_more HN.out hlt hr (inRo_no (c := c) (r := r) (fun h => h2 h.2)))
          clear hr
          go_wp2
          go_roundw
          case rel => exact ⟨k + 1, by omega, by go_num, HN2, hp.alloc _, hbw.alloc hbw.size _⟩
          case measure => simp [intOf]; omega
      · have HN2 := Lib.hid (take_more HN.out hlt hr (inRo_no (c := c) (r := r) (fun h => h1 h.1)))
        clear hr
        go_wp2
        go_roundw
        case rel => exact ⟨k + 1, by omega, by go_num, HN2, hp.alloc _, hbw.alloc hbw.size _⟩
        case measure => simp [intOf]; omega
    · obtain rfl : k = 22 := by omega
      have HF := Lib.hid (find_all_no HN.out)
      have hs2 := hs.below hbw (Nat.le_refl _)
      obtain ⟨T, hT⟩ : ∃ T, txK c = T := ⟨_, rfl⟩
      have HE : Hid ((if T then (⟨1, 0, 0, 0, false⟩ : En) else ⟨0, 0, 0, 0, false⟩) = lookE c) := Lib.hid (by rw [← HC.out, ← hT]; unfold lookP; rw [HF.out])
      have HQ := Lib.hid (isText_any c wr hs2)
      rw [hT] at HQ
      clear hT
      go_wp2_with fail
      refine HQ.out.mono ?_
      rintro e w2 ⟨rfl, hb2⟩
      have hp2 := hp.below hb2 hp.lt
      have hbe := hbw.trans (hb2.mono hbw.size)
      have q0 := hp2.frozen 0
      have q1 := hp2.frozen 1
      have q2 := hp2.frozen 2
      have q3 := hp2.frozen 3
      have q4 := hp2.frozen 4
      have c0 := hp2.cell 0
      have c1 := hp2.cell 1
      have c2 := hp2.cell 2
      have c3 := hp2.cell 3
      have c4 := hp2.cell 4
      cases T with
      | true =>
        go_wp2_with fail
        exact bodyPost_ret (v := .agg #[.int .i64 1, .int .u8 0, .int .i64 0, .int .i64 0, .bool false]) (by simp [results, Tryd.results10, go_sem, c0, c1, c2, c3, c4]) rfl ⟨by rw [← HE.out]; rfl, below_set5 hbe (Nat.le_refl _) _ _ _ _ _⟩
      | false =>
        go_wp2_with fail
        exact bodyPost_ret (v := .agg #[.int .i64 0, .int .u8 0, .int .i64 0, .int .i64 0, .bool false]) (by simp [results, Tryd.results10, go_sem, c0, c1, c2, c3, c4]) rfl ⟨by rw [← HE.out]; rfl, below_set5 hbe (Nat.le_refl _) _ _ _ _ _⟩
end Go.Proofs.YtbjmfhcgkpjcfaaDoor
namespace Go.Proofs.YtbjmfhcgkpjcfaaDoor
open Go.RowKit

def typeN (n : Int) : Bool := n == 1 || n == 2 || n == 3
theorem type_eq (n : Int) : typeN n = (!(decide (n < 1) || decide (3 < n))) := by
  unfold typeN
  rw [Bool.eq_iff_iff]
  simp only [Bool.or_eq_true, beq_iff_eq, Bool.not_eq_true', Bool.or_eq_false_iff, decide_eq_false_iff_not]
  omega
theorem are_eq (n : Int) : areN n = (!(decide (n < 0) || decide (255 < n))) := by
  unfold areN
  rw [Bool.eq_iff_iff]
  simp only [Bool.and_eq_true, decide_eq_true_eq, Bool.not_eq_true', Bool.or_eq_false_iff, decide_eq_false_iff_not]
  omega
set_option maxRecDepth 100000 in
theorem type_any (n : Int) (w : World) : Calls Tryd.prog 36 #[.int .i64 n] w fun e w' => e = .returned (.bool (typeN n)) ∧ Below w.heap.size w w' := by
  unfold typeN
  obtain ⟨a, ha⟩ : ∃ a, (n == 1) = a := ⟨_, rfl⟩
  obtain ⟨b, hb⟩ : ∃ a, (n == 2) = a := ⟨_, rfl⟩
  obtain ⟨c, hc⟩ : ∃ a, (n == 3) = a := ⟨_, rfl⟩
  rw [ha, hb, hc]
  go_enter Tryd.func36, Tryd.ntmps36
  cases a <;> cases b <;> cases c <;> (go_wp2_with fail; go_ret; exact ⟨rfl, Below.refl _ _⟩)
set_option maxRecDepth 100000 in
theorem tn_any (c : Int) (w : World) (hs : Siz w) (hR : Rws w) : Calls Tryd.prog 37 #[.int .i64 c] w fun e w' => e = .returned (.bool (c == 0 || textK c)) ∧ Below w.heap.size w w' := by
  obtain ⟨a, ha⟩ : ∃ a, (c == 0) = a := ⟨_, rfl⟩
  obtain ⟨ki, hki⟩ : ∃ q, (lookE c).kind = q := ⟨_, rfl⟩
  have hf : ∀ W : World, (Instr.field 32 (enV (lookE c)) 0).run Tryd.prog W = .ok (.int .i64 ki) W := fun W => by
    rw [← hki]
    exact (by kernel_rfl : (Instr.field 32 (enV (lookE c)) 0).run Tryd.prog W = .ok (.int .i64 (lookE c).kind) W)
  have hlook := plook_any c w hs hR
  have HT := Lib.hid (show textK c = (ki == 1) by unfold textK; rw [hki])
  obtain ⟨q, hq⟩ : ∃ q, (ki == 1) = q := ⟨_, rfl⟩
  rw [HT.out, ha, hq]
  obtain ⟨E, hE⟩ : ∃ E, enV (lookE c) = E := ⟨_, rfl⟩
  rw [hE] at hf hlook
  clear hE hki HT hs hR
  go_enter Tryd.func37, Tryd.ntmps37
  cases a with
  | true =>
    go_wp2_with fail
    go_ret
    exact ⟨rfl, Below.refl _ _⟩
  | false =>
    go_wp2_with fail
    refine hlook.mono ?_
    clear hlook
    rintro e w1 ⟨rfl, hb1⟩
    go_wp2_with fail
    go_ret
    exact ⟨rfl, hb1⟩
set_option maxRecDepth 100000 in
set_option maxHeartbeats 8000000 in
theorem pmods_may (k : Ky) (hs : k.text.size ≤ 4294967296) (w : World) (hz : Siz w) (hR : Rws w) : Calls Tryd.prog 18 #[kyV k] w fun e w' => e = .returned (.bool (mayK k)) ∧ Below w.heap.size w w' := by
  obtain ⟨code, mods, typ, shift, base, text⟩ := k
  simp only at hs
  have HLK : Hid (∀ W, Siz W → Rws W → Calls Tryd.prog 10 #[.int .i64 code] W fun e w' => e = .returned (enV (lookE code)) ∧ Below W.heap.size W w') := Lib.hid fun W a b => plook_any code W a b
  obtain ⟨ki, hki⟩ : ∃ q, (lookE code).kind = q := ⟨_, rfl⟩
  have hf : ∀ W : World, (Instr.field 32 (enV (lookE code)) 0).run Tryd.prog W = .ok (.int .i64 ki) W := fun W => by
    rw [← hki]
    exact (by kernel_rfl : (Instr.field 32 (enV (lookE code)) 0).run Tryd.prog W = .ok (.int .i64 (lookE code).kind) W)
  obtain ⟨n0, h0⟩ : ∃ a, (ki != 0) = a := ⟨_, rfl⟩
  obtain ⟨am, h1⟩ : ∃ a, areN mods = a := ⟨_, rfl⟩
  obtain ⟨ty, h2⟩ : ∃ a, typeN typ = a := ⟨_, rfl⟩
  obtain ⟨p, hp⟩ : ∃ a, (shift == 0 || textK shift) = a := ⟨_, rfl⟩
  obtain ⟨q, hq⟩ : ∃ a, (base == 0 || textK base) = a := ⟨_, rfl⟩
  obtain ⟨r, hr⟩ : ∃ a, cleanB text = a := ⟨_, rfl⟩
  have HM := Lib.hid (show mayK ⟨code, mods, typ, shift, base, text⟩ = (n0 && (am && (ty && (p && (q && r))))) by
    rw [← h0, ← hki, ← h1, ← h2, ← hp, ← hq, ← hr, are_eq, type_eq]
    show (!((lookE code).kind == 0 || decide (mods < 0) || decide (255 < mods) || decide (typ < 1) || decide (3 < typ)) && ((shift == 0 || textK shift) && (base == 0 || textK base) && cleanB text)) = _
    show _ = ((!((lookE code).kind == 0)) && _)
    generalize ((lookE code).kind == 0) = x1
    generalize decide (mods < 0) = x2
    generalize decide (255 < mods) = x3
    generalize decide (typ < 1) = x4
    generalize decide (3 < typ) = x5
    generalize (shift == 0 || textK shift) = x6
    generalize (base == 0 || textK base) = x7
    generalize cleanB text = x8
    revert x1 x2 x3 x4 x5 x6 x7 x8
    decide)
  have HA : Hid (∀ W, Calls Tryd.prog 35 #[.int .i64 mods] W fun e w' => e = .returned (.bool am) ∧ Below W.heap.size W w') := Lib.hid fun W => are_at h1 W
  have HT : Hid (∀ W, Calls Tryd.prog 36 #[.int .i64 typ] W fun e w' => e = .returned (.bool ty) ∧ Below W.heap.size W w') := Lib.hid fun W => by
    have := type_any typ W
    rwa [h2] at this
  have HP : Hid (∀ W, Siz W → Rws W → Calls Tryd.prog 37 #[.int .i64 shift] W fun e w' => e = .returned (.bool p) ∧ Below W.heap.size W w') := Lib.hid fun W a b => by
    have := tn_any shift W a b
    rwa [hp] at this
  have HQ : Hid (∀ W, Siz W → Rws W → Calls Tryd.prog 37 #[.int .i64 base] W fun e w' => e = .returned (.bool q) ∧ Below W.heap.size W w') := Lib.hid fun W a b => by
    have := tn_any base W a b
    rwa [hq] at this
  have HC : Hid (∀ W, Siz W → Calls Tryd.prog 38 #[.string text] W fun e w' => e = .returned (.bool r) ∧ Below W.heap.size W w') := Lib.hid fun W a => by
    have := pkeytext_any text hs W a
    rwa [hr] at this
  obtain ⟨E, hE⟩ : ∃ E, enV (lookE code) = E := ⟨_, rfl⟩
  rw [hE] at HLK hf
  rw [HM.out]
  clear hE hki hp hq hr hs HM h1 h2
  have hB := ky_box w ⟨code, mods, typ, shift, base, text⟩
  have k0 := Blk.new w 25 (kyC ⟨code, mods, typ, shift, base, text⟩)
  rw [kyV]
  rw [kyC] at hB k0
  simp only at hB k0 ⊢
  have hz0 := hz.below' hB
  have hR0 := hR.below hB
  have c0 := k0.cell 0
  go_enter Tryd.func18, Tryd.ntmps18
  go_wp2_with fail
  refine (HLK.out _ hz0 hR0).mono ?_
  rintro e w1 ⟨rfl, hb1⟩
  have k1 := k0.below hb1 k0.lt
  have hB1 := hB.trans (hb1.mono hB.size)
  clear HLK k0 hB hb1 c0 hz0 hR0
  have c1 := k1.cell 1
  cases n0 with
  | false =>
    go_wp2_with fail
    go_ret
    exact ⟨rfl, hB1⟩
  | true =>
  go_wp2_with fail
  refine (HA.out _).mono ?_
  rintro e w2 ⟨rfl, hb2⟩
  have k2 := k1.below hb2 k1.lt
  have hB2 := hB1.trans (hb2.mono hB1.size)
  clear HA k1 hB1 hb2 c1
  have c2 := k2.cell 2
  cases am with
  | false =>
    go_wp2_with fail
    go_ret
    exact ⟨rfl, hB2⟩
  | true =>
  go_wp2_with fail
  refine (HT.out _).mono ?_
  rintro e w3 ⟨rfl, hb3⟩
  have k3 := k2.below hb3 k2.lt
  have hB3 := hB2.trans (hb3.mono hB2.size)
  clear HT k2 hB2 hb3 c2
  have c3 := k3.cell 3
  cases ty with
  | false =>
    go_wp2_with fail
    go_ret
    exact ⟨rfl, hB3⟩
  | true =>
  go_wp2_with fail
  refine (HP.out _ (hz.below' hB3) (hR.below hB3)).mono ?_
  rintro e w4 ⟨rfl, hb4⟩
  have k4 := k3.below hb4 k3.lt
  have hB4 := hB3.trans (hb4.mono hB3.size)
  clear HP k3 hB3 hb4 c3
  have c4 := k4.cell 4
  cases p with
  | false =>
    go_wp2_with fail
    go_ret
    exact ⟨rfl, hB4⟩
  | true =>
  go_wp2_with fail
  refine (HQ.out _ (hz.below' hB4) (hR.below hB4)).mono ?_
  rintro e w5 ⟨rfl, hb5⟩
  have k5 := k4.below hb5 k4.lt
  have hB5 := hB4.trans (hb5.mono hB4.size)
  clear HQ k4 hB4 hb5 c4
  have c5 := k5.cell 5
  cases q with
  | false =>
    go_wp2_with fail
    go_ret
    exact ⟨rfl, hB5⟩
  | true =>
  go_wp2_with fail
  refine (HC.out _ (hz.below' hB5)).mono ?_
  rintro e w6 ⟨rfl, hb6⟩
  have hB6 := hB5.trans (hb6.mono hB5.size)
  clear HC k5 hB5 hb6 c5
  go_wp2_with fail
  go_ret
  exact ⟨rfl, hB6⟩
end Go.Proofs.YtbjmfhcgkpjcfaaDoor
namespace Go.Proofs.YtbjmfhcgkpjcfaaDoor
open Go.RowKit

section
variable {P : Program} {ops : Array Oper} {md : Region.Mode} {w1 : World} {K : List Fact} {ix iz : Nat} {R0 : (Tmp → Value) → World → World → Prop} {aF : (Tmp → Value) → Act} {i : Nat} {o : Oper}
/-- A new block, known whole. -/
def FNew (w1 : World) (ty : TypeId) (z : Array Value) (v : Value) (w : World) : Prop := ∃ b, v = .pointer (some ⟨b, 0, none⟩) ∧ w1.heap.size ≤ b ∧ Blk w b ty z
theorem fnew_ok (w1 : World) (i : Nat) (d : Tmp) (ty : TypeId) (z : Array Value) : (⟨i, d, FNew w1 ty z⟩ : Fact).ok := fun _ _ _ ⟨b, e, h1, h2⟩ hb => ⟨b, e, h1, h2.below hb h2.lt⟩
theorem goesK_new {d : Tmp} {ty : TypeId} {z : Array Value} (hst : ∀ f ∈ K, f.ok) (hah : Ahead md ops ix i) (hio : ops[i]? = some o) (hx : i ≠ ix) (hz : i ≠ iz) (p : Nat) (hat : K[p]? = some ⟨i, d, FNew w1 ty z⟩) (huq : ((List.range K.length).all fun q => q == p || ((K[q]?).map fun f => f.i != i && f.d != d).getD true) = true) (hw : ∀ g, Region.wanted o (yielded ops (aF g).tmps) = true) (h0 : o.dst = some d) (hd : ∀ g, (aF g).tmps[d]? = some (g d)) {R1 : (Tmp → Value) → World → World → Prop}
    (hr : ∀ g w, (execOp (aF g).eval o).run P w = .ok (.value (.pointer (some ⟨w.heap.size, 0, none⟩))) (w.alloc (.cells z ty))) : GoesM P md ops aF (SK md ops w1 K ix iz R0 R1) i o :=
  goesK_make hst hah hio hx hz p hat huq hw h0 hd (fun w => .pointer (some ⟨w.heap.size, 0, none⟩)) (fun w => w.alloc (.cells z ty)) hr fun w hb => ⟨⟨w.heap.size, rfl, hb.size, Blk.new w ty z⟩, (Below.refl _ w).alloc (Nat.le_refl _) _⟩
theorem goesK_put {ty : TypeId} {x y : Operand} {d : Tmp} {j : Nat} {z cs : Array Value} (hi : i = ix) (hxz : ix = iz) (hio : ops[i]? = some o) (hall : ∀ f ∈ K, f.i ≠ i ∧ ∃ js, pathB md ops ix js = true ∧ f.i ∈ js) (p : Nat) (hat : K[p]? = some ⟨j, d, FNew w1 ty z⟩) (hw : ∀ g, Region.wanted o (yielded ops (aF g).tmps) = true) (hop : o.op = .store ty x y) (ho : o.dst = none) (hx : ∀ g, (aF g).eval x = g d) (hy : ∀ g, (aF g).eval y = .agg cs) (hs : cs.size = z.size) (hin : (P.info? ty).map (·.size) = some z.size) (h1 : cs.toList.all (·.oneCell') = true) :
    GoesM P md ops aF (SK md ops w1 K ix iz R0 (fun g _ w => Below w1.heap.size w1 w ∧ FNew w1 ty cs (g d) w)) i o := fun l g w hsz hf hrd hS => by
  subst hxz hi
  rw [if_pos (hw g)]
  obtain ⟨b1, h2⟩ := hS.pre hf
  have hsh := hS.shut.step hio hrd
  have hlt : i < l.size := by rw [hsz]; exact (Array.getElem?_eq_some_iff.1 hio).1
  have hfs : ∀ f ∈ K, f.F (g f.d) w := fun f hf' => h2 f hf' (by
    obtain ⟨hne, js, hp, hm⟩ := hall f hf'
    have := hsh.path i js (getD_self hlt) hp f.i hm
    rwa [getD_set_ne false (fun e => hne e.symm)] at this)
  obtain ⟨b, g1, g2, g3⟩ : FNew w1 ty z (g d) w := hfs _ (List.mem_of_getElem? hat)
  have hrun := g3.run_set (P := P) cs hs hin h1
  refine .inl ⟨undef, w.setCells b 0 cs.toList, .inr ⟨?_, rfl⟩, g, .inl rfl, (fun d' h' => by rw [ho] at h'; cases h'), hsh, ?_, ?_, fun _ => ⟨w, b1, hfs, b1.grown (grown_setCells b _ 0 w) b1.size (fun k e => by cases e; exact g2), b, g1, g2, g3.setAll hs⟩, fun h => h⟩
  · unfold execOp
    simp only [hop, hx, hy, g1, Sem.run_bind, hrun, Result.andThen_ok, Sem.run_pure]
  · rw [getD_self hlt]; intro h; cases h
  · rw [getD_self hlt]; intro _ h; cases h
end
end Go.Proofs.YtbjmfhcgkpjcfaaDoor
namespace Go.Proofs.YtbjmfhcgkpjcfaaDoor
open Go.RowKit Go.WideShapes Go.ChangeShapes Go.ChangeAt Go.ChangeMaps Go.Deep

section
variable {H : Type} {enc : TypeId × Value → H}
theorem okWide_sk {P : Program} {t : TypeId} {fs : Array Field} {W : World} {r : Reach} {b0 : Nat} {v : Value} (ht : P.underlying t = some (.struct fs)) (h : Value.okWide P W r b0 t v) : ∃ cs, v = .agg cs ∧ cs.size = P.cellsOf t := by
  simp only [Value.okWide, ht] at h
  obtain ⟨cs, h1, h2, _⟩ := h
  exact ⟨cs, h1, h2⟩
theorem in_of_wf {z : Int} (h : (Lit.int .i64 z).wf = true) : in10 z := by
  have := bounds_i64 h
  exact ⟨this.1, this.2⟩
set_option maxRecDepth 100000 in
theorem open_ky {r : Reach} {b0 : Nat} {W : World} {v : Value} {d : DataW H} {ps : List MemPlace} (hval : Value.okWide Tryd.prog W r b0 25 v) (h : DataW.Trod enc Tryd.prog W 0 (fun _ => true) true 25 v d ps) :
    ∃ k : Ky, v = kyV k ∧ okK k ∧ k.text.size ≤ maxLen ∧ ∃ y0 y1 y2 y3 y4, d = .agg [y0, y1, y2, y3, y4, .lit (.string k.text.data.toList)] := by
  obtain ⟨cs, rfl, _⟩ := okWide_sk Tryd.underlying25 hval
  obtain ⟨fuel, hf⟩ := h
  obtain ⟨xs, n, _, hx, hlen, hxl, hf⟩ := DataW.trod_struct Tryd.underlying25 hf
  rw [show Tryd.prog.cellsOf 25 = 6 by kernel_rfl] at hlen
  obtain ⟨l⟩ := cs
  simp only [Value.cells] at hlen hf
  match l, hlen with
  | [u0, u1, u2, u3, u4, u5], _ =>
    match xs, hxl with
    | [y0, y1, y2, y3, y4, y5], _ =>
      have ci : Tryd.prog.cellsOf 3 = 1 := by kernel_rfl
      have cs : Tryd.prog.cellsOf 9 = 1 := by kernel_rfl
      have g0 : DataW.trod enc Tryd.prog W 0 (fun _ => true) true n 3 (List.take (Tryd.prog.cellsOf 3) (List.drop 0 [u0, u1, u2, u3, u4, u5])) = some y0 := hf 0 _ rfl
      have g1 : DataW.trod enc Tryd.prog W 0 (fun _ => true) true n 3 (List.take (Tryd.prog.cellsOf 3) (List.drop 1 [u0, u1, u2, u3, u4, u5])) = some y1 := hf 1 _ rfl
      have g2 : DataW.trod enc Tryd.prog W 0 (fun _ => true) true n 3 (List.take (Tryd.prog.cellsOf 3) (List.drop 2 [u0, u1, u2, u3, u4, u5])) = some y2 := hf 2 _ rfl
      have g3 : DataW.trod enc Tryd.prog W 0 (fun _ => true) true n 3 (List.take (Tryd.prog.cellsOf 3) (List.drop 3 [u0, u1, u2, u3, u4, u5])) = some y3 := hf 3 _ rfl
      have g4 : DataW.trod enc Tryd.prog W 0 (fun _ => true) true n 3 (List.take (Tryd.prog.cellsOf 3) (List.drop 4 [u0, u1, u2, u3, u4, u5])) = some y4 := hf 4 _ rfl
      have g5 : DataW.trod enc Tryd.prog W 0 (fun _ => true) true n 9 (List.take (Tryd.prog.cellsOf 9) (List.drop 5 [u0, u1, u2, u3, u4, u5])) = some y5 := hf 5 _ rfl
      rw [ci] at g0 g1 g2 g3 g4
      rw [cs] at g5
      obtain ⟨z0, k0, _, w0⟩ := DataW.trod_int Tryd.underlying3 g0
      obtain ⟨z1, k1, _, w1⟩ := DataW.trod_int Tryd.underlying3 g1
      obtain ⟨z2, k2, _, w2⟩ := DataW.trod_int Tryd.underlying3 g2
      obtain ⟨z3, k3, _, w3⟩ := DataW.trod_int Tryd.underlying3 g3
      obtain ⟨z4, k4, _, w4⟩ := DataW.trod_int Tryd.underlying3 g4
      obtain ⟨s, k5, e5, w5⟩ := DataW.trod_string Tryd.underlying9 g5
      simp at k0 k1 k2 k3 k4 k5
      subst k0 k1 k2 k3 k4 k5
      refine ⟨⟨z0, z1, z2, z3, z4, s⟩, rfl, ⟨in_of_wf w0, in_of_wf w1, in_of_wf w2, in_of_wf w3, in_of_wf w4⟩, w5, y0.1, y1.1, y2.1, y3.1, y4.1, ?_⟩
      simp only [Prod.mk.injEq] at hx
      rw [hx.1, e5]
      rfl
end
end Go.Proofs.YtbjmfhcgkpjcfaaDoor
namespace Go.Proofs.YtbjmfhcgkpjcfaaDoor
open Go.RowKit

/-- The table, and all of it below a block. -/
def TabIn (n₁ : Nat) (w : World) : Prop := Lib.TabBelow Tryd.prog n₁ w "internal/strconv.uint64pow10" .u64 Lib.pow10Tab
theorem TabIn.tab {n₁ : Nat} {w : World} (h : TabIn n₁ w) : Tab w := h.here
theorem TabIn.below {n₁ : Nat} {w w' : World} (h : TabIn n₁ w) (hb : Below n₁ w w') : TabIn n₁ w' := h.on hb
theorem TabIn.grown {n₁ : Nat} {w w' : World} (h : TabIn n₁ w) (hg : w.grownBy w' (some n₁)) (hn : n₁ < w.heap.size) : TabIn n₁ w' := h.on (below_grown hg (Nat.le_refl _) hn)
theorem Rdr.lt {w : World} {g : Nat} {A : Option Addr} {c : Nat} {l r : List UInt8} {x0 x1 x2 x3 x4 x5 : Value} (h : Rdr w g A c l x0 x1 x2 x3 x4 x5 r) : g < w.heap.size := by
  obtain ⟨_, _, _, _, hb⟩ := h
  exact hb.lt
theorem Rdr.below {B : Nat} {w w' : World} {g : Nat} {A : Option Addr} {c : Nat} {l r : List UInt8} {x0 x1 x2 x3 x4 x5 : Value} (h : Rdr w g A c l x0 x1 x2 x3 x4 x5 r) (hb : Below B w w') (hB : g < B) : Rdr w' g A c l x0 x1 x2 x3 x4 x5 r := by
  obtain ⟨p, h1, h2, h3, h4⟩ := h
  exact ⟨p, h1, h2, h3.below (hb.mono (Nat.le_of_lt hB)), h4.below hb hB⟩
theorem Rdr.drewN {w : World} {g : Nat} {A : Option Addr} {c : Nat} {l r : List UInt8} {x0 x1 x2 x3 x4 x5 : Value} (h : Rdr w g A c l x0 x1 x2 x3 x4 x5 r) (n : Nat) : Rdr (w.drewN n) g A c l x0 x1 x2 x3 x4 x5 r := h

theorem skip_yes (g : Nat) (A : Option Addr) (c : Nat) (l t r : List UInt8) (x0 x1 x2 x3 x4 x5 : Value) (w : World) (hq : skipB t r = true) (hlc : l.length ≤ c) (hl : l.length ≤ 4294967296) (ht : t.length ≤ 4294967296) (h : Rdr w g A c l x0 x1 x2 x3 x4 x5 r) :
    Calls Tryd.prog 26 #[.pointer (some ⟨g, 0, none⟩), .string ⟨t.toArray⟩] w fun e w' => e = .returned (.bool true) ∧ Rdr w' g A c l x0 x1 x2 x3 x4 x5 (r.drop t.length) ∧ w.grownBy w' (some g) :=
  skip_any g A c l t r x0 x1 x2 x3 x4 x5 true w hq hlc hl ht h
theorem skip_no (g : Nat) (A : Option Addr) (c : Nat) (l t r : List UInt8) (x0 x1 x2 x3 x4 x5 : Value) (w : World) (hq : skipB t r = false) (hlc : l.length ≤ c) (hl : l.length ≤ 4294967296) (ht : t.length ≤ 4294967296) (h : Rdr w g A c l x0 x1 x2 x3 x4 x5 r) :
    Calls Tryd.prog 26 #[.pointer (some ⟨g, 0, none⟩), .string ⟨t.toArray⟩] w fun e w' => e = .returned (.bool false) ∧ Rdr w' g A c l x0 x1 x2 x3 x4 x5 r ∧ w.grownBy w' (some g) :=
  skip_any g A c l t r x0 x1 x2 x3 x4 x5 false w hq hlc hl ht h

set_option maxRecDepth 100000 in
set_option maxHeartbeats 4000000 in
theorem one_any (g : Nat) (A : Option Addr) (c a b : Nat) (l r : List UInt8) (x : UInt8) (x0 x1 x2 x3 x4 x5 : Value) (w : World) (hx : oneF a b r = x) (ha : 1 ≤ a) (hlc : l.length ≤ c) (hl : l.length ≤ 4294967296) (h : Rdr w g A c l x0 x1 x2 x3 x4 x5 r) :
    Calls Tryd.prog 46 #[.pointer (some ⟨g, 0, none⟩), .int .u8 a, .int .u8 b] w fun e w' => e = .returned (.int .u8 (x.toNat : Int)) ∧ Rdr w' g A c l x0 x1 x2 x3 x4 x5 (r.drop (runF a b 1 r).length) ∧ w.grownBy w' (some g) := by
  have hone := one_run a b r ha
  rw [hx] at hone
  by_cases h0 : x = 0
  · subst h0
    have HU := Lib.hid (show runF a b 1 r = [] from hone)
    clear hone hx
    go_enter Tryd.func46, Tryd.ntmps46
    go_wp2_with fail
    refine (run2_any g A c a b 1 l r [] x0 x1 x2 x3 x4 x5 _ HU.out hlc hl (by omega) h).mono ?_
    rintro e w1 ⟨rfl, h1, hg1⟩
    go_wp2_with fail
    go_ret
    rw [HU.out]
    exact ⟨rfl, h1, hg1⟩
  · have HU := Lib.hid (show runF a b 1 r = [x] by rw [hone]; exact if_neg h0)
    clear hone hx h0
    go_enter Tryd.func46, Tryd.ntmps46
    go_wp2_with fail
    refine (run2_any g A c a b 1 l r [x] x0 x1 x2 x3 x4 x5 _ HU.out hlc hl (by omega) h).mono ?_
    rintro e w1 ⟨rfl, h1, hg1⟩
    go_wp2_with fail
    go_ret
    rw [HU.out]
    exact ⟨rfl, h1, hg1⟩

set_option maxRecDepth 100000 in
set_option maxHeartbeats 4000000 in
theorem part2_any (g : Nat) (A : Option Addr) (c : Nat) (l r r' : List UInt8) (n : Int) (x0 x1 x2 x3 x4 x5 : Value) (w : World) (hn : partF r = (n, r')) (hlc : l.length ≤ c) (hl : l.length ≤ 4294967296) (ht : TabIn g w) (h : Rdr w g A c l x0 x1 x2 x3 x4 x5 r) :
    Calls Tryd.prog 79 #[.pointer (some ⟨g, 0, none⟩)] w fun e w' => e = .returned (.int .i64 n) ∧ Rdr w' g A c l x0 x1 x2 x3 x4 x5 r' ∧ w.grownBy w' (some g) := by
  have hh := h
  obtain ⟨at_, hat, hr, hrd, hblk⟩ := h
  have hlt := hblk.lt
  obtain ⟨A', hcut, hrd2⟩ := cut_run (P := Tryd.prog) (T := 28) (e := 5) (by kernel_rfl) Tryd.underlying28 Tryd.sizeOf5 A l.length c at_ hat hlc
  have hrd3 := hrd2 g w l rfl hrd
  rw [hr] at hrd3
  have c0 : w.cell? ⟨g, 0, none⟩ = some (.slice A l.length c) := hblk.cell 0
  have c1 : w.cell? ⟨g, 1, none⟩ = some (.int .i64 (at_ : Int)) := hblk.cell 1
  have HL := Lib.hid (show r.length = l.length - at_ by rw [← hr, List.length_drop])
  have n0 : (0 : Int) ≤ (at_ : Int) := by omega
  have n1 : (at_ : Int) ≤ (l.length : Int) := by omega
  have hrl : r.length ≤ 4294967296 := by have := HL.out; omega
  have HS : Hid (∀ W, Below w.heap.size w W → W.cell? ⟨g, 0, none⟩ = some (.slice A l.length c) ∧ W.cell? ⟨g, 1, none⟩ = some (.int .i64 (at_ : Int)) ∧ Below w.heap.size w W) := Lib.hid fun W hb => ⟨(hb.cell (p := ⟨g, 0, none⟩) hlt).trans c0, (hb.cell (p := ⟨g, 1, none⟩) hlt).trans c1, hb⟩
  have HR3 : Hid (∀ W, Below w.heap.size w W → Rd W A' (bs r)) := Lib.hid fun W hb => ((hrd3.rd (Nat.le_of_lt hlt))).below hb
  obtain ⟨v, hv⟩ : ∃ v, satv r = v := ⟨_, rfl⟩
  have hvle := satv_le r
  rw [hv] at hvle
  have HV := Lib.hid hv
  have HN := Lib.hid hn
  obtain ⟨d, hd⟩ : ∃ d, digs r = d := ⟨_, rfl⟩
  have HD := Lib.hid hd
  clear hr hv hrd2 hrd3 hn hd
  go_enter Tryd.func79, Tryd.ntmps79
  go_wp2_with fail
  go_region_held (fun w' => w'.cell? ⟨g, 0, none⟩ = some (.slice A l.length c) ∧ w'.cell? ⟨g, 1, none⟩ = some (.int .i64 (at_ : Int)) ∧ Below w.heap.size w w') (first | exact HS.out _ (Below.refl _ _).drew | exact HS.out _ ((Below.refl _ _).drew.trans hb2)) (first | (go_at_call 86; refine (take_at A' _ r _ _ HL.out hrl (HR3.out _ (Below.refl _ _).drew)).mono ?_; rw [HV.out, HD.out]; rintro e w2 ⟨rfl, hb2⟩))
  have hb2w : Below w.heap.size w w2 := (Below.refl _ _).drew.trans hb2
  have h2 := hh.below hb2w hlt
  have ht2 := ht.below (hb2w.mono (Nat.le_of_lt hlt))
  have hg2 := grown_below (some g) hb2w
  clear hb2
  obtain ⟨T, hT⟩ : ∃ T, textL (v : Int) = T := ⟨_, rfl⟩
  have HT := Lib.hid hT
  have hTl := textL_length (v : Int) (by omega)
  rw [hT] at hTl
  clear hT HS HR3 hcut c0 c1 hrd hblk hh
  have key : skipB T r = true ∧ n = (v : Int) ∧ r' = r.drop T.length ∨ skipB T r = false ∧ n = -1 ∧ r' = r := by
    have := HN.out
    unfold partF at this
    rw [HV.out, HT.out] at this
    cases hs : skipB T r with
    | true => rw [hs, if_pos rfl] at this; injection this with e1 e2; exact .inl ⟨rfl, e1.symm, e2.symm⟩
    | false => rw [hs, if_neg (by simp)] at this; injection this with e1 e2; exact .inr ⟨rfl, e1.symm, e2.symm⟩
  clear HN
  rcases key with ⟨hs, rfl, rfl⟩ | ⟨hs, rfl, rfl⟩
  · have HSK := Lib.hid hs
    clear hs
    go_wp2_with fail
    refine (text_any (v : Int) _ (by omega) (by omega) ht2.tab).mono ?_
    rw [HT.out]
    rintro e w3 ⟨rfl, hb3⟩
    go_wp2_with fail
    refine (skip_any g A c l T r x0 x1 x2 x3 x4 x5 true _ HSK.out hlc hl (by omega) (h2.below hb3 h2.lt)).mono ?_
    rintro e w4 ⟨rfl, h4, hg4⟩
    go_wp2_with fail
    go_ret
    exact ⟨rfl, h4, grown_trans hg2 (grown_trans (grown_below _ hb3) hg4)⟩
  · have HSK := Lib.hid hs
    clear hs
    go_wp2_with fail
    refine (text_any (v : Int) _ (by omega) (by omega) ht2.tab).mono ?_
    rw [HT.out]
    rintro e w3 ⟨rfl, hb3⟩
    go_wp2_with fail
    refine (skip_any g A c l T r' x0 x1 x2 x3 x4 x5 false _ HSK.out hlc hl (by omega) (h2.below hb3 h2.lt)).mono ?_
    rintro e w4 ⟨rfl, h4, hg4⟩
    go_wp2_with fail
    go_ret
    exact ⟨rfl, h4, grown_trans hg2 (grown_trans (grown_below _ hb3) hg4)⟩
end Go.Proofs.YtbjmfhcgkpjcfaaDoor
