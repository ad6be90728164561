/-
  Stage 20, the landed caps, walked: strings.Cut, pairOf.
-/
import Derived.Test.YtkkjahhilcjpgaaDoorG26
namespace Go.Proofs.YtkkjahhilcjpgaaDoor
open Go.RowKit
theorem scut20_any (s : List UInt8) (hs : s.length ≤ 4294967296) (w : World) : Calls Tryd.prog 48 #[.string ⟨s.toArray⟩, .string ⟨#[61]⟩] w fun e w' => e = .returned (.tuple #[.string ⟨(cutE s).1.toArray⟩, .string ⟨(cutE s).2.1.toArray⟩, .bool (cutE s).2.2]) ∧ Below w.heap.size w w' := by
 obtain ⟨a, ha⟩ : ∃ a, (cutE s).1 = a := ⟨_, rfl⟩
 obtain ⟨b, hb⟩ : ∃ b, (cutE s).2.1 = b := ⟨_, rfl⟩
 obtain ⟨q, hq⟩ : ∃ q, (cutE s).2.2 = q := ⟨_, rfl⟩
 have H := Lib.hid (fun W => cut20_any s hs W)
 rw [ha, hb, hq] at H ⊢
 clear ha hb hq hs
 go_enter Tryd.func48, Tryd.ntmps48
 go_wp2_with fail
 refine (H.out _).mono ?_
 rintro e w2 ⟨rfl, hb2⟩
 go_wp2_with fail
 refine bodyPost_ret (v := .tuple #[.string ⟨a.toArray⟩, .string ⟨b.toArray⟩, .bool q]) (by simp [results, Tryd.results48, go_sem]) rfl ⟨rfl, hb2⟩
def unhexV (l : List UInt8) : List UInt8 := (unhexL l).getD []
theorem unhex20_any (l : List UInt8) (hl : l.length ≤ 4294967296) (w : World) : Calls Tryd.prog 39 #[.string ⟨l.toArray⟩] w fun e w' => ∃ A c, e = .returned (.tuple #[.slice A (unhexV l).length c, .bool (unhexL l).isSome]) ∧ Rd w' A (bs (unhexV l)) ∧ Below w.heap.size w w' := by
 refine (unhex_any ⟨l.toArray⟩ w hl).mono ?_
 rintro e w' ⟨hb, h⟩
 simp only at h
 unfold unhexV
 cases hu : unhexL l with
 | none =>
   rw [hu] at h
   exact ⟨none, 0, h, fun h => absurd h (by simp [bs]), hb⟩
 | some o =>
   rw [hu] at h
   obtain ⟨A, c, he, hr⟩ := h
   exact ⟨A, c, he, hr, hb⟩
theorem unhexV_len (l : List UInt8) : (unhexV l).length ≤ l.length := by
 unfold unhexV unhexL
 split
 ·simp only [Option.getD_some, pairs_length]
  omega
 ·simp
theorem cutE_len (s : List UInt8) : (cutE s).1.length ≤ s.length ∧ (cutE s).2.1.length ≤ s.length := by
 unfold cutE
 rcases idx_eq s with ⟨_, h⟩ | ⟨k, _, _, h⟩
 ·rw [h]; simp
 ·rw [h]
  simp only [List.length_take, List.length_drop]
  omega
theorem read_prog (p : List UInt8) : readP p = if pairC (unhexV (cutE p).1) (unhexV (cutE p).2.1) = p then some (unhexV (cutE p).1, unhexV (cutE p).2.1) else none := by
 obtain ⟨n, hn⟩ : ∃ n, unhexV (cutE p).1 = n := ⟨_, rfl⟩
 obtain ⟨v, hv⟩ : ∃ v, unhexV (cutE p).2.1 = v := ⟨_, rfl⟩
 rw [hn, hv]
 by_cases h : pairC n v = p
 ·rw [if_pos h, ← h]
  exact read_pair n v
 ·rw [if_neg h]
  unfold readP
  unfold cutE at hn hv
  cases he : eqC p with
  | none => rfl
  | some q =>
    obtain ⟨a, b⟩ := q
    rw [he] at hn hv
    simp only at hn hv ⊢
    unfold unhexV at hn hv
    cases ha : unhexL a with
    | none => rfl
    | some x =>
      cases hb : unhexL b with
      | none => rfl
      | some y =>
        rw [ha] at hn
        rw [hb] at hv
        obtain rfl : x = n := hn
        obtain rfl : y = v := hv
        simp only [if_neg h]
def readN (p : List UInt8) : List UInt8 := ((readP p).getD ([], [])).1
def readW (p : List UInt8) : List UInt8 := ((readP p).getD ([], [])).2
theorem conv20w {w : World} {A : Option Addr} {L : List UInt8} {n c : Nat} (hn : L.length = n) (h : Rd w A (bs L)) : (convert 33 9 (.slice A n c)).run Tryd.prog w = .ok (.string ⟨L.toArray⟩) w :=
 conv_str (P := Tryd.prog) Tryd.underlying33 Tryd.underlying5 hn h _ Tryd.underlying9
set_option maxRecDepth 100000 in
set_option maxHeartbeats 16000000 in
theorem ppair20_any (p : List UInt8) (hp : p.length ≤ 2000000000) (w : World) : Calls Tryd.prog 37 #[.string ⟨p.toArray⟩] w fun e w' => e = .returned (.tuple #[.agg #[.string ⟨(readN p).toArray⟩, .string ⟨(readW p).toArray⟩], .bool (readP p).isSome]) ∧ Below w.heap.size w w' := by
 have hr := read_prog p
 obtain ⟨c1, c2⟩ := cutE_len p
 obtain ⟨a, ha⟩ : ∃ a, (cutE p).1 = a := ⟨_, rfl⟩
 obtain ⟨b, hb⟩ : ∃ b, (cutE p).2.1 = b := ⟨_, rfl⟩
 obtain ⟨q, hq⟩ : ∃ q, (cutE p).2.2 = q := ⟨_, rfl⟩
 have HC := Lib.hid (fun W => scut20_any p (by omega) W)
 rw [ha, hb, hq] at HC
 rw [ha] at c1 hr
 rw [hb] at c2 hr
 have u1 := unhexV_len a
 have u2 := unhexV_len b
 have HA := Lib.hid (fun W => unhex20_any a (by omega) W)
 have HB := Lib.hid (fun W => unhex20_any b (by omega) W)
 obtain ⟨n, hn⟩ : ∃ n, unhexV a = n := ⟨_, rfl⟩
 obtain ⟨v, hv⟩ : ∃ v, unhexV b = v := ⟨_, rfl⟩
 obtain ⟨qa, hqa⟩ : ∃ q, (unhexL a).isSome = q := ⟨_, rfl⟩
 obtain ⟨qb, hqb⟩ : ∃ q, (unhexL b).isSome = q := ⟨_, rfl⟩
 rw [hn, hqa] at HA
 rw [hv, hqb] at HB
 rw [hn] at hr u1
 rw [hv] at hr u2
 obtain ⟨T, hT⟩ : ∃ T, pairC n v = T := ⟨_, rfl⟩
 have HF := Lib.hid (fun W => pfig20_any n v T (by omega) (by omega) hT W)
 rw [hT] at hr
 have HR := Lib.hid hr
 clear ha hb hq c1 c2 u1 u2 hn hv hqa hqb hT hr hp
 have z0 := Blk.new w 41 #[.string ⟨#[]⟩, .string ⟨#[]⟩]
 have hB0 := (Below.refl w.heap.size w).alloc (Nat.le_refl _) (.cells #[.string ⟨#[]⟩, .string ⟨#[]⟩] 41)
 go_enter Tryd.func37, Tryd.ntmps37
 go_wp2_with fail
 refine (HC.out _).mono ?_
 rintro e w1 ⟨rfl, hb1⟩
 have z1 := z0.below hb1 z0.lt
 have hB1 := hB0.trans (hb1.mono hB0.size)
 clear z0 hB0 hb1
 go_wp2_with fail
 refine (HA.out _).mono ?_
 rintro e w2 ⟨A2, d2, rfl, r2, hb2⟩
 have z2 := z1.below hb2 z1.lt
 have hB2 := hB1.trans (hb2.mono hB1.size)
 clear z1 hB1 hb2
 go_wp2_with fail
 refine (HB.out _).mono ?_
 rintro e w3 ⟨A3, d3, rfl, r3, hb3⟩
 have z3 := z2.below hb3 z2.lt
 have hB3 := hB2.trans (hb3.mono hB2.size)
 have s2 := conv20w (n := n.length) (c := d2) rfl (r2.below hb3)
 have s3 := conv20w (n := v.length) (c := d3) rfl r3
 have k4 := Blk.new w3 41 #[.string ⟨n.toArray⟩, .string ⟨v.toArray⟩]
 have z4 := z3.alloc (.cells #[.string ⟨n.toArray⟩, .string ⟨v.toArray⟩] 41)
 have hB4 := hB3.alloc hB3.size (.cells #[.string ⟨n.toArray⟩, .string ⟨v.toArray⟩] 41)
 clear z2 hB2 hb3 r2 r3 z3
 go_wp2_with fail
 refine (HF.out _).mono ?_
 rintro e w5 ⟨rfl, hb5⟩
 have z5 := z4.below hb5 z4.lt
 have k5 := k4.below hb5 k4.lt
 have hB5 := hB4.trans (hb5.mono hB4.size)
 clear z4 k4 hB4 hb5 s2 s3 hB3
 have y0 := z5.frozen 0
 have y1 := z5.frozen 1
 have x0 := z5.cell 0
 have x1 := z5.cell 1
 have e0 := k5.cell 0
 have e1 := k5.cell 1
 by_cases hTp : T = p
 ·have E : readP p = some (n, v) := by rw [HR.out, if_pos hTp]
  have E1 := Lib.hid (show readN p = n ∧ readW p = v ∧ (readP p).isSome = true by unfold readN readW; rw [E]; exact ⟨rfl, rfl, rfl⟩)
  have hB6 : Below w.heap.size w ((w5.setCell ⟨w.heap.size, 0, none⟩ (.string ⟨n.toArray⟩)).setCell ⟨w.heap.size, 1, none⟩ (.string ⟨v.toArray⟩)) := (hB5.setCell (p := ⟨w.heap.size, 0, none⟩) (Nat.le_refl _) _).setCell (p := ⟨w.heap.size, 1, none⟩) (Nat.le_refl _) _
  subst hTp
  clear HR E k5 z5
  go_wp2_with fail
  refine bodyPost_ret (v := .tuple #[.agg #[.string ⟨n.toArray⟩, .string ⟨v.toArray⟩], .bool true]) (by simp [results, Tryd.results37, go_sem, x0, x1]) rfl ⟨by rw [E1.out.1, E1.out.2.1, E1.out.2.2], hB6⟩
 ·have E : readP p = none := by rw [HR.out, if_neg hTp]
  have E1 := Lib.hid (show readN p = [] ∧ readW p = [] ∧ (readP p).isSome = false by unfold readN readW; rw [E]; exact ⟨rfl, rfl, rfl⟩)
  have hne : (T == p) = false := beq_false_of_ne hTp
  have hne2 : (T != p) = true := by simp [bne, hne]
  have hB6 : Below w.heap.size w ((w5.setCell ⟨w.heap.size, 0, none⟩ (.string ⟨#[]⟩)).setCell ⟨w.heap.size, 1, none⟩ (.string ⟨#[]⟩)) := (hB5.setCell (p := ⟨w.heap.size, 0, none⟩) (Nat.le_refl _) _).setCell (p := ⟨w.heap.size, 1, none⟩) (Nat.le_refl _) _
  clear HR E k5 z5 hTp
  go_wp2_with fail
  refine bodyPost_ret (v := .tuple #[.agg #[.string ⟨#[]⟩, .string ⟨#[]⟩], .bool false]) (by simp [results, Tryd.results37, go_sem, x0, x1]) rfl ⟨by rw [E1.out.1, E1.out.2.1, E1.out.2.2], hB6⟩
end Go.Proofs.YtkkjahhilcjpgaaDoor
