/-
  Layer 11: what a law needs of the program; and the example that each statement asks. Layer 11, walked: the document's ahead and shown. Layer 11, walked: the document's plain keys, and functional ones. What a round over a function keeps: all blocks of cells but some. (For all layers.) A drawn region that lays one new block and stores known cells into it, last; and whose calls answer what the run alone tells. From what a row lists to memory: the array of sizes.
-/
import Derived.Test.YtbjmfhcgkpjcfaaGreatDoorG03
import Derived.Test.YtbjmfhcgkpjcfaaGreatDoorG06
import Derived.Test.YtbjmfhcgkpjcfaaGreatDoorG07
import Derived.Test.YtbjmfhcgkpjcfaaGreatDoorG09
import Derived.Test.YtbjmfhcgkpjcfaaGreatDoorG12
import Derived.Test.YtbjmfhcgkpjcfaaGreatDoorG25
import Derived.Test.YtbjmfhcgkpjcfaaGreatDoorG26
import Derived.Test.YtbjmfhcgkpjcfaaGreatDoorG27
import Derived.Test.YtbjmfhcgkpjcfaaGreatDoorG29
import Derived.Test.YtbjmfhcgkpjcfaaGreatDoorG31
import Derived.RangeFuncNested
import Derived.RangeFuncBound
import Derived.RangeFuncCalls
import Derived.RangeFuncLeaves
import Derived.RangeFuncBox
import Derived.WalkKit
import Derived.OwnWalkIn
import Derived.TacticsInMore
import Derived.LoopNIn
import Derived.LoopIn
import Derived.Test.YtbjmfhcgkpjcfaaGreatDoorRows
import Derived.OpenShut
namespace Go.Proofs.YtbjmfhcgkpjcfaaGreatDoor
open Go.RowKit

structure LegC (Inv : World → Prop) : Prop where
  invB : ∀ {w w' : World}, Inv w → Below w.heap.size w w' → Inv w'
  key : ∀ (m : Mo) (k : Ky) (w : World), Inv w → okK k → k.text.size ≤ 4294967296 → Calls Tryz.prog 6 #[moV m, kyV k] w (Out (legL m k) w)
  look : ∀ (c : Int) (w : World), Inv w → in10 c → Calls Tryz.prog 9 #[.int .i64 c] w fun e w' => e = .returned (enV (lookE c)) ∧ Below w.heap.size w w'
variable {Inv : World → Prop}
/-- What a call that tells bytes leaves. -/
def KeyE (L : List UInt8) (n : Nat) (w : World) (e : Ending) (w' : World) : Prop := ∃ A c, e = .returned (.slice A n c) ∧ Rd w' A (bs L) ∧ Below w.heap.size w w'
theorem keyE {L : List UInt8} {n : Nat} (hn : L.length = n) {w w' : World} {e : Ending} (h : Out L w e w') : KeyE L n w e w' := by subst hn; exact h
theorem LegC.key_at (H : LegC Inv) (m : Mo) (k : Ky) {L : List UInt8} (hL : legL m k = L) (n : Nat) (hn : L.length = n) (hk : okK k) (hs : k.text.size ≤ 4294967296) (w : World) (hi : Inv w) :
    Calls Tryz.prog 6 #[moV m, kyV k] w (KeyE L n w) := by
  subst hL
  exact (H.key m k w hi hk hs).mono fun e w' h => keyE hn h
theorem LegC.look_at (H : LegC Inv) {c K F N C : Int} {B : Bool} (w : World) (hi : Inv w) (hc : in10 c) (h : lookE c = ⟨K, F, N, C, B⟩) : Calls Tryz.prog 9 #[.int .i64 c] w fun e w' => e = .returned (.agg #[.int .i64 K, .int .u8 F, .int .i64 N, .int .i64 C, .bool B]) ∧ Below w.heap.size w w' := by
  have := H.look c w hi hc
  rwa [h] at this
theorem in_lit11 {c : Int} (h : (decide (-9223372036854775808 ≤ c) && decide (c ≤ 9223372036854775807)) = true) : in10 c := by
  simpa [in10] using h
theorem ok_lit11 {code mods typ : Int} (h1 : in10 code) (h2 : in10 mods) (h3 : in10 typ) (text : ByteArray) : okK ⟨code, mods, typ, 0, 0, text⟩ := ⟨h1, h2, h3, in_lit11 (c := 0) (by decide), in_lit11 (c := 0) (by decide)⟩
theorem str_lit {w : World} {A : Option Addr} {L : List UInt8} {n c : Nat} (hn : L.length = n) (h : Rd w A (bs L)) : (convert 27 9 (.slice A n c)).run Tryz.prog w = .ok (.string ⟨L.toArray⟩) w :=
  conv_str (P := Tryz.prog) Tryz.underlying27 Tryz.underlying5 hn h _ Tryz.underlying9
set_option maxRecDepth 100000 in
set_option maxHeartbeats 8000000 in
theorem legAwake (H : LegC Inv) (w0 : World) (hv0 : Inv w0) : Calls Tryz.prog 5 #[] w0 fun e w' => e = .returned (.bool true) ∧ Below w0.heap.size w0 w' := by
  go_enter Tryz.func5, Tryz.ntmps5
  go_wp2_with fail
  refine (H.key_at mo0 ⟨99, 4, 1, 0, 0, ByteArray.empty⟩ (L := [3]) (by decide +kernel) 1 rfl (ok_lit11 (in_lit11 (by decide)) (in_lit11 (by decide)) (in_lit11 (by decide)) _) (by decide) _ hv0).mono ?_
  rintro e w1 ⟨A1, c1, rfl, hr1, hb1⟩
  have hv1 := H.invB hv0 hb1
  go_wp2_with fail
  refine (H.key_at { mo0 with cursor := true } ⟨57352, 0, 1, 0, 0, ByteArray.empty⟩ (L := [27, 79, 65]) (by decide +kernel) 3 rfl (ok_lit11 (in_lit11 (by decide)) (in_lit11 (by decide)) (in_lit11 (by decide)) _) (by decide) _ hv1).mono ?_
  rintro e w2 ⟨A2, c2, rfl, hr2, hb2⟩
  have hr1b := hr1.below hb2
  have hv2 := H.invB hv1 hb2
  have hB2 := hb1.trans (hb2.mono hb1.size)
  clear hr1 hb1 hb2 hv1
  go_wp2_with fail
  refine (H.key_at { mo0 with cursor := true } ⟨57352, 1, 1, 0, 0, ByteArray.empty⟩ (L := [27, 91, 49, 59, 50, 65]) (by decide +kernel) 6 rfl (ok_lit11 (in_lit11 (by decide)) (in_lit11 (by decide)) (in_lit11 (by decide)) _) (by decide) _ hv2).mono ?_
  rintro e w3 ⟨A3, c3, rfl, hr3, hb3⟩
  have s1 := str_lit (n := 1) (c := c1) rfl (hr1b.below hb3)
  have s2 := str_lit (n := 3) (c := c2) rfl (hr2.below hb3)
  have s3 := str_lit (n := 6) (c := c3) rfl hr3
  have hB3 := hB2.trans (hb3.mono hB2.size)
  clear hr1b hr2 hr3 hb3 hB2 hv2
  go_wp2_with fail
  go_ret
  exact ⟨rfl, hB3⟩
end Go.Proofs.YtbjmfhcgkpjcfaaGreatDoor
namespace Go.Proofs.YtbjmfhcgkpjcfaaGreatDoor
open Go.RowKit

theorem bs_esc (L : List UInt8) : bs (27 :: L) = [.int .u8 27] ++ bs L := rfl
set_option maxRecDepth 100000 in
set_option maxHeartbeats 4000000 in
theorem rahead_any (k : Ky) (hk : okK k) (L : List UInt8) (n : Nat) (hn : L.length = n) (hl : n ≤ 17179869184) (A : Option Addr) (c : Nat) (w : World) (hr : Rd w A (bs L)) :
    Calls Tryz.prog 18 #[kyV k, .slice A n c] w (Out (aheadG (hasN k.mods 2) L) w) := by
  have HN := Lib.hid hn
  have hB := ky_box w k
  have hhas := rhas10_any k.mods 2 (by decide) (by decide) hk.mods.2 (w.alloc (.cells (kyC k) 25))
  have k0 := Blk.new w 25 (kyC k)
  obtain ⟨p, hp⟩ : ∃ p, hasN k.mods 2 = p := ⟨_, rfl⟩
  rw [hp] at hhas
  rw [hp]
  clear hp hk hn
  rw [kyV]
  rw [kyC] at hB hhas k0
  obtain ⟨code, mods, typ, shift, base, text⟩ := k
  simp only at hB hhas k0 ⊢
  obtain ⟨i0, hi, hz0, hz1, hz2⟩ : ∃ i, Tryz.prog.info? 5 = some i ∧ i.zero = some (.int .u8 0) ∧ i.size = 1 ∧ i.bytes = 1 := ⟨_, rfl, rfl, rfl, rfl⟩
  have a1 := k0.cell 1
  go_enter Tryz.func18, Tryz.ntmps18
  go_wp2_with fail
  refine hhas.mono ?_
  clear hhas
  rintro e w1 ⟨rfl, hb1⟩
  have hB1 := hB.trans (hb1.mono hB.size)
  have hr1 := hr.below hB1
  clear k0 hB hb1 a1
  cases p with
  | false =>
    go_wp2_with fail
    go_ret
    exact out_same HN.out hr1 hB1
  | true =>
    have hB2 := hB1.alloc hB1.size (.cells #[.int .u8 27] 5)
    have hown := own_lit (w1.alloc (.cells #[.int .u8 27] 5)) w.heap.size 5 w1.heap.size (.int .u8 27) hB1.size (heap_alloc_new w1 _)
    have hr2 := hr1.alloc (.cells #[.int .u8 27] 5)
    have h63 : 1 + n ≤ maxLen := by simp only [maxLen]; omega
    have hlim : (1 + n) * 1 ≤ 140737488355328 := by omega
    have hbs := hB2.size
    clear hB1 hr1
    go_wp2_with (first | (at_builtin; refine list_app _ rfl (.tmp 11) (.tmp 12) 27 rfl w.heap.size 5 i0 _ 1 1 Tryz.underlying27 hi hz0 hz1 hz2 rfl Nat.one_pos _ _ _ rfl hown _ n c (bs L) rfl (by rw [bs_length, HN.out]; omega) hr2 (bs_one L) h63 hlim hbs ?_; intro v4 w4 hown4 hg4))
    go_ret
    have hb4 : Below w.heap.size w w4 := hB2.grown hg4 hbs (fun g hg => (hown.lt g hg).1)
    rw [← bs_esc] at hown4
    exact out_own hown4 hb4
set_option maxRecDepth 100000 in
set_option maxHeartbeats 4000000 in
theorem rshown11_any (k : Ky) (hk : okK k) (hs : k.text.size ≤ 4294967296) (w : World) :
    Calls Tryz.prog 19 #[kyV k] w (Out (shownG k.code k.shift (hasN k.mods 1) (hasN k.mods 4) k.text.data.toList) w) := by
  have hB := ky_box w k
  have hhas := rhas10_any k.mods 4 (by decide) (by decide) hk.mods.2 (w.alloc (.cells (kyC k) 25))
  have k0 := Blk.new w 25 (kyC k)
  have HSH : Hid (∀ W, Calls Tryz.prog 41 #[kyV k] W fun e w' => e = .returned (.int .i64 (shownC k.code k.shift (hasN k.mods 1))) ∧ Below W.heap.size W w') := Lib.hid fun W => by rw [← shownK_eq]; exact rshown_any k hk W
  obtain ⟨p, hp⟩ : ∃ p, hasN k.mods 4 = p := ⟨_, rfl⟩
  obtain ⟨C, hC⟩ : ∃ C, shownC k.code k.shift (hasN k.mods 1) = C := ⟨_, rfl⟩
  obtain ⟨R, hR⟩ : ∃ R, shownG k.code k.shift (hasN k.mods 1) p k.text.data.toList = R := ⟨_, rfl⟩
  have HG := Lib.hid (show R = if p = false ∧ k.text.data.toList ≠ [] then k.text.data.toList else if (p && (foldN C).2) = true then [byt (foldN C).1] else putL C by rw [← hR]; unfold shownG; rw [hC])
  rw [hp] at hhas
  rw [hp, hR]
  rw [hC] at HSH
  clear hp hk hC hR
  rw [kyV] at HSH ⊢
  rw [kyC] at hB hhas k0
  obtain ⟨code, mods, typ, shift, base, text⟩ := k
  simp only at hB hhas k0 HSH HG hs ⊢
  obtain ⟨a0, a1, a2, a3, a4, a5⟩ := Blk.cells6 k0
  go_enter Tryz.func19, Tryz.ntmps19
  go_wp2_with fail
  refine hhas.mono ?_
  clear hhas
  rintro e w1 ⟨rfl, hb1⟩
  have k1 := k0.below hb1 k0.lt
  have hB1 := hB.trans (hb1.mono hB.size)
  clear k0 hB hb1 a0 a1 a2 a3 a4 a5
  obtain ⟨a0, a1, a2, a3, a4, a5⟩ := Blk.cells6 k1
  have hm : text.size ≤ maxLen := by simp only [maxLen]; omega
  obtain ⟨⟨F, b⟩, hF⟩ : ∃ F, foldN C = F := ⟨_, rfl⟩
  have HF : Hid (∀ W, Calls Tryz.prog 42 #[.int .i64 C] W fun e w' => e = .returned (.tuple #[.int .i64 F, .bool b]) ∧ Below W.heap.size W w') := Lib.hid fun W => by
    have := rfold_any C W
    rwa [hF] at this
  have hrng := (fold_rng C).1
  rw [hF] at hrng
  simp only at hrng
  rw [hF] at HG
  simp only at HG
  clear hF
  cases p with
  | false =>
    by_cases hne : text.data.toList = []
    · obtain rfl : text = ⟨#[]⟩ := by apply ByteArray.ext; simpa using hne
      have HE := Lib.hid (HG.out.trans ((if_neg (fun h => h.2 rfl)).trans (if_neg (by simp))))
      clear HG
      go_wp2_with fail
      refine (HSH.out _).mono ?_
      rintro e w2 ⟨rfl, hb2⟩
      have hB2 := hB1.trans (hb2.mono hB1.size)
      clear hB1 hb2 k1 a0 a1 a2 a3 a4 a5
      go_wp2_with fail
      refine (HF.out _).mono ?_
      rintro e w3 ⟨rfl, hb3⟩
      have hB3 := hB2.trans (hb3.mono hB2.size)
      clear hB2 hb3
      go_wp2_with fail
      refine (rPut_any C _).mono ?_
      rintro e w4 ⟨A, c, rfl, hr4, hb4⟩
      go_wp2_with fail
      go_ret
      exact out_is HE.out ⟨A, c, rfl, hr4, hB3.trans (hb4.mono hB3.size)⟩
    · have tl : text.toList.isEmpty = false := text_full hne
      have HE := Lib.hid (HG.out.trans (if_pos ⟨rfl, hne⟩))
      clear HG hne
      have hs1 := hB1.size
      go_wp2_with (first | ((with_reducible refine list_conv _ rfl (.tmp 18) 9 27 rfl w.heap.size 5 text ?_ Tryz.underlying9 Tryz.underlying27 Tryz.underlying5 hm hs1 ?_); rfl; intro v2 w2 hown2 hg2))
      go_ret
      exact out_is HE.out (out_own hown2 (hB1.trans ((below_none hg2).mono hB1.size)))
  | true =>
    cases b with
    | true =>
      obtain ⟨f0, f1⟩ := hrng rfl
      have g1 : F < 256 := by omega
      have HE := Lib.hid (HG.out.trans ((if_neg (fun h => by cases h.1)).trans (if_pos rfl)))
      clear HG hrng
      go_wp2_with fail
      refine (HSH.out _).mono ?_
      rintro e w2 ⟨rfl, hb2⟩
      have hB2 := hB1.trans (hb2.mono hB1.size)
      clear hB1 hb2 k1 a0 a1 a2 a3 a4 a5
      go_wp2_with fail
      refine (HF.out _).mono ?_
      rintro e w3 ⟨rfl, hb3⟩
      have hB3 := hB2.trans (hb3.mono hB2.size)
      clear hB2 hb3
      have hw8 : IntKind.u8.wrap F = F := IntWalk.u8_in F ⟨f0, by omega⟩
      go_wp2_with fail
      go_ret
      exact out_is HE.out (out_one F f0 g1 hB3)
    | false =>
      have HE := Lib.hid (HG.out.trans ((if_neg (fun h => by cases h.1)).trans (if_neg (by simp))))
      clear HG hrng
      go_wp2_with fail
      refine (HSH.out _).mono ?_
      rintro e w2 ⟨rfl, hb2⟩
      have hB2 := hB1.trans (hb2.mono hB1.size)
      clear hB1 hb2 k1 a0 a1 a2 a3 a4 a5
      go_wp2_with fail
      refine (HF.out _).mono ?_
      rintro e w3 ⟨rfl, hb3⟩
      have hB3 := hB2.trans (hb3.mono hB2.size)
      clear hB2 hb3
      go_wp2_with fail
      refine (rPut_any C _).mono ?_
      rintro e w4 ⟨A, c, rfl, hr4, hb4⟩
      go_wp2_with fail
      go_ret
      exact out_is HE.out ⟨A, c, rfl, hr4, hB3.trans (hb4.mono hB3.size)⟩
end Go.Proofs.YtbjmfhcgkpjcfaaGreatDoor
namespace Go.Proofs.YtbjmfhcgkpjcfaaGreatDoor
open Go.RowKit

theorem Blk.drew {w : World} {g : Nat} {t : TypeId} {cs : Array Value} (h : Blk w g t cs) : Blk w.drew g t cs := h
theorem out_step {L : List UInt8} {w w1 w' : World} {e : Ending} (hb : Below w.heap.size w w1) (h : Out L w1 e w') : Out L w e w' := by
  obtain ⟨A, c, he, hr, hb'⟩ := h
  exact ⟨A, c, he, hr, hb.trans (hb'.mono hb.size)⟩
theorem out_two {w w1 : World} {t : TypeId} : Below w.heap.size w w1 → Out [13, 10] w (.returned (.slice (some ⟨w1.heap.size, 0, none⟩) 2 2)) (w1.alloc (.cells #[.int .u8 13, .int .u8 10] t)) := fun hb =>
  ⟨_, _, rfl, Rd.block (heap_alloc_new w1 _) rfl, hb.alloc hb.size _⟩
theorem out_one_at {w w1 : World} {t : TypeId} {g : Nat} (hg : w1.heap.size = g) (x : Int) (h0 : 0 ≤ x) (h1 : x < 256) (hb : Below w.heap.size w w1) : Out [byt x] w (.returned (.slice (some ⟨g, 0, none⟩) 1 1)) (w1.alloc (.cells #[.int .u8 x] t)) := by
  subst hg
  exact out_one x h0 h1 hb
theorem out_two_at {w w1 : World} {t : TypeId} {g : Nat} (hg : w1.heap.size = g) (hb : Below w.heap.size w w1) : Out [13, 10] w (.returned (.slice (some ⟨g, 0, none⟩) 2 2)) (w1.alloc (.cells #[.int .u8 13, .int .u8 10] t)) := by
  subst hg
  exact out_two hb
set_option maxRecDepth 100000 in
set_option maxHeartbeats 4000000 in
theorem rplain11_any (m : Mo) (k : Ky) (hk : okK k) (w : World) :
    Calls Tryz.prog 20 #[moV m, kyV k] w (Out (plainG m k.code (hasN k.mods 1) (hasN k.mods 4)) w) := by
  have hB0 : Below w.heap.size w ((w.alloc (.cells #[.bool m.cursor, .bool m.keypad, .bool m.back, .bool m.focus, .bool m.paste, .bool m.lock, .bool m.line, .int .i64 m.mouse, .int .i64 m.coding, .int .i64 m.other] 23)).alloc (.cells (kyC k) 25)) := ((Below.refl _ w).alloc (Nat.le_refl _) _).alloc (by simp) _
  have k2 := (Blk.new w 23 #[.bool m.cursor, .bool m.keypad, .bool m.back, .bool m.focus, .bool m.paste, .bool m.lock, .bool m.line, .int .i64 m.mouse, .int .i64 m.coding, .int .i64 m.other]).alloc (.cells (kyC k) 25)
  have k3 := Blk.new (w.alloc (.cells #[.bool m.cursor, .bool m.keypad, .bool m.back, .bool m.focus, .bool m.paste, .bool m.lock, .bool m.line, .int .i64 m.mouse, .int .i64 m.coding, .int .i64 m.other] 23)) 25 (kyC k)
  rw [World.size_alloc] at k3
  have H1 : Hid (∀ W, Calls Tryz.prog 40 #[.int .i64 k.mods, .int .i64 1] W fun e w' => e = .returned (.bool (hasN k.mods 1)) ∧ Below W.heap.size W w') := Lib.hid fun W => rhas10_any k.mods 1 (by decide) (by decide) hk.mods.2 W
  have H4 : Hid (∀ W, Calls Tryz.prog 40 #[.int .i64 k.mods, .int .i64 4] W fun e w' => e = .returned (.bool (hasN k.mods 4)) ∧ Below W.heap.size W w') := Lib.hid fun W => rhas10_any k.mods 4 (by decide) (by decide) hk.mods.2 W
  obtain ⟨p, hp⟩ : ∃ p, hasN k.mods 1 = p := ⟨_, rfl⟩
  obtain ⟨q, hq⟩ : ∃ p, hasN k.mods 4 = p := ⟨_, rfl⟩
  obtain ⟨R, hR⟩ : ∃ R, plainG m k.code p q = R := ⟨_, rfl⟩
  have HG := Lib.hid (show R = if k.code = 9 then (if p = true then seqB 1 90 [] else [9]) else if k.code = 13 then (if m.line = true then [13, 10] else [13]) else if k.code = 27 then [27] else if (m.back != q) = true then [8] else [127] by rw [← hR]; rfl)
  rw [hp] at H1
  rw [hq] at H4
  rw [hp, hq, hR]
  clear hp hq hR hk
  rw [kyV, moV]
  rw [kyC] at hB0 k2 k3
  obtain ⟨code, mods, typ, shift, base, text⟩ := k
  obtain ⟨m0, m1, m2, m3, m4, m5, m6, m7, m8, m9⟩ := m
  simp only at hB0 k2 k3 HG H1 H4 ⊢
  obtain ⟨a0, a1, a2, a3, a4, a5⟩ := Blk.cells6 k3
  obtain ⟨c0, c1, c2, c3, c4, c5, c6, c7, c8, c9⟩ := Blk.cells10 k2
  by_cases h9 : code = 9
  · subst h9
    have HG := HG.out.trans (if_pos rfl)
    cases p with
    | true =>
      have E := Lib.hid (HG.trans (if_pos rfl))
      clear HG
      go_enter Tryz.func20, Tryz.ntmps20
      go_wp2_with fail
      refine (H1.out _).mono ?_
      rintro e w1 ⟨rfl, hb1⟩
      have hB1 := hB0.trans (hb1.mono hB0.size)
      go_wp2_with fail
      refine (rseq11_any 1 90 (by decide) (by decide) none [] 0 0 rfl (by decide) _ (Rd.nil _ _)).mono ?_
      rintro e w2 ⟨A, c, rfl, hr2, hb2⟩
      go_wp2_with fail
      go_ret
      exact out_is E.out ⟨A, c, rfl, hr2, hB1.trans (hb2.mono hB1.size)⟩
    | false =>
      have E := Lib.hid (HG.trans (if_neg (by decide)))
      clear HG
      go_enter Tryz.func20, Tryz.ntmps20
      go_wp2_with fail
      refine (H1.out _).mono ?_
      rintro e w1 ⟨rfl, hb1⟩
      have hB1 := hB0.trans (hb1.mono hB0.size)
      go_wp2_with fail
      go_ret
      exact out_is E.out (out_one 9 (by decide) (by decide) hB1)
  · have t9 : (code == 9) = false := beq_false_of_ne h9
    have HA := Lib.hid (HG.out.trans (if_neg h9))
    clear h9 HG
    by_cases h13 : code = 13
    · subst h13
      have HB := Lib.hid (HA.out.trans (if_pos rfl))
      clear HA
      cases m6 with
      | true =>
        have E := Lib.hid (HB.out.trans (if_pos rfl))
        clear HB
        go_enter Tryz.func20, Tryz.ntmps20
        go_wp2_with fail
        go_ret
        exact out_is E.out (out_two_at (by simp) hB0)
      | false =>
        have E := Lib.hid (HB.out.trans (if_neg (by decide)))
        clear HB
        go_enter Tryz.func20, Tryz.ntmps20
        go_wp2_with fail
        go_ret
        exact out_is E.out (out_one_at (by simp) 13 (by decide) (by decide) hB0)
    · have t13 : (code == 13) = false := beq_false_of_ne h13
      have HB := Lib.hid (HA.out.trans (if_neg h13))
      clear h13 HA
      by_cases h27 : code = 27
      · subst h27
        have E := Lib.hid (HB.out.trans (if_pos rfl))
        clear HB
        go_enter Tryz.func20, Tryz.ntmps20
        go_wp2_with fail
        go_ret
        exact out_is E.out (out_one_at (by simp) 27 (by decide) (by decide) hB0)
      · have t27 : (code == 27) = false := beq_false_of_ne h27
        have HD := Lib.hid (HB.out.trans (if_neg h27))
        clear h27 HB
        cases m2 with
        | true =>
          cases q with
          | true =>
            have E := Lib.hid (HD.out.trans (if_neg (by decide)))
            clear HD
            go_enter Tryz.func20, Tryz.ntmps20
            go_wp2_with fail
            go_region_with (go_at_call 40; refine (H4.out _).mono ?_; rintro e w1 ⟨rfl, hb1⟩; have q2 := (k2.drew.below hb1 k2.lt).cell 2)
            all_goals
              have hB1 := hB0.drew.trans (hb1.mono hB0.size)
              go_wp2_with fail
              go_ret
              exact out_is E.out (out_one 127 (by decide) (by decide) hB1)
          | false =>
            have E := Lib.hid (HD.out.trans (if_pos rfl))
            clear HD
            go_enter Tryz.func20, Tryz.ntmps20
            go_wp2_with fail
            go_region_with (go_at_call 40; refine (H4.out _).mono ?_; rintro e w1 ⟨rfl, hb1⟩; have q2 := (k2.drew.below hb1 k2.lt).cell 2)
            all_goals
              have hB1 := hB0.drew.trans (hb1.mono hB0.size)
              go_wp2_with fail
              go_ret
              exact out_is E.out (out_one 8 (by decide) (by decide) hB1)
        | false =>
          cases q with
          | true =>
            have E := Lib.hid (HD.out.trans (if_pos rfl))
            clear HD
            go_enter Tryz.func20, Tryz.ntmps20
            go_wp2_with fail
            go_region_with (go_at_call 40; refine (H4.out _).mono ?_; rintro e w1 ⟨rfl, hb1⟩; have q2 := (k2.drew.below hb1 k2.lt).cell 2)
            all_goals
              have hB1 := hB0.drew.trans (hb1.mono hB0.size)
              go_wp2_with fail
              go_ret
              exact out_is E.out (out_one 8 (by decide) (by decide) hB1)
          | false =>
            have E := Lib.hid (HD.out.trans (if_neg (by decide)))
            clear HD
            go_enter Tryz.func20, Tryz.ntmps20
            go_wp2_with fail
            go_region_with (go_at_call 40; refine (H4.out _).mono ?_; rintro e w1 ⟨rfl, hb1⟩; have q2 := (k2.drew.below hb1 k2.lt).cell 2)
            all_goals
              have hB1 := hB0.drew.trans (hb1.mono hB0.size)
              go_wp2_with fail
              go_ret
              exact out_is E.out (out_one 127 (by decide) (by decide) hB1)
end Go.Proofs.YtbjmfhcgkpjcfaaGreatDoor
namespace Go.Proofs.YtbjmfhcgkpjcfaaGreatDoor
open Go.RowKit

/-- What a round that goes on keeps: all blocks of cells but those of X. -/
def KpX (X : Nat → Prop) (W W' : World) : Prop := W.heap.size ≤ W'.heap.size ∧ ∀ k o, W.heap[k]? = some o → o.isCells = true → ¬ X k → W'.heap[k]? = some o
section
variable {X : Nat → Prop} {W W' W'' : World} {A : Option Addr} {xs : List Value}
theorem KpX.refl (X : Nat → Prop) (W : World) : KpX X W W := ⟨Nat.le_refl _, fun _ _ h _ _ => h⟩
theorem KpX.trans (h : KpX X W W') (k : KpX X W' W'') : KpX X W W'' := ⟨Nat.le_trans h.1 k.1, fun i o hi ho hx => k.2 i o (h.2 i o hi ho hx) ho hx⟩
theorem KpX.put (X : Nat → Prop) (W : World) (l : Nat) (o o' : Obj) (h : W.heap[l]? = some o) (hc : o.isCells = false) : KpX X W (W.putObj l o') :=
  ⟨by simp, fun k u hk hu _ => by
    by_cases e : k = l
    · subst e
      rw [h] at hk
      cases hk
      rw [hc] at hu
      cases hu
    · exact (World.putObj_heap_other e).trans hk⟩
theorem KpX.of_below (h : Below W.heap.size W W') : KpX X W W' := ⟨h.size, fun k _ hk _ _ => (h.block k (Array.getElem?_eq_some_iff.1 hk).1).trans hk⟩
theorem KpX.set (h : KpX X W W') {a : Addr} (ha : X a.block) (v : Value) : KpX X W (W'.setCell a v) :=
  ⟨by simpa [World.setCell] using h.1, fun k o hk ho hx => (Below.heap_setCell W' a v k (fun e => hx (by rw [e]; exact ha))).trans (h.2 k o hk ho hx)⟩
theorem cells_is {w : World} {a : Addr} {v : Value} (h : w.cell? a = some v) : ∃ o : Obj, w.heap[a.block]? = some o ∧ o.isCells = true := cells_of_cell h
theorem RdOff.kpx (h : RdOff W X A xs) (hk : KpX X W W') : RdOff W' X A xs := fun hp => by
  obtain ⟨b, o, rfl, hb, hn, hc⟩ := h hp
  obtain ⟨ob, h1, h2⟩ := cells_is (hc 0 _ (List.getElem?_eq_getElem hp))
  refine ⟨b, o, rfl, Nat.lt_of_lt_of_le hb hk.1, hn, fun k u hu => (World.cell?_of_block (w := W) (a := ⟨b, o + k, none⟩) ?_).trans (hc k u hu)⟩
  exact (hk.2 b ob h1 h2 hn).trans h1.symm
theorem RdOff.below' (h : RdOff W X A xs) (hb : Below W.heap.size W W') : RdOff W' X A xs := h.fr (Fr.of_below hb X) (Wid.refl _ _)
theorem Blk.kpx {g : Nat} {t : TypeId} {cs : Array Value} (h : Blk W g t cs) (hk : KpX X W W') (hn : ¬ X g) : Blk W' g t cs := hk.2 g _ h rfl hn
end
theorem Rd.off {w : World} {X : Nat → Prop} {g o : Nat} {xs : List Value} (h : Rd w (some ⟨g, o, none⟩) xs) (hn : ¬ X g) : RdOff w X (some ⟨g, o, none⟩) xs := fun hp => by
  obtain ⟨b, o', hA, hb, hc⟩ := h hp
  simp only [Option.some.injEq, Addr.mk.injEq, and_true] at hA
  obtain ⟨rfl, rfl⟩ := hA
  exact ⟨g, o, rfl, hb, hn, hc⟩
theorem RdIn.kpx {n₁ : Nat} {w w' : World} {X : Nat → Prop} {A : Option Addr} {xs : List Value} (h : RdIn n₁ w A xs) (hk : KpX X w w') (hX : ∀ k, X k → n₁ ≤ k) : RdIn n₁ w' A xs := fun hp => by
  obtain ⟨b, o, rfl, hb, hc⟩ := h hp
  obtain ⟨ob, h1, h2⟩ := cells_is (hc 0 _ (List.getElem?_eq_getElem hp))
  refine ⟨b, o, rfl, hb, fun k u hu => (World.cell?_of_block (w := w) (a := ⟨b, o + k, none⟩) ?_).trans (hc k u hu)⟩
  exact (hk.2 b ob h1 h2 (fun hx => by have := hX b hx; omega)).trans h1.symm
theorem keeps_below {W W' : World} (h : Below W.heap.size W W') : KeepsOthers W W' := ⟨h.size, fun k _ hk _ => (h.block k (Array.getElem?_eq_some_iff.1 hk).1).trans hk⟩
theorem below_grownN {w w' : World} (h : Below w.heap.size w w') : w.grownBy w' none := ⟨h.os, h.tape, h.output, h.size, fun k hk _ => h.block k hk⟩
theorem blk_own {β : Type} (B : Nat) (t : TypeId) (f : β → Array Value) : Go.Own (fun s W => Blk W B t (f s)) := fun s X Y row hs hg hrow =>
  hs.grown hg (fun e' => by obtain ⟨o, ho, hc⟩ := hrow B e'; rw [show X.heap[B]? = _ from hs] at ho; cases ho; cases hc)
theorem ownFrom_no {β : Type} (B : Nat) : OwnFrom B (fun (_ : β) (_ : World) => False) := fun _ _ _ _ hs _ _ => hs
end Go.Proofs.YtbjmfhcgkpjcfaaGreatDoor
namespace Go.Proofs.YtbjmfhcgkpjcfaaGreatDoor
open Go.RowKit

section
variable {P : Program} {ops : Array Oper} {md : Region.Mode} {w1 : World} {K : List Fact} {ix iz : Nat} {R0 : (Tmp → Value) → World → World → Prop} {aF : (Tmp → Value) → Act} {i : Nat} {o : Oper}
/-- A new block, known whole. -/
def FNew (w1 : World) (ty : TypeId) (z : Array Value) (v : Value) (w : World) : Prop := ∃ b, v = .pointer (some ⟨b, 0, none⟩) ∧ w1.heap.size ≤ b ∧ Blk w b ty z
theorem fnew_ok (w1 : World) (i : Nat) (d : Tmp) (ty : TypeId) (z : Array Value) : (⟨i, d, FNew w1 ty z⟩ : Fact).ok := fun _ _ _ ⟨b, e, h1, h2⟩ hb => ⟨b, e, h1, h2.below hb h2.lt⟩
theorem goesK_new {d : Tmp} {ty : TypeId} {z : Array Value} (hst : ∀ f ∈ K, f.ok) (hah : Ahead md ops ix i) (hio : ops[i]? = some o) (hx : i ≠ ix) (hz : i ≠ iz) (p : Nat) (hat : K[p]? = some ⟨i, d, FNew w1 ty z⟩) (huq : ((List.range K.length).all fun q => q == p || ((K[q]?).map fun f => f.i != i && f.d != d).getD true) = true) (hw : ∀ g, Region.wanted o (yielded ops (aF g).tmps) = true) (h0 : o.dst = some d) (hd : ∀ g, (aF g).tmps[d]? = some (g d)) {R1 : (Tmp → Value) → World → World → Prop}
    (hr : ∀ g w, (execOp (aF g).eval o).run P w = .ok (.value (.pointer (some ⟨w.heap.size, 0, none⟩))) (w.alloc (.cells z ty))) : GoesM P md ops aF (SK md ops w1 K ix iz R0 R1) i o :=
  goesK_make hst hah hio hx hz p hat huq hw h0 hd (fun w => .pointer (some ⟨w.heap.size, 0, none⟩)) (fun w => w.alloc (.cells z ty)) hr fun w hb => ⟨⟨w.heap.size, rfl, hb.size, Blk.new w ty z⟩, (Below.refl _ w).alloc (Nat.le_refl _) _⟩
theorem goesK_put {ty : TypeId} {x y : Operand} {d : Tmp} {j : Nat} {z cs : Array Value} (hi : i = ix) (hxz : ix = iz) (hio : ops[i]? = some o) (hall : ∀ f ∈ K, f.i ≠ i ∧ ∃ js, pathB md ops ix js = true ∧ f.i ∈ js) (p : Nat) (hat : K[p]? = some ⟨j, d, FNew w1 ty z⟩) (hw : ∀ g, Region.wanted o (yielded ops (aF g).tmps) = true) (hop : o.op = .store ty x y) (ho : o.dst = none) (hx : ∀ g, (aF g).eval x = g d) (hy : ∀ g, (aF g).eval y = .agg cs) (hs : cs.size = z.size) (hin : (P.info? ty).map (·.size) = some z.size) (h1 : cs.toList.all (·.oneCell') = true) :
    GoesM P md ops aF (SK md ops w1 K ix iz R0 (fun g _ w => Below w1.heap.size w1 w ∧ FNew w1 ty cs (g d) w)) i o := fun l g w hsz hf hrd hS => by
  subst hxz hi
  rw [if_pos (hw g)]
  obtain ⟨b1, h2⟩ := hS.pre hf
  have hsh := hS.shut.step hio hrd
  have hlt : i < l.size := by rw [hsz]; exact (Array.getElem?_eq_some_iff.1 hio).1
  have hfs : ∀ f ∈ K, f.F (g f.d) w := fun f hf' => h2 f hf' (by
    obtain ⟨hne, js, hp, hm⟩ := hall f hf'
    have := hsh.path i js (getD_self hlt) hp f.i hm
    rwa [getD_set_ne false (fun e => hne e.symm)] at this)
  obtain ⟨b, g1, g2, g3⟩ : FNew w1 ty z (g d) w := hfs _ (List.mem_of_getElem? hat)
  have hrun := g3.run_set (P := P) cs hs hin h1
  refine .inl ⟨undef, w.setCells b 0 cs.toList, .inr ⟨?_, rfl⟩, g, .inl rfl, (fun d' h' => by rw [ho] at h'; cases h'), hsh, ?_, ?_, fun _ => ⟨w, b1, hfs, b1.grown (grown_setCells b _ 0 w) b1.size (fun k e => by cases e; exact g2), b, g1, g2, g3.setAll hs⟩, fun h => h⟩
  · unfold execOp
    simp only [hop, hx, hy, g1, Sem.run_bind, hrun, Result.andThen_ok, Sem.run_pure]
  · rw [getD_self hlt]; intro h; cases h
  · rw [getD_self hlt]; intro _ h; cases h
end
end Go.Proofs.YtbjmfhcgkpjcfaaGreatDoor
namespace Go.Proofs.YtbjmfhcgkpjcfaaGreatDoor
open Go.RowKit Go.WideShapes Go.ChangeShapes Go.ChangeAt Go.ChangeMaps

section
variable {H : Type} {enc : TypeId × Value → H} {P : Program}
/-- A struct of three integers that reads so. -/
theorem row_three {w : World} {base : Nat} {sp : Nat → Bool} {held : Bool} {fuel : Nat} {t e : TypeId} {f0 f1 f2 : Field} {cs : List Value} {a b c : Int} {p : List MemPlace}
    (ht : P.underlying t = some (.struct #[f0, f1, f2])) (e0 : f0.type = e) (e1 : f1.type = e) (e2 : f2.type = e) (o0 : f0.offset = 0) (o1 : f1.offset = 1) (o2 : f2.offset = 2) (he : P.underlying e = some (.int .i64)) (hce : P.cellsOf e = 1) (hct : P.cellsOf t = 3)
    (h : DataW.trod enc P w base sp held fuel t cs = some (.agg [.lit (.int .i64 a), .lit (.int .i64 b), .lit (.int .i64 c)], p)) : cs = [.int .i64 a, .int .i64 b, .int .i64 c] := by
  obtain ⟨xs, n, _, hx, hlen, hxl, hf⟩ := DataW.trod_struct ht h
  rw [hct] at hlen
  simp only [Prod.mk.injEq, DataW.agg.injEq] at hx
  match cs, hlen with
  | [u, v, y], _ =>
    match xs, hxl with
    | [x0, x1, x2], _ =>
      simp only [List.map_cons, List.map_nil, List.cons.injEq, and_true] at hx
      obtain ⟨⟨h0, h1, h2⟩, _⟩ := hx
      have g0 := hf 0 f0 rfl
      have g1 := hf 1 f1 rfl
      have g2 := hf 2 f2 rfl
      rw [e0, o0, hce] at g0
      rw [e1, o1, hce] at g1
      rw [e2, o2, hce] at g2
      obtain ⟨z0, k0, m0, _⟩ := DataW.trod_int he g0
      obtain ⟨z1, k1, m1, _⟩ := DataW.trod_int he g1
      obtain ⟨z2, k2, m2, _⟩ := DataW.trod_int he g2
      simp at k0 k1 k2
      subst k0 k1 k2
      rw [m0] at h0
      rw [m1] at h1
      rw [m2] at h2
      simp at h0 h1 h2
      rw [h0, h1, h2]
end

theorem siz_of {W : World} {rest : List (String × DataW Unit)} (h : laidMet Tryz.prog (("clavier/utf.sizes", Rows.laid_clavier_utf_sizes) :: rest) W) : Siz W := by
  obtain ⟨ps, ⟨g, t, cs, fuel, p, q, hg, ht, hvar, hd, _, _⟩, _⟩ := h
  obtain rfl := Option.some.inj ((show Tryz.prog.globalNamed "clavier/utf.sizes" = some 1 by kernel_rfl).symm.trans hg)
  obtain rfl := Option.some.inj ((show (Tryz.prog.globals[1]?).map (·.type) = some 105 by kernel_rfl).symm.trans ht)
  obtain ⟨xs, m, _, hx, hlen, hxl, hel⟩ := DataW.trod_array Tryz.underlying105 hd
  rw [show Tryz.prog.cellsOf 105 = 12 by kernel_rfl] at hlen
  rw [show Tryz.prog.cellsOf 94 = 3 by kernel_rfl] at hel
  have row : ∀ (cs3 : List Value) (a b c : Int) (x : DataW Unit × List MemPlace), x.1 = .agg [.lit (.int .i64 a), .lit (.int .i64 b), .lit (.int .i64 c)] → DataW.trod (fun _ => ()) Tryz.prog W 0 (fun _ => true) false m 94 cs3 = some x → cs3 = [.int .i64 a, .int .i64 b, .int .i64 c] := fun cs3 a b c x hx h3 => by
    obtain ⟨x1, x2⟩ := x
    subst hx
    exact row_three Tryz.underlying94 (e := 3) rfl rfl rfl rfl rfl rfl Tryz.underlying3 (by kernel_rfl) (by kernel_rfl) h3
  match xs, hxl with
  | [x0, x1, x2, x3], _ =>
    simp only [Prod.mk.injEq, Rows.laid_clavier_utf_sizes, DataW.agg.injEq, List.map_cons, List.map_nil, List.cons.injEq, and_true] at hx
    obtain ⟨⟨d0, d1, d2, d3⟩, _⟩ := hx
    have r0 := row _ _ _ _ x0 d0.symm (hel 0 (by omega))
    have r1 := row _ _ _ _ x1 d1.symm (hel 1 (by omega))
    have r2 := row _ _ _ _ x2 d2.symm (hel 2 (by omega))
    have r3 := row _ _ _ _ x3 d3.symm (hel 3 (by omega))
    have e : cs = sizC := by
      apply Array.ext'
      generalize cs.toList = l at *
      match l, hlen with
      | [a0, a1, a2, a3, a4, a5, a6, a7, a8, a9, b0, b1], _ =>
        simp at r0 r1 r2 r3
        obtain ⟨rfl, rfl, rfl⟩ := r0
        obtain ⟨rfl, rfl, rfl⟩ := r1
        obtain ⟨rfl, rfl, rfl⟩ := r2
        obtain ⟨rfl, rfl, rfl⟩ := r3
        rfl
    subst e
    simp only [World.var?, hg, Option.bind_some] at hvar
    split at hvar
    · rename_i c t' fr hb
      cases hvar
      exact ⟨t', fr, hb⟩
    · cases hvar
end Go.Proofs.YtbjmfhcgkpjcfaaGreatDoor
