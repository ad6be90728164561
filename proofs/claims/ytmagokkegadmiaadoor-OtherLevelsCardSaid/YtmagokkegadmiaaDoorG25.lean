/-
  Layer 12: what a law needs of the program; and the example that each statement asks. Layer 12, the laws' walks over the bundle: OtherLevels. Layer 9, the landed keys, walked: whether a code is a text's, and Look. Layer 9, the landed keys, walked: Look. Layer 10, the landed mods: May.
-/
import Derived.Test.YtmagokkegadmiaaDoorG13
import Derived.Test.YtmagokkegadmiaaDoorG14
import Derived.Test.YtmagokkegadmiaaDoorG18
import Derived.Test.YtmagokkegadmiaaDoorG22
import Derived.Test.YtmagokkegadmiaaDoorG23
import Derived.Test.YtmagokkegadmiaaDoorG24
import Derived.Lib.SlBytesConst
import Derived.WalkLawsBesides
import Derived.Deep.Cut
namespace Go.Proofs.YtmagokkegadmiaaDoor
open Go.RowKit

structure OthC (Inv : World → Prop) : Prop where
  invB : ∀ {w w' : World}, Inv w → Below w.heap.size w w' → Inv w'
  key : ∀ (m : Mo) (k : Ky) (w : World), Inv w → okK k → k.text.size ≤ 4294967296 → Calls Tryd.prog 5 #[moV m, kyV k] w (OutC (othL m.other k) (othL m.other k).length (isO m.other k) w)
  back : ∀ (A : Option Addr) (n c : Nat) (l : List UInt8) (w : World), Inv w → l.length = n → n ≤ c → n ≤ 4294967 → Rd w A (bs l) → Calls Tryd.prog 6 #[.slice A n c] w (BkE (backO l) w)
variable {Inv : World → Prop}
theorem OthC.key_at (H : OthC Inv) (m : Mo) (k : Ky) {o : Int} (ho : m.other = o) {L : List UInt8} (hL : othL o k = L) {n : Nat} (hn : L.length = n) {q : Bool} (hq : isO o k = q) (hk : okK k) (hs : k.text.size ≤ 4294967296) (w : World) (hi : Inv w) :
    Calls Tryd.prog 5 #[moV m, kyV k] w (OutC L n q w) := by
  subst ho hL hn hq
  exact H.key m k w hi hk hs
theorem OthC.back_at (H : OthC Inv) (A : Option Addr) (c : Nat) (l : List UInt8) {n : Nat} {x y : Int} {q : Bool} (hx : backO l = (x, y, q)) (w : World) (hi : Inv w) (hn : l.length = n) (hc : n ≤ c) (hl : n ≤ 4294967) (hr : Rd w A (bs l)) :
    Calls Tryd.prog 6 #[.slice A n c] w fun e w' => e = .returned (.tuple #[.int .i64 x, .int .i64 y, .bool q]) ∧ Below w.heap.size w w' := by
  have := H.back A n c l w hi hn hc hl hr
  rw [hx] at this
  exact this
theorem in_lit12 {c : Int} (h : (decide (-9223372036854775808 ≤ c) && decide (c ≤ 9223372036854775807)) = true) : in10 c := by
  simpa [in10] using h
theorem ok_lit12 {code mods typ : Int} (h1 : in10 code) (h2 : in10 mods) (h3 : in10 typ) (text : ByteArray) : okK ⟨code, mods, typ, 0, 0, text⟩ := ⟨h1, h2, h3, in_lit12 (c := 0) (by decide), in_lit12 (c := 0) (by decide)⟩
theorem ex_key : othL 2 ⟨105, 4, 1, 0, 0, ByteArray.empty⟩ = [27, 91, 50, 55, 59, 53, 59, 49, 48, 53, 126] ∧ isO 2 ⟨105, 4, 1, 0, 0, ByteArray.empty⟩ = true ∧ othL 1 ⟨105, 4, 1, 0, 0, ByteArray.empty⟩ = [] ∧ isO 1 ⟨105, 4, 1, 0, 0, ByteArray.empty⟩ = false := by decide +kernel
theorem ex_back : backO [27, 91, 50, 55, 59, 53, 59, 49, 48, 53, 126] = (105, 4, true) := by decide +kernel
set_option maxRecDepth 100000 in
set_option maxHeartbeats 8000000 in
theorem othAwake (H : OthC Inv) (w0 : World) (hv0 : Inv w0) : Calls Tryd.prog 4 #[] w0 fun e w' => e = .returned (.bool true) ∧ Below w0.heap.size w0 w' := by
  have kc := fun (w : World) (C : Array Value) (n c : Nat) => Lib.run_convert_bytes_const (P := Tryd.prog) w 27 5 C n c Tryd.underlying27 Tryd.underlying5
  go_enter Tryd.func4, Tryd.ntmps4
  go_wp2_with fail
  refine (H.key_at { mo0 with other := 2 } ⟨105, 4, 1, 0, 0, ByteArray.empty⟩ (o := 2) rfl ex_key.1 (n := 11) rfl ex_key.2.1 (ok_lit12 (in_lit12 (by decide)) (in_lit12 (by decide)) (in_lit12 (by decide)) _) (by decide) _ hv0).mono ?_
  rintro e w1 ⟨A1, c1, rfl, _, hr1, hb1⟩
  have hv1 := H.invB hv0 hb1
  go_wp2_with fail
  have hB2 := hb1.alloc hb1.size (.cells #[.int .u8 27, .int .u8 91, .int .u8 50, .int .u8 55, .int .u8 59, .int .u8 53, .int .u8 59, .int .u8 49, .int .u8 48, .int .u8 53, .int .u8 126] 5 (11, 12))
  have hr2 := hr1.alloc (.cells #[.int .u8 27, .int .u8 91, .int .u8 50, .int .u8 55, .int .u8 59, .int .u8 53, .int .u8 59, .int .u8 49, .int .u8 48, .int .u8 53, .int .u8 126] 5 (11, 12))
  refine (H.back_at _ 11 [27, 91, 50, 55, 59, 53, 59, 49, 48, 53, 126] ex_back _ (H.invB hv0 hB2) rfl (by decide) (by decide) (rd_lits12 w1 _ _ _ _ rfl)).mono ?_
  rintro e w2 ⟨rfl, hb2⟩
  have hB3 := hB2.trans (hb2.mono hB2.size)
  have hr3 := hr2.below hb2
  clear hb1 hr1 hb2 hr2 hB2 hv1
  go_wp2_with fail
  refine (H.key_at { mo0 with other := 1 } ⟨105, 4, 1, 0, 0, ByteArray.empty⟩ (o := 1) rfl ex_key.2.2.1 (n := 0) rfl ex_key.2.2.2 (ok_lit12 (in_lit12 (by decide)) (in_lit12 (by decide)) (in_lit12 (by decide)) _) (by decide) _ (H.invB hv0 hB3)).mono ?_
  rintro e w3 ⟨A3, c3, rfl, _, hr4, hb3⟩
  have s1 := str_bs (n := 11) (c := c1) rfl (hr3.below hb3)
  have hB4 := hB3.trans (hb3.mono hB3.size)
  clear hr3 hr4 hb3 hB3
  go_wp2_with fail
  go_ret
  exact ⟨rfl, hB4⟩
end Go.Proofs.YtmagokkegadmiaaDoor
namespace Go.Proofs.YtmagokkegadmiaaDoor
open Go.RowKit

variable {Inv : World → Prop}
set_option maxRecDepth 100000 in
set_option maxHeartbeats 16000000 in
theorem otherLevels_walk (H : OthC Inv) (m : Mo) (_ : okM m) (k : Ky) (hk : okK k) (hs : k.text.size ≤ maxLen) (w : World) (hv : Inv w) : Calls Tryd.prog 3 #[moV m, kyV k] w fun e w' => e = .returned (.bool true) ∧ Below w.heap.size w w' := by
  obtain ⟨L, hL⟩ : ∃ L, othL 1 k = L := ⟨_, rfl⟩
  obtain ⟨q, hq⟩ : ∃ q, isO 1 k = q := ⟨_, rfl⟩
  obtain ⟨n, hn⟩ : ∃ n, L.length = n := ⟨_, rfl⟩
  obtain ⟨L2, hL2⟩ : ∃ L, othL 2 k = L := ⟨_, rfl⟩
  obtain ⟨q2, hq2⟩ : ∃ q, isO 2 k = q := ⟨_, rfl⟩
  obtain ⟨n2, hn2⟩ : ∃ n, L2.length = n := ⟨_, rfl⟩
  have hlv := oth_levels k
  rw [hq, hq2, hL, hL2] at hlv
  have HLV := Lib.hid hlv.2
  have H1 : Hid (k.text.size ≤ 4294967296 → ∀ W, Inv W → Calls Tryd.prog 5 #[moV { m with other := 1 }, kyV k] W (OutC L n q W)) := Lib.hid fun h W hW => H.key_at { m with other := 1 } k rfl hL hn hq hk h W hW
  have H2 : Hid (k.text.size ≤ 4294967296 → ∀ W, Inv W → Calls Tryd.prog 5 #[moV { m with other := 2 }, kyV k] W (OutC L2 n2 q2 W)) := Lib.hid fun h W hW => H.key_at { m with other := 2 } k rfl hL2 hn2 hq2 hk h W hW
  have H3 : Hid (k.text.size ≤ 4294967296 → ∀ W, Inv W → Calls Tryd.prog 5 #[moV { m with other := 0 }, kyV k] W (OutC [] 0 false W)) := Lib.hid fun h W hW => H.key_at { m with other := 0 } k rfl (othL_no hlv.1) rfl hlv.1 hk h W hW
  have HN := Lib.hid hn
  have HN2 := Lib.hid hn2
  clear hL hn hq hk hL2 hn2 hq2 hlv
  simp only [moV, kyV] at H1 H2 H3 ⊢
  obtain ⟨code, mods, typ, shift, base, text⟩ := k
  obtain ⟨m0, m1, m2, m3, m4, m5, m6, m7, m8, m9⟩ := m
  simp only at H1 H2 H3 hs
  have HSZ := Lib.hid hs
  clear hs
  have hB : Below w.heap.size w ((w.alloc (.cells #[.bool m0, .bool m1, .bool m2, .bool m3, .bool m4, .bool m5, .bool m6, .int .i64 m7, .int .i64 m8, .int .i64 m9] 23)).alloc (.cells #[.int .i64 code, .int .i64 mods, .int .i64 typ, .int .i64 shift, .int .i64 base, .string text] 25)) := ((Below.refl _ w).alloc (Nat.le_refl _) _).alloc (by simp) _
  have a0 := (Blk.new w 23 #[.bool m0, .bool m1, .bool m2, .bool m3, .bool m4, .bool m5, .bool m6, .int .i64 m7, .int .i64 m8, .int .i64 m9]).alloc (.cells #[.int .i64 code, .int .i64 mods, .int .i64 typ, .int .i64 shift, .int .i64 base, .string text] 25)
  have b0 := Blk.new (w.alloc (.cells #[.bool m0, .bool m1, .bool m2, .bool m3, .bool m4, .bool m5, .bool m6, .int .i64 m7, .int .i64 m8, .int .i64 m9] 23)) 25 #[.int .i64 code, .int .i64 mods, .int .i64 typ, .int .i64 shift, .int .i64 base, .string text]
  rw [World.size_alloc] at b0
  have hv0 := H.invB hv hB
  go_enter Tryd.func3, Tryd.ntmps3
  go_wp2_with fail
  refine (othAwake H _ hv0).mono ?_
  rintro e w2 ⟨rfl, hb1⟩
  have mB0 := a0.below hb1 a0.lt
  have kB0 := b0.below hb1 b0.lt
  have hB0 := hB.trans (hb1.mono hB.size)
  clear hv0 a0 b0 hB hb1
  have c5 := kB0.cell 5
  have hsz : (text.size : Int) ≤ 9223372036854775807 := by
    have := HSZ.out
    simp only [maxLen] at this
    omega
  by_cases h : 100 < text.size
  · have t1 : decide (100 < (text.size : Int)) = true := decide_eq_true (by omega)
    clear h
    go_wp2_with fail
    go_ret
    exact ⟨rfl, hB0⟩
  have t1 : decide (100 < (text.size : Int)) = false := decide_eq_false (by omega)
  have K1 := Lib.hid (H1.out (by omega))
  have K2 := Lib.hid (H2.out (by omega))
  have K3 := Lib.hid (H3.out (by omega))
  clear h H1 H2 H3
  have z0_9 := mB0.frozen 9
  obtain ⟨c0, c1, c2, c3, c4, c5, c6, c7, c8, c9⟩ := Blk.cells10 mB0
  have mB1 : Blk (w2.setCell ⟨w.heap.size, 9, none⟩ (Value.int .i64 1)) (w.heap.size) 23 #[.bool m0, .bool m1, .bool m2, .bool m3, .bool m4, .bool m5, .bool m6, .int .i64 m7, .int .i64 m8, .int .i64 1] := mB0.set 9 (Value.int .i64 1)
  have kB1 := kB0.far (a := ⟨w.heap.size, 9, none⟩) (by show w.heap.size + 1 ≠ w.heap.size; omega) (Value.int .i64 1)
  have hB1 := hB0.setCell (p := ⟨w.heap.size, 9, none⟩) (by show _ ≤ w.heap.size; omega) (Value.int .i64 1)
  go_upto_region 5 with (fail)
  generalize hW1 : (w2.setCell ⟨w.heap.size, 9, none⟩ (Value.int .i64 1)) = W1 at *
  clear hW1
  clear c5 t1 hsz
  have hv1 := H.invB hv hB1
  obtain ⟨a0, a1, a2, a3, a4, a5⟩ := Blk.cells6 kB1
  obtain ⟨c0, c1, c2, c3, c4, c5, c6, c7, c8, c9⟩ := Blk.cells10 mB1
  go_wp2_with fail
  refine (K1.out _ hv1).mono ?_
  rintro e w3 ⟨Ahr, dhr, rfl, _, hr_, b2⟩
  have kB2 := kB1.below b2 kB1.lt
  have mB2 := mB1.below b2 mB1.lt
  have hB2 := hB1.trans (b2.mono hB1.size)
  have hr2 := hr_.off_key mB2 rfl
  clear hr_
  clear a0 a1 a2 a3 a4 a5 c0 c1 c2 c3 c4 c5 c6 c7 c8 c9 kB1 mB1 hv1
  have z2_9 := mB2.frozen 9
  obtain ⟨c0, c1, c2, c3, c4, c5, c6, c7, c8, c9⟩ := Blk.cells10 mB2
  have mB3 : Blk (w3.setCell ⟨w.heap.size, 9, none⟩ (Value.int .i64 2)) (w.heap.size) 23 #[.bool m0, .bool m1, .bool m2, .bool m3, .bool m4, .bool m5, .bool m6, .int .i64 m7, .int .i64 m8, .int .i64 2] := mB2.set 9 (Value.int .i64 2)
  have kB3 := kB2.far (a := ⟨w.heap.size, 9, none⟩) (by show w.heap.size + 1 ≠ w.heap.size; omega) (Value.int .i64 2)
  have hr3 := hr2.fr (Fr.setCell _ (w.heap.size) 9 (Value.int .i64 2) _ rfl) (Wid.refl _ _)
  have hB3 := hB2.setCell (p := ⟨w.heap.size, 9, none⟩) (by show _ ≤ w.heap.size; omega) (Value.int .i64 2)
  go_upto_region 7 with (fail)
  generalize hW3 : (w3.setCell ⟨w.heap.size, 9, none⟩ (Value.int .i64 2)) = W3 at *
  clear hW3
  have hv3 := H.invB hv hB3
  obtain ⟨a0, a1, a2, a3, a4, a5⟩ := Blk.cells6 kB3
  obtain ⟨c0, c1, c2, c3, c4, c5, c6, c7, c8, c9⟩ := Blk.cells10 mB3
  go_wp2_with fail
  refine (K2.out _ hv3).mono ?_
  rintro e w4 ⟨Ahs, dhs, rfl, _, hs_, b4⟩
  have kB4 := kB3.below b4 kB3.lt
  have mB4 := mB3.below b4 mB3.lt
  have hB4 := hB3.trans (b4.mono hB3.size)
  have hr4 := hr3.below' b4
  have hs4 := hs_.off_key mB4 rfl
  clear hs_
  clear a0 a1 a2 a3 a4 a5 c0 c1 c2 c3 c4 c5 c6 c7 c8 c9 kB3 mB3 hv3
  have z4_9 := mB4.frozen 9
  obtain ⟨c0, c1, c2, c3, c4, c5, c6, c7, c8, c9⟩ := Blk.cells10 mB4
  have mB5 : Blk (w4.setCell ⟨w.heap.size, 9, none⟩ (Value.int .i64 0)) (w.heap.size) 23 #[.bool m0, .bool m1, .bool m2, .bool m3, .bool m4, .bool m5, .bool m6, .int .i64 m7, .int .i64 m8, .int .i64 0] := mB4.set 9 (Value.int .i64 0)
  have kB5 := kB4.far (a := ⟨w.heap.size, 9, none⟩) (by show w.heap.size + 1 ≠ w.heap.size; omega) (Value.int .i64 0)
  have hr5 := hr4.fr (Fr.setCell _ (w.heap.size) 9 (Value.int .i64 0) _ rfl) (Wid.refl _ _)
  have hs5 := hs4.fr (Fr.setCell _ (w.heap.size) 9 (Value.int .i64 0) _ rfl) (Wid.refl _ _)
  have hB5 := hB4.setCell (p := ⟨w.heap.size, 9, none⟩) (by show _ ≤ w.heap.size; omega) (Value.int .i64 0)
  go_upto_region 9 with (fail)
  generalize hW5 : (w4.setCell ⟨w.heap.size, 9, none⟩ (Value.int .i64 0)) = W5 at *
  clear hW5
  have hv5 := H.invB hv hB5
  obtain ⟨a0, a1, a2, a3, a4, a5⟩ := Blk.cells6 kB5
  obtain ⟨c0, c1, c2, c3, c4, c5, c6, c7, c8, c9⟩ := Blk.cells10 mB5
  go_wp2_with fail
  refine (K3.out _ hv5).mono ?_
  rintro e w5 ⟨Ahu, dhu, rfl, _, hu_, b6⟩
  have kB6 := kB5.below b6 kB5.lt
  have mB6 := mB5.below b6 mB5.lt
  have hB6 := hB5.trans (b6.mono hB5.size)
  have hr6 := hr5.below' b6
  have hs6 := hs5.below' b6
  have hu6 := hu_.off_key mB6 rfl
  clear hu_
  clear a0 a1 a2 a3 a4 a5 c0 c1 c2 c3 c4 c5 c6 c7 c8 c9 kB5 mB5 hv5
  have s1 := str_bs (c := dhr) HN.out hr6.rd
  have s2 := str_bs (c := dhs) HN2.out hs6.rd
  cases q with
  | false =>
    go_wp2_with fail
    go_ret
    exact ⟨ret_b (by simp), hB6⟩
  | true =>
    obtain ⟨rfl, rfl⟩ := HLV.out rfl
    go_wp2_with fail
    go_ret
    exact ⟨ret_b (by simp), hB6⟩
end Go.Proofs.YtmagokkegadmiaaDoor
namespace Go.Proofs.YtmagokkegadmiaaDoor
open Go.RowKit

theorem isPtK_eq (c : Int) : isPtK c = isPt c := by
  cases h : isPt c with
  | true => exact decide_eq_true (by have := (isPt_iff c).1 h; omega)
  | false => exact decide_eq_false (by have := (isPt_no c).1 h; omega)
theorem put_len (c : Int) : decide (0 < ((putL c).length : Int)) = isPtK c := by
  rw [isPtK_eq]
  cases h : isPt c with
  | true =>
    have := (cnt_bd c).1
    rw [putL_length h]
    exact decide_eq_true (by omega)
  | false => rw [putL_no h]; rfl
theorem txK_no {c : Int} (h : c < 32 ∨ (127 ≤ c ∧ c ≤ 159) ∨ (57344 ≤ c ∧ c ≤ 63743)) : txK c = false := by
  unfold txK
  rcases h with h | h | h <;> simp [h]
theorem txK_is {c : Int} (h : ¬ (c < 32 ∨ (127 ≤ c ∧ c ≤ 159) ∨ (57344 ≤ c ∧ c ≤ 63743))) : txK c = isPtK c := by
  unfold txK
  rw [show decide (c < 32) = false from decide_eq_false (by omega), show (decide (127 ≤ c) && decide (c ≤ 159)) = false by simp; omega, show (decide (57344 ≤ c) && decide (c ≤ 63743)) = false by simp; omega]
  rfl
set_option maxRecDepth 100000 in
set_option maxHeartbeats 4000000 in
theorem isText_any (c : Int) (w : World) (hs : Siz w) : Calls Tryd.prog 36 #[.int .i64 c] w fun e w' => e = .returned (.bool (txK c)) ∧ Below w.heap.size w w' := by
  have HP := Lib.hid (Put_any c w hs)
  have HL := Lib.hid (put_len c)
  by_cases h1 : c < 32
  · have E := Lib.hid (txK_no (.inl h1))
    go_enter Tryd.func36, Tryd.ntmps36
    go_wp2_with fail
    go_ret
    exact ⟨ret_b E.out.symm, Below.refl _ _⟩
  by_cases h2 : c < 127
  · have E := Lib.hid (txK_is (c := c) (by omega))
    have j1 : 32 ≤ c := by omega
    clear h1
    go_enter Tryd.func36, Tryd.ntmps36
    go_wp2_with fail
    refine HP.out.mono ?_
    rintro e w1 ⟨A, cp, rfl, _, hb⟩
    have hl := HL.out
    go_wp2_with fail
    go_ret
    exact ⟨ret_b (by rw [E.out, ← hl]; simp [show ¬ c < 32 by omega]), hb⟩
  by_cases h3 : c ≤ 159
  · have E := Lib.hid (txK_no (c := c) (.inr (.inl ⟨by omega, h3⟩)))
    have j1 : 32 ≤ c := by omega
    have j2 : 127 ≤ c := by omega
    clear h1 h2
    go_enter Tryd.func36, Tryd.ntmps36
    go_wp2_with fail
    go_ret
    exact ⟨ret_b E.out.symm, Below.refl _ _⟩
  by_cases h4 : c < 57344
  · have E := Lib.hid (txK_is (c := c) (by omega))
    have j1 : 32 ≤ c := by omega
    have j2 : 127 ≤ c := by omega
    have j3 : 159 < c := by omega
    clear h1 h2 h3
    go_enter Tryd.func36, Tryd.ntmps36
    go_wp2_with fail
    refine HP.out.mono ?_
    rintro e w1 ⟨A, cp, rfl, _, hb⟩
    have hl := HL.out
    go_wp2_with fail
    go_ret
    exact ⟨ret_b (by rw [E.out, ← hl]; simp [show ¬ c < 32 by omega, show ¬ c ≤ 159 by omega]), hb⟩
  have j1 : 32 ≤ c := by omega
  have j2 : 127 ≤ c := by omega
  have j3 : 159 < c := by omega
  have j4 : 57344 ≤ c := by omega
  by_cases h5 : c ≤ 63743
  · have E := Lib.hid (txK_no (c := c) (.inr (.inr ⟨j4, h5⟩)))
    clear h1 h2 h3 h4
    go_enter Tryd.func36, Tryd.ntmps36
    go_wp2_with fail
    go_ret
    exact ⟨ret_b E.out.symm, Below.refl _ _⟩
  · have E := Lib.hid (txK_is (c := c) (by omega))
    have j5 : 63743 < c := by omega
    clear h1 h2 h3 h4 h5
    go_enter Tryd.func36, Tryd.ntmps36
    go_wp2_with fail
    refine HP.out.mono ?_
    rintro e w1 ⟨A, cp, rfl, _, hb⟩
    have hl := HL.out
    go_wp2_with fail
    go_ret
    exact ⟨ret_b (by rw [E.out, ← hl]; simp [show ¬ c < 32 by omega, show ¬ c ≤ 159 by omega, show ¬ c ≤ 63743 by omega]), hb⟩

/-- A row's entry, of a code of the row. -/
theorem entry_ro (r : Ro) (hr : r ∈ roL) (a : Nat) (c : Int) (hc : c = r.first + (a : Int)) (hc2 : c ≤ r.last) (A : Option Addr) (cp : Nat) (w : World) (hR : Rd w A (is_ r.nums)) :
    Calls Tryd.prog 35 #[.agg #[.int .i64 r.first, .int .i64 r.last, .int .i64 r.kind, .string ⟨r.finals.toArray⟩, .slice A r.nums.length cp, .string ⟨r.chars.toArray⟩, .bool r.keys], .int .i64 c] w fun e w' => e = .returned (enV (entK r a)) ∧ Below w.heap.size w w' := by
  obtain ⟨⟨b1, b2, b3⟩, b4, b5, b6⟩ := ro_bd r hr
  subst hc
  refine (entry_any r.first r.last r.kind ⟨r.finals.toArray⟩ r.nums r.nums.length rfl ⟨r.chars.toArray⟩ r.keys A cp a (by omega) b1 (by omega) b4 b5 b6 w hR).mono ?_
  rintro e w' ⟨rfl, hb⟩
  refine ⟨?_, hb⟩
  rw [sbK_eq, sbK_eq]
  rfl
end Go.Proofs.YtmagokkegadmiaaDoor
namespace Go.Proofs.YtmagokkegadmiaaDoor
open Go.RowKit

theorem find_take_no {k : Nat} {c : Int} (h : ∀ r ∈ roL.take k, inRo c r = false) {r : Ro} (hk : k < roL.length) (hr : roL[k] = r) (hi : inRo c r = true) : roL.find? (inRo c) = some r := by
  have e : roL = roL.take k ++ roL.drop k := (List.take_append_drop k roL).symm
  rw [List.drop_eq_getElem_cons hk, hr] at e
  rw [e, List.find?_append, List.find?_eq_none.2 (fun x hx => by rw [h x hx]; decide)]
  simp [hi]
theorem take_more {k : Nat} {c : Int} (h : ∀ r ∈ roL.take k, inRo c r = false) {r : Ro} (hk : k < roL.length) (hr : roL[k] = r) (hi : inRo c r = false) : ∀ r ∈ roL.take (k + 1), inRo c r = false := by
  rw [List.take_succ_eq_append_getElem hk, hr]
  intro x hx
  rcases List.mem_append.1 hx with hx | hx
  · exact h x hx
  · rw [List.mem_singleton.1 hx]; exact hi
theorem ro_mem {k : Nat} (hk : k < roL.length) {r : Ro} (hr : roL[k] = r) : r ∈ roL := hr ▸ List.getElem_mem hk
theorem find_all_no {c : Int} (h : ∀ r ∈ roL.take 22, inRo c r = false) : roL.find? (inRo c) = none := by
  rw [show roL.take 22 = roL from rfl] at h
  exact List.find?_eq_none.2 (fun x hx => by rw [h x hx]; decide)
theorem below_set5 {B : Nat} {a w : World} (h : Below B a w) {b : Nat} (hb : B ≤ b) (x y z u v : Value) : Below B a (((((w.setCell ⟨b, 0, none⟩ x).setCell ⟨b, 1, none⟩ y).setCell ⟨b, 2, none⟩ z).setCell ⟨b, 3, none⟩ u).setCell ⟨b, 4, none⟩ v) :=
  ((((h.setCell (p := ⟨b, 0, none⟩) hb x).setCell (p := ⟨b, 1, none⟩) hb y).setCell (p := ⟨b, 2, none⟩) hb z).setCell (p := ⟨b, 3, none⟩) hb u).setCell (p := ⟨b, 4, none⟩) hb v
set_option maxRecDepth 100000 in
set_option maxHeartbeats 4000000 in
theorem plook_any (c : Int) (w : World) (hs : Siz w) (hR : Rws w) : Calls Tryd.prog 18 #[.int .i64 c] w fun e w' => e = .returned (enV (lookE c)) ∧ Below w.heap.size w w' := by
  have HC := Lib.hid (lookP_eq c)
  obtain ⟨b, o, cp, t, fz, hg, hg0, hb0, hrd⟩ := hR
  have cg := cell_of_row w 0 0 _ t fz hg
  simp only [List.getElem?_toArray, List.getElem?_cons_zero] at cg
  have hG : ∀ x, (w.alloc x).cell? ⟨0, 0, none⟩ = some (.slice (some ⟨b, o, none⟩) 22 cp) := fun x => (((Below.refl _ w).alloc (Nat.le_refl _) x).cell (p := ⟨0, 0, none⟩) hg0).trans cg
  have p0 := Blk.new w 54 #[.int .i64 0, .int .u8 0, .int .i64 0, .int .i64 0, .bool false]
  have hB0 := (Below.refl w.heap.size w).alloc (Nat.le_refl _) (.cells #[.int .i64 0, .int .u8 0, .int .i64 0, .int .i64 0, .bool false] 54)
  go_enter Tryd.func18, Tryd.ntmps18
  go_wp2
  clear hG cg hg
  go_loopw [7] (fun i wr => ∃ k : Nat, k ≤ 22 ∧ i = .int .i64 k ∧ Hid (∀ r ∈ roL.take k, inRo c r = false) ∧ Blk wr w.heap.size 54 #[.int .i64 0, .int .u8 0, .int .i64 0, .int .i64 0, .bool false] ∧ Below w.heap.size w wr) (fun i _ => 22 - (intOf i).toNat)
  case atStart => exact ⟨0, by omega, rfl, Lib.hid (by simp), p0, hB0⟩
  case round =>
    obtain ⟨k, hk, rfl, HN, hp, hbw⟩ := hrel
    clear p0 hB0
    by_cases hlt : k < 22
    · obtain ⟨r, hr⟩ : ∃ r, roL[k]'hlt = r := ⟨_, rfl⟩
      obtain ⟨A, cp1, hns, a0, a1, a2, a3, a4, a5, a6⟩ := (hrd.below hbw hb0).at_ hlt hr
      have hb1 : b < wr.heap.size := Nat.lt_of_lt_of_le hb0 hbw.size
      have HNS : Hid (∀ x, Rd (wr.alloc x) A (is_ r.nums)) := Lib.hid fun x => (hns.rd hbw.size).alloc x
      have k1 : (k : Int) < 22 := by omega
      have k0 : (0 : Int) ≤ (k : Int) := by omega
      have hx := ro_mem hlt hr
      clear hns
      by_cases h1 : r.first ≤ c
      · by_cases h2 : c ≤ r.last
        · have HF := Lib.hid (find_take_no HN.out hlt hr ((inRo_iff c r).2 ⟨h1, h2⟩))
          have HE : Hid (enV (entK r (c - r.first).toNat) = enV (lookE c)) := Lib.hid (by rw [← HC.out]; unfold lookP; rw [HF.out])
          obtain ⟨⟨K, F, N, C, B⟩, hE⟩ : ∃ E, entK r (c - r.first).toNat = E := ⟨_, rfl⟩
          have HQ : Hid (∀ W, Rd W A (is_ r.nums) → Calls Tryd.prog 35 #[.agg #[.int .i64 r.first, .int .i64 r.last, .int .i64 r.kind, .string ⟨r.finals.toArray⟩, .slice A r.nums.length cp1, .string ⟨r.chars.toArray⟩, .bool r.keys], .int .i64 c] W fun e w' => e = .returned (.agg #[.int .i64 K, .int .u8 F, .int .i64 N, .int .i64 C, .bool B]) ∧ Below W.heap.size W w') := Lib.hid fun W hW => by
            have := entry_ro r hx (c - r.first).toNat c (by omega) h2 A cp1 W hW
            rwa [hE] at this
          rw [hE] at HE
          clear hE hr
          go_wp2_with fail
          refine (HQ.out _ (HNS.out _)).mono ?_
          rintro e w2 ⟨rfl, hb2⟩
          have hp2 := (hp.alloc (.cells #[.int .i64 r.first, .int .i64 r.last, .int .i64 r.kind, .string ⟨r.finals.toArray⟩, .slice A r.nums.length cp1, .string ⟨r.chars.toArray⟩, .bool r.keys] 81)).below hb2 (by simp; exact Nat.lt_succ_of_lt hp.lt)
          have hbe := (hbw.alloc hbw.size (.cells #[.int .i64 r.first, .int .i64 r.last, .int .i64 r.kind, .string ⟨r.finals.toArray⟩, .slice A r.nums.length cp1, .string ⟨r.chars.toArray⟩, .bool r.keys] 81)).trans (hb2.mono (by simp; exact Nat.le_succ_of_le hbw.size))
          have q0 := hp2.frozen 0
          have q1 := hp2.frozen 1
          have q2 := hp2.frozen 2
          have q3 := hp2.frozen 3
          have q4 := hp2.frozen 4
          have c0 := hp2.cell 0
          have c1 := hp2.cell 1
          have c2 := hp2.cell 2
          have c3 := hp2.cell 3
          have c4 := hp2.cell 4
          go_wp2_with fail
          exact bodyPost_ret (v := .agg #[.int .i64 K, .int .u8 F, .int .i64 N, .int .i64 C, .bool B]) (by simp [results, Tryd.results18, go_sem, c0, c1, c2, c3, c4]) rfl ⟨by rw [← HE.out]; rfl, below_set5 hbe (Nat.le_refl _) _ _ _ _ _⟩
        · have HN2 := Lib.hid (take_more HN.out hlt hr (inRo_no (c := c) (r := r) (fun h => h2 h.2)))
          clear hr
          go_wp2
          go_roundw
          case rel => exact ⟨k + 1, by omega, by go_num, HN2, hp.alloc _, hbw.alloc hbw.size _⟩
          case measure => simp [intOf]; omega
      · have HN2 := Lib.hid (take_more HN.out hlt hr (inRo_no (c := c) (r := r) (fun h => h1 h.1)))
        clear hr
        go_wp2
        go_roundw
        case rel => exact ⟨k + 1, by omega, by go_num, HN2, hp.alloc _, hbw.alloc hbw.size _⟩
        case measure => simp [intOf]; omega
    · obtain rfl : k = 22 := by omega
      have HF := Lib.hid (find_all_no HN.out)
      have hs2 := hs.below hbw (Nat.le_refl _)
      obtain ⟨T, hT⟩ : ∃ T, txK c = T := ⟨_, rfl⟩
      have HE : Hid ((if T then (⟨1, 0, 0, 0, false⟩ : En) else ⟨0, 0, 0, 0, false⟩) = lookE c) := Lib.hid (by rw [← HC.out, ← hT]; unfold lookP; rw [HF.out])
      have HQ := Lib.hid (isText_any c wr hs2)
      rw [hT] at HQ
      clear hT
      go_wp2_with fail
      refine HQ.out.mono ?_
      rintro e w2 ⟨rfl, hb2⟩
      have hp2 := hp.below hb2 hp.lt
      have hbe := hbw.trans (hb2.mono hbw.size)
      have q0 := hp2.frozen 0
      have q1 := hp2.frozen 1
      have q2 := hp2.frozen 2
      have q3 := hp2.frozen 3
      have q4 := hp2.frozen 4
      have c0 := hp2.cell 0
      have c1 := hp2.cell 1
      have c2 := hp2.cell 2
      have c3 := hp2.cell 3
      have c4 := hp2.cell 4
      cases T with
      | true =>
        go_wp2_with fail
        exact bodyPost_ret (v := .agg #[.int .i64 1, .int .u8 0, .int .i64 0, .int .i64 0, .bool false]) (by simp [results, Tryd.results18, go_sem, c0, c1, c2, c3, c4]) rfl ⟨by rw [← HE.out]; rfl, below_set5 hbe (Nat.le_refl _) _ _ _ _ _⟩
      | false =>
        go_wp2_with fail
        exact bodyPost_ret (v := .agg #[.int .i64 0, .int .u8 0, .int .i64 0, .int .i64 0, .bool false]) (by simp [results, Tryd.results18, go_sem, c0, c1, c2, c3, c4]) rfl ⟨by rw [← HE.out]; rfl, below_set5 hbe (Nat.le_refl _) _ _ _ _ _⟩
end Go.Proofs.YtmagokkegadmiaaDoor
namespace Go.Proofs.YtmagokkegadmiaaDoor
open Go.RowKit

def typeN (n : Int) : Bool := n == 1 || n == 2 || n == 3
theorem type_eq (n : Int) : typeN n = (!(decide (n < 1) || decide (3 < n))) := by
  unfold typeN
  rw [Bool.eq_iff_iff]
  simp only [Bool.or_eq_true, beq_iff_eq, Bool.not_eq_true', Bool.or_eq_false_iff, decide_eq_false_iff_not]
  omega
theorem are_eq (n : Int) : areN n = (!(decide (n < 0) || decide (255 < n))) := by
  unfold areN
  rw [Bool.eq_iff_iff]
  simp only [Bool.and_eq_true, decide_eq_true_eq, Bool.not_eq_true', Bool.or_eq_false_iff, decide_eq_false_iff_not]
  omega
set_option maxRecDepth 100000 in
theorem type_any (n : Int) (w : World) : Calls Tryd.prog 32 #[.int .i64 n] w fun e w' => e = .returned (.bool (typeN n)) ∧ Below w.heap.size w w' := by
  unfold typeN
  obtain ⟨a, ha⟩ : ∃ a, (n == 1) = a := ⟨_, rfl⟩
  obtain ⟨b, hb⟩ : ∃ a, (n == 2) = a := ⟨_, rfl⟩
  obtain ⟨c, hc⟩ : ∃ a, (n == 3) = a := ⟨_, rfl⟩
  rw [ha, hb, hc]
  go_enter Tryd.func32, Tryd.ntmps32
  cases a <;> cases b <;> cases c <;> (go_wp2_with fail; go_ret; exact ⟨rfl, Below.refl _ _⟩)
set_option maxRecDepth 100000 in
theorem tn_any (c : Int) (w : World) (hs : Siz w) (hR : Rws w) : Calls Tryd.prog 33 #[.int .i64 c] w fun e w' => e = .returned (.bool (c == 0 || textK c)) ∧ Below w.heap.size w w' := by
  obtain ⟨a, ha⟩ : ∃ a, (c == 0) = a := ⟨_, rfl⟩
  obtain ⟨ki, hki⟩ : ∃ q, (lookE c).kind = q := ⟨_, rfl⟩
  have hf : ∀ W : World, (Instr.field 54 (enV (lookE c)) 0).run Tryd.prog W = .ok (.int .i64 ki) W := fun W => by
    rw [← hki]
    exact (by kernel_rfl : (Instr.field 54 (enV (lookE c)) 0).run Tryd.prog W = .ok (.int .i64 (lookE c).kind) W)
  have hlook := plook_any c w hs hR
  have HT := Lib.hid (show textK c = (ki == 1) by unfold textK; rw [hki])
  obtain ⟨q, hq⟩ : ∃ q, (ki == 1) = q := ⟨_, rfl⟩
  rw [HT.out, ha, hq]
  obtain ⟨E, hE⟩ : ∃ E, enV (lookE c) = E := ⟨_, rfl⟩
  rw [hE] at hf hlook
  clear hE hki HT hs hR
  go_enter Tryd.func33, Tryd.ntmps33
  cases a with
  | true =>
    go_wp2_with fail
    go_ret
    exact ⟨rfl, Below.refl _ _⟩
  | false =>
    go_wp2_with fail
    refine hlook.mono ?_
    clear hlook
    rintro e w1 ⟨rfl, hb1⟩
    go_wp2_with fail
    go_ret
    exact ⟨rfl, hb1⟩
set_option maxRecDepth 100000 in
set_option maxHeartbeats 8000000 in
theorem pmods_may (k : Ky) (hs : k.text.size ≤ 4294967296) (w : World) (hz : Siz w) (hR : Rws w) : Calls Tryd.prog 17 #[kyV k] w fun e w' => e = .returned (.bool (mayK k)) ∧ Below w.heap.size w w' := by
  obtain ⟨code, mods, typ, shift, base, text⟩ := k
  simp only at hs
  have HLK : Hid (∀ W, Siz W → Rws W → Calls Tryd.prog 18 #[.int .i64 code] W fun e w' => e = .returned (enV (lookE code)) ∧ Below W.heap.size W w') := Lib.hid fun W a b => plook_any code W a b
  obtain ⟨ki, hki⟩ : ∃ q, (lookE code).kind = q := ⟨_, rfl⟩
  have hf : ∀ W : World, (Instr.field 54 (enV (lookE code)) 0).run Tryd.prog W = .ok (.int .i64 ki) W := fun W => by
    rw [← hki]
    exact (by kernel_rfl : (Instr.field 54 (enV (lookE code)) 0).run Tryd.prog W = .ok (.int .i64 (lookE code).kind) W)
  obtain ⟨n0, h0⟩ : ∃ a, (ki != 0) = a := ⟨_, rfl⟩
  obtain ⟨am, h1⟩ : ∃ a, areN mods = a := ⟨_, rfl⟩
  obtain ⟨ty, h2⟩ : ∃ a, typeN typ = a := ⟨_, rfl⟩
  obtain ⟨p, hp⟩ : ∃ a, (shift == 0 || textK shift) = a := ⟨_, rfl⟩
  obtain ⟨q, hq⟩ : ∃ a, (base == 0 || textK base) = a := ⟨_, rfl⟩
  obtain ⟨r, hr⟩ : ∃ a, cleanB text = a := ⟨_, rfl⟩
  have HM := Lib.hid (show mayK ⟨code, mods, typ, shift, base, text⟩ = (n0 && (am && (ty && (p && (q && r))))) by
    rw [← h0, ← hki, ← h1, ← h2, ← hp, ← hq, ← hr, are_eq, type_eq]
    show (!((lookE code).kind == 0 || decide (mods < 0) || decide (255 < mods) || decide (typ < 1) || decide (3 < typ)) && ((shift == 0 || textK shift) && (base == 0 || textK base) && cleanB text)) = _
    show _ = ((!((lookE code).kind == 0)) && _)
    generalize ((lookE code).kind == 0) = x1
    generalize decide (mods < 0) = x2
    generalize decide (255 < mods) = x3
    generalize decide (typ < 1) = x4
    generalize decide (3 < typ) = x5
    generalize (shift == 0 || textK shift) = x6
    generalize (base == 0 || textK base) = x7
    generalize cleanB text = x8
    revert x1 x2 x3 x4 x5 x6 x7 x8
    decide)
  have HA : Hid (∀ W, Calls Tryd.prog 27 #[.int .i64 mods] W fun e w' => e = .returned (.bool am) ∧ Below W.heap.size W w') := Lib.hid fun W => are_at h1 W
  have HT : Hid (∀ W, Calls Tryd.prog 32 #[.int .i64 typ] W fun e w' => e = .returned (.bool ty) ∧ Below W.heap.size W w') := Lib.hid fun W => by
    have := type_any typ W
    rwa [h2] at this
  have HP : Hid (∀ W, Siz W → Rws W → Calls Tryd.prog 33 #[.int .i64 shift] W fun e w' => e = .returned (.bool p) ∧ Below W.heap.size W w') := Lib.hid fun W a b => by
    have := tn_any shift W a b
    rwa [hp] at this
  have HQ : Hid (∀ W, Siz W → Rws W → Calls Tryd.prog 33 #[.int .i64 base] W fun e w' => e = .returned (.bool q) ∧ Below W.heap.size W w') := Lib.hid fun W a b => by
    have := tn_any base W a b
    rwa [hq] at this
  have HC : Hid (∀ W, Siz W → Calls Tryd.prog 34 #[.string text] W fun e w' => e = .returned (.bool r) ∧ Below W.heap.size W w') := Lib.hid fun W a => by
    have := pkeytext_any text hs W a
    rwa [hr] at this
  obtain ⟨E, hE⟩ : ∃ E, enV (lookE code) = E := ⟨_, rfl⟩
  rw [hE] at HLK hf
  rw [HM.out]
  clear hE hki hp hq hr hs HM h1 h2
  have hB := ky_box w ⟨code, mods, typ, shift, base, text⟩
  have k0 := Blk.new w 25 (kyC ⟨code, mods, typ, shift, base, text⟩)
  rw [kyV]
  rw [kyC] at hB k0
  simp only at hB k0 ⊢
  have hz0 := hz.below' hB
  have hR0 := hR.below hB
  have c0 := k0.cell 0
  go_enter Tryd.func17, Tryd.ntmps17
  go_wp2_with fail
  refine (HLK.out _ hz0 hR0).mono ?_
  rintro e w1 ⟨rfl, hb1⟩
  have k1 := k0.below hb1 k0.lt
  have hB1 := hB.trans (hb1.mono hB.size)
  clear HLK k0 hB hb1 c0 hz0 hR0
  have c1 := k1.cell 1
  cases n0 with
  | false =>
    go_wp2_with fail
    go_ret
    exact ⟨rfl, hB1⟩
  | true =>
  go_wp2_with fail
  refine (HA.out _).mono ?_
  rintro e w2 ⟨rfl, hb2⟩
  have k2 := k1.below hb2 k1.lt
  have hB2 := hB1.trans (hb2.mono hB1.size)
  clear HA k1 hB1 hb2 c1
  have c2 := k2.cell 2
  cases am with
  | false =>
    go_wp2_with fail
    go_ret
    exact ⟨rfl, hB2⟩
  | true =>
  go_wp2_with fail
  refine (HT.out _).mono ?_
  rintro e w3 ⟨rfl, hb3⟩
  have k3 := k2.below hb3 k2.lt
  have hB3 := hB2.trans (hb3.mono hB2.size)
  clear HT k2 hB2 hb3 c2
  have c3 := k3.cell 3
  cases ty with
  | false =>
    go_wp2_with fail
    go_ret
    exact ⟨rfl, hB3⟩
  | true =>
  go_wp2_with fail
  refine (HP.out _ (hz.below' hB3) (hR.below hB3)).mono ?_
  rintro e w4 ⟨rfl, hb4⟩
  have k4 := k3.below hb4 k3.lt
  have hB4 := hB3.trans (hb4.mono hB3.size)
  clear HP k3 hB3 hb4 c3
  have c4 := k4.cell 4
  cases p with
  | false =>
    go_wp2_with fail
    go_ret
    exact ⟨rfl, hB4⟩
  | true =>
  go_wp2_with fail
  refine (HQ.out _ (hz.below' hB4) (hR.below hB4)).mono ?_
  rintro e w5 ⟨rfl, hb5⟩
  have k5 := k4.below hb5 k4.lt
  have hB5 := hB4.trans (hb5.mono hB4.size)
  clear HQ k4 hB4 hb5 c4
  have c5 := k5.cell 5
  cases q with
  | false =>
    go_wp2_with fail
    go_ret
    exact ⟨rfl, hB5⟩
  | true =>
  go_wp2_with fail
  refine (HC.out _ (hz.below' hB5)).mono ?_
  rintro e w6 ⟨rfl, hb6⟩
  have hB6 := hB5.trans (hb6.mono hB5.size)
  clear HC k5 hB5 hb6 c5
  go_wp2_with fail
  go_ret
  exact ⟨rfl, hB6⟩
end Go.Proofs.YtmagokkegadmiaaDoor
