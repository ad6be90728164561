/-
  Layer 13, the laws' walks over the bundle: KittyText.
-/
import Derived.Test.YtdfojkbgdoiglaaDoorG09
import Derived.Test.YtdfojkbgdoiglaaDoorG15
import Derived.Test.YtdfojkbgdoiglaaDoorG19
import Derived.Test.YtdfojkbgdoiglaaDoorG27
import Derived.Test.YtdfojkbgdoiglaaDoorG34
import Derived.Test.YtdfojkbgdoiglaaDoorG35
import Derived.Deep.Cut
namespace Go.Proofs.YtdfojkbgdoiglaaDoor
open Go.RowKit
structure KitT (Inv : World → Prop) : Prop extends KitC Inv where
 look : ∀ (c : Int) (w : World), Inv w → in10 c → Calls Tryd.prog 11 #[.int .i64 c] w fun e w' => e = .returned (enV (lookE c)) ∧ Below w.heap.size w w'
variable {Inv : World → Prop}
theorem Rd.set_key {w : World} {A : Option Addr} {L : List UInt8} {g : Nat} {t : TypeId} {cs : Array Value} (h : Rd w A (bs L)) (hk : Blk w g t cs) (hc : cs.toList.all notU8 = true) (i : Nat) (v : Value) : Rd (w.setCell ⟨g, i, none⟩ v) A (bs L) :=
 ((h.off_key hk hc).fr (Fr.setCell w g i v _ rfl) (Wid.refl _ _)).rd
theorem kind_field13 (K F N C : Int) (B : Bool) (W : World) : (Instr.field 35 (.agg #[.int .i64 K, .int .u8 F, .int .i64 N, .int .i64 C, .bool B]) 0).run Tryd.prog W = .ok (.int .i64 K) W := by kernel_rfl
theorem text_full13 {s : ByteArray} (h : s.data.toList ≠ []) : s.toList.isEmpty = false := by
 rw [ByteArray.toList_eq]
 cases e : s.data.toList with
 | nil => exact absurd e h
 | cons => rfl
theorem str_list13 (s : ByteArray) : (⟨s.data.toList.toArray⟩ : ByteArray) = s := by cases s; simp
theorem mods_tmod {m : Int} (h0 : 0 ≤ m) : Int.tmod m 2 = m % 2 ∧ Int.tdiv m 64 = m / 64 := ⟨Int.tmod_eq_emod_of_nonneg h0, Int.tdiv_eq_ediv_of_nonneg h0⟩
set_option maxRecDepth 100000 in
set_option maxHeartbeats 16000000 in
theorem kittyText_no (H : KitT Inv) (flags : Int) (_l0 : 0 ≤ flags) (_l1 : flags ≤ 255) (k : Ky) (_hk : okK k) (hs : k.text.size ≤ 4294967296) (h : mayK k = false) (w : World) (hv : Inv w) : Calls Tryd.prog 4 #[.int .u8 flags, kyV k] w fun e w' => e = .returned (.bool true) ∧ Below w.heap.size w w' := by
 have HM : Hid (∀ W, Calls Tryd.prog 7 #[kyV k] W fun e w' => e = .returned (.bool false) ∧ Below W.heap.size W w') := Lib.hid fun W => by rw [← h]; exact rmay10_any k hs W
 clear h hs
 simp only [kyV] at HM ⊢
 obtain ⟨code, mods, typ, shift, base, text⟩ := k
 have hB : Below w.heap.size w (w.alloc (.cells #[.int .i64 code, .int .i64 mods, .int .i64 typ, .int .i64 shift, .int .i64 base, .string text] 23)) := (Below.refl _ w).alloc (Nat.le_refl _) _
 have k0 := Blk.new w 23 #[.int .i64 code, .int .i64 mods, .int .i64 typ, .int .i64 shift, .int .i64 base, .string text]
 have hv0 := H.invB hv hB
 simp only at HM
 go_enter Tryd.func4, Tryd.ntmps4
 go_wp2_with fail
 refine (kitAwake H.toKitC _ hv0).mono ?_
 rintro e w1 ⟨rfl, hb1⟩
 have hB1 := hB.trans (hb1.mono hB.size)
 replace k0 := k0.below hb1 k0.lt
 clear hv0 hB hb1
 obtain ⟨a0, a1, a2, a3, a4, a5⟩ := Blk.cells6 k0
 go_wp2_with fail
 refine (HM.out _).mono ?_
 rintro e w2 ⟨rfl, hb2⟩
 have hB2 := hB1.trans (hb2.mono hB1.size)
 clear a0 a1 a2 a3 a4 a5
 replace k0 := k0.below hb2 k0.lt
 clear hB1 hb2
 obtain ⟨a0, a1, a2, a3, a4, a5⟩ := Blk.cells6 k0
 go_wp2_with fail
 go_ret
 exact ⟨rfl, hB2⟩
set_option maxRecDepth 100000 in
set_option maxHeartbeats 16000000 in
theorem kittyText_kind (H : KitT Inv) (flags : Int) (_l0 : 0 ≤ flags) (_l1 : flags ≤ 255) (k : Ky) (hk : okK k) (hs : k.text.size ≤ 4294967296) (hm : mayK k = true) (hK : (lookE k.code).kind ≠ 1) (w : World) (hv : Inv w) : Calls Tryd.prog 4 #[.int .u8 flags, kyV k] w fun e w' => e = .returned (.bool true) ∧ Below w.heap.size w w' := by
 have HM : Hid (∀ W, Calls Tryd.prog 7 #[kyV k] W fun e w' => e = .returned (.bool true) ∧ Below W.heap.size W w') := Lib.hid fun W => by rw [← hm]; exact rmay10_any k hs W
 obtain ⟨⟨K, F0, N, C0, B⟩, hE⟩ : ∃ E, lookE k.code = E := ⟨_, rfl⟩
 have HL : Hid (∀ W, Inv W → Calls Tryd.prog 11 #[.int .i64 k.code] W fun e w' => e = .returned (.agg #[.int .i64 K, .int .u8 F0, .int .i64 N, .int .i64 C0, .bool B]) ∧ Below W.heap.size W w') := Lib.hid fun W hW => by have := H.look k.code W hW hk.code; rw [hE] at this; exact this
 have gk := kind_field13 K F0 N C0 B
 rw [hE] at hK
 clear hm hs hE hk
 simp only [kyV] at HM ⊢
 obtain ⟨code, mods, typ, shift, base, text⟩ := k
 have hB : Below w.heap.size w (w.alloc (.cells #[.int .i64 code, .int .i64 mods, .int .i64 typ, .int .i64 shift, .int .i64 base, .string text] 23)) := (Below.refl _ w).alloc (Nat.le_refl _) _
 have k0 := Blk.new w 23 #[.int .i64 code, .int .i64 mods, .int .i64 typ, .int .i64 shift, .int .i64 base, .string text]
 have hv0 := H.invB hv hB
 simp only at HM HL hK
 have u1 : (K == 1) = false := beq_false_of_ne hK
 have v1 : (K != 1) = true := by simp [bne, u1]
 clear hK
 go_enter Tryd.func4, Tryd.ntmps4
 go_wp2_with fail
 refine (kitAwake H.toKitC _ hv0).mono ?_
 rintro e w1 ⟨rfl, hb1⟩
 have hB1 := hB.trans (hb1.mono hB.size)
 replace k0 := k0.below hb1 k0.lt
 clear hv0 hB hb1
 obtain ⟨a0, a1, a2, a3, a4, a5⟩ := Blk.cells6 k0
 go_wp2_with fail
 refine (HM.out _).mono ?_
 rintro e w2 ⟨rfl, hb2⟩
 have hB2 := hB1.trans (hb2.mono hB1.size)
 clear a0 a1 a2 a3 a4 a5
 replace k0 := k0.below hb2 k0.lt
 clear hB1 hb2
 obtain ⟨a0, a1, a2, a3, a4, a5⟩ := Blk.cells6 k0
 go_wp2_with fail
 refine (HL.out _ (H.invB hv hB2)).mono ?_
 rintro e w3 ⟨rfl, hb3⟩
 have hB3 := hB2.trans (hb3.mono hB2.size)
 clear a0 a1 a2 a3 a4 a5
 replace k0 := k0.below hb3 k0.lt
 clear hB2 hb3
 go_wp2_with fail
 go_ret
 exact ⟨rfl, hB3⟩
set_option maxRecDepth 100000 in
set_option maxHeartbeats 16000000 in
theorem kittyText_empty (H : KitT Inv) (flags : Int) (l0 : 0 ≤ flags) (_l1 : flags ≤ 255) (k : Ky) (hk : okK k) (hs : k.text.size ≤ 4294967296) (hm : mayK k = true) (hK : (lookE k.code).kind = 1) (ht : k.text.data.toList = []) (w : World) (hv : Inv w) : Calls Tryd.prog 4 #[.int .u8 flags, kyV k] w fun e w' => e = .returned (.bool true) ∧ Below w.heap.size w w' := by
 have HM : Hid (∀ W, Calls Tryd.prog 7 #[kyV k] W fun e w' => e = .returned (.bool true) ∧ Below W.heap.size W w') := Lib.hid fun W => by rw [← hm]; exact rmay10_any k hs W
 obtain ⟨⟨K, F0, N, C0, B⟩, hE⟩ : ∃ E, lookE k.code = E := ⟨_, rfl⟩
 have HL : Hid (∀ W, Inv W → Calls Tryd.prog 11 #[.int .i64 k.code] W fun e w' => e = .returned (.agg #[.int .i64 K, .int .u8 F0, .int .i64 N, .int .i64 C0, .bool B]) ∧ Below W.heap.size W w') := Lib.hid fun W hW => by have := H.look k.code W hW hk.code; rw [hE] at this; exact this
 have gk := kind_field13 K F0 N C0 B
 obtain ⟨⟨_, y0, y1, _, _⟩, _⟩ := (may_parts k).1 hm
 obtain ⟨f, hf⟩ : ∃ f, flags % 8 = f := ⟨_, rfl⟩
 obtain ⟨⟨b, t, hbt, hb27⟩, htx, hPR, hRel, ⟨db, dl, hD⟩⟩ := kit_text hm hK (f := f) (by omega) (by omega)
 obtain ⟨M, hM⟩ : ∃ M, k.mods % 2 + k.mods / 64 * 64 = M := ⟨_, rfl⟩
 have hPr := hPR 1 (.inl rfl)
 have hRe := hPR 2 (.inr rfl)
 rw [hbt] at hPr hRe htx
 rw [hM] at hPr hRe hRel hD
 obtain ⟨n, hn⟩ : ∃ n, (b :: t).length = n := ⟨_, rfl⟩
 have n0 : 0 < n := by rw [← hn]; simp
 obtain ⟨nd, hnd⟩ : ∃ n, (27 :: 91 :: db :: dl : List UInt8).length = n := ⟨_, rfl⟩
 have nd2 : 2 < nd := by rw [← hnd]; simp
 have if_ : in10 f := ⟨by omega, by omega⟩
 have if8 : in10 (f + 8) := ⟨by omega, by omega⟩
 have iM : in10 M := ⟨by omega, by omega⟩
 have i1 : in10 1 := in_lit13 (by decide)
 have i2 : in10 2 := in_lit13 (by decide)
 have i3 : in10 3 := in_lit13 (by decide)
 have HA : Hid (∀ W, Inv W → Calls Tryd.prog 8 #[.int .i64 f, kyV { k with mods := M, typ := 1 }] W (OutN (b :: t) n W)) := Lib.hid fun W hW => H.key_at f { k with mods := M, typ := 1 } hPr hn if_ ⟨hk.code, iM, i1, hk.shift, hk.base⟩ hs W hW
 have HBb : Hid (∀ W, Inv W → Calls Tryd.prog 8 #[.int .i64 f, kyV { k with mods := M, typ := 2 }] W (OutN (b :: t) n W)) := Lib.hid fun W hW => H.key_at f { k with mods := M, typ := 2 } hRe hn if_ ⟨hk.code, iM, i2, hk.shift, hk.base⟩ hs W hW
 have HCc : Hid (∀ W, Inv W → Calls Tryd.prog 8 #[.int .i64 f, kyV { k with mods := M, typ := 3 }] W (OutN [] 0 W)) := Lib.hid fun W hW => H.key_at f { k with mods := M, typ := 3 } hRel rfl if_ ⟨hk.code, iM, i3, hk.shift, hk.base⟩ hs W hW
 have HDd : Hid (∀ W, Inv W → Calls Tryd.prog 8 #[.int .i64 (f + 8), kyV { k with mods := M, typ := 1 }] W (OutN (27 :: 91 :: db :: dl) nd W)) := Lib.hid fun W hW => H.key_at (f + 8) { k with mods := M, typ := 1 } hD hnd if8 ⟨hk.code, iM, i1, hk.shift, hk.base⟩ hs W hW
 have HN := Lib.hid hn
 have HND := Lib.hid hnd
 obtain ⟨L, hL⟩ : ∃ L, b :: t = L := ⟨_, rfl⟩
 have hL0 : ∀ w A, Rd w A (bs L) → ∃ p o, A = some ⟨p, o, none⟩ ∧ w.cell? ⟨p, o, none⟩ = some (.int .u8 (b.toNat : Int)) := fun w A h => by
  rw [← hL] at h
  obtain ⟨p, o, e, _, hc⟩ := h (by simp [bs])
  exact ⟨p, o, e, hc 0 _ rfl⟩
 obtain ⟨D, hDl⟩ : ∃ D, (27 :: 91 :: db :: dl : List UInt8) = D := ⟨_, rfl⟩
 have hD0 : ∀ w A, Rd w A (bs D) → ∃ p o, A = some ⟨p, o, none⟩ ∧ w.cell? ⟨p, o, none⟩ = some (.int .u8 27) := fun w A h => by
  rw [← hDl] at h
  obtain ⟨p, o, e, _, hc⟩ := h (by simp [bs])
  exact ⟨p, o, e, hc 0 _ rfl⟩
 obtain ⟨bi, hbi⟩ : ∃ x, (b.toNat : Int) = x := ⟨_, rfl⟩
 have b27 : (bi != 27) = true := by
  rw [bne, Bool.not_eq_true']
  refine beq_false_of_ne fun e => hb27 ?_
  rw [← hbi] at e
  exact UInt8.toNat_inj.1 (by show b.toNat = 27; omega)
 rw [hbi] at hL0
 rw [hL] at HA HBb HN
 rw [hDl] at HDd HND
 have hx : k.text = ⟨#[]⟩ := by apply ByteArray.ext; simpa using ht
 have le1 : L.isEmpty = false := by rw [← hL]; rfl
 have le2 : ¬ L = [] := by rw [← hL]; simp
 have HL0 := Lib.hid hL0
 have HD0 := Lib.hid hD0
 obtain ⟨q1, q2⟩ := mods_tmod y0
 have q9 : wrap64 (k.mods / 64) = k.mods / 64 := by unfold wrap64; omega
 have q3 : wrap64 (k.mods / 64 * 64) = k.mods / 64 * 64 := by unfold wrap64; omega
 have q4 : wrap64 (k.mods % 2 + k.mods / 64 * 64) = M := by unfold wrap64; omega
 have q5 : Int.tmod flags 8 = f := by rw [← hf]; exact Int.tmod_eq_emod_of_nonneg l0
 have q6 : IntKind.u8.wrap f = f := by rw [IntKind.wrap_u8]; omega
 have q7 : IntKind.i64.wrap f = f := by rw [IntKind.wrap_i64]; omega
 have q8 : IntKind.i64.wrap (f + 8) = f + 8 := by rw [IntKind.wrap_i64]; omega
 have n1 : (0 : Int) < (n : Int) := by omega
 have nd1 : (2 : Int) < (nd : Int) := by omega
 have nd0 : (0 : Int) < (nd : Int) := by omega
 rw [hE] at hK
 clear hm hk hs hE hM hPr hRe hPR hRel hD hbt hb27 htx hn hnd hf if_ if8 iM i1 i2 i3 hL hDl hL0 hD0 hbi n0 nd2 y0 y1 l0 ht
 simp only [kyV] at HM HA HBb HCc HDd ⊢
 obtain ⟨code, mods, typ, shift, base, text⟩ := k
 have hB : Below w.heap.size w (w.alloc (.cells #[.int .i64 code, .int .i64 mods, .int .i64 typ, .int .i64 shift, .int .i64 base, .string text] 23)) := (Below.refl _ w).alloc (Nat.le_refl _) _
 have k0 := Blk.new w 23 #[.int .i64 code, .int .i64 mods, .int .i64 typ, .int .i64 shift, .int .i64 base, .string text]
 have hv0 := H.invB hv hB
 simp only at HM HL HA HBb HCc HDd hK q1 q2 q3 q4 q9 hx
 subst hK
 subst hx
 go_enter Tryd.func4, Tryd.ntmps4
 go_wp2_with fail
 refine (kitAwake H.toKitC _ hv0).mono ?_
 rintro e w1 ⟨rfl, hb1⟩
 have hB1 := hB.trans (hb1.mono hB.size)
 replace k0 := k0.below hb1 k0.lt
 clear hv0 hB hb1
 obtain ⟨a0, a1, a2, a3, a4, a5⟩ := Blk.cells6 k0
 go_wp2_with fail
 refine (HM.out _).mono ?_
 rintro e w2 ⟨rfl, hb2⟩
 have hB2 := hB1.trans (hb2.mono hB1.size)
 clear a0 a1 a2 a3 a4 a5
 replace k0 := k0.below hb2 k0.lt
 clear hB1 hb2
 obtain ⟨a0, a1, a2, a3, a4, a5⟩ := Blk.cells6 k0
 go_wp2_with fail
 refine (HL.out _ (H.invB hv hB2)).mono ?_
 rintro e w3 ⟨rfl, hb3⟩
 have hB3 := hB2.trans (hb3.mono hB2.size)
 clear a0 a1 a2 a3 a4 a5
 replace k0 := k0.below hb3 k0.lt
 clear hB2 hb3
 have z1 := k0.frozen 1
 obtain ⟨a0, a1, a2, a3, a4, a5⟩ := Blk.cells6 k0
 have k0' : Blk (w3.setCell ⟨w.heap.size, 1, none⟩ (.int .i64 M)) w.heap.size 23 #[.int .i64 code, .int .i64 M, .int .i64 typ, .int .i64 shift, .int .i64 base, .string ⟨#[]⟩] := k0.set 1 _
 have hBs := hB3.setCell (p := ⟨w.heap.size, 1, none⟩) (by show w.heap.size ≤ w.heap.size; omega) (.int .i64 M)
 go_upto_region 5 with (fail)
 obtain ⟨X5, hX⟩ : ∃ X, w3.setCell ⟨w.heap.size, 1, none⟩ (.int .i64 M) = X := ⟨_, rfl⟩
 rw [hX] at k0' hBs ⊢
 clear hX k0 z1 a0 a1 a2 a3 a4 a5 hB3
 have k0 := k0'
 have hX5 := hBs
 clear k0' hBs
 have z2 := k0.frozen 2
 obtain ⟨a0, a1, a2, a3, a4, a5⟩ := Blk.cells6 k0
 have k0' : Blk (X5.setCell ⟨w.heap.size, 2, none⟩ (.int .i64 1)) w.heap.size 23 #[.int .i64 code, .int .i64 M, .int .i64 1, .int .i64 shift, .int .i64 base, .string ⟨#[]⟩] := k0.set 2 _
 have hBs := hX5.setCell (p := ⟨w.heap.size, 2, none⟩) (by show w.heap.size ≤ w.heap.size; omega) (.int .i64 1)
 go_upto_region 7 with (fail)
 obtain ⟨X7, hX⟩ : ∃ X, X5.setCell ⟨w.heap.size, 2, none⟩ (.int .i64 1) = X := ⟨_, rfl⟩
 rw [hX] at k0' hBs ⊢
 clear hX k0 z2 a0 a1 a2 a3 a4 a5 hX5
 have k0 := k0'
 have hX7 := hBs
 clear k0' hBs
 obtain ⟨a0, a1, a2, a3, a4, a5⟩ := Blk.cells6 k0
 go_wp2_with fail
 refine (HA.out _ (H.invB hv hX7)).mono ?_
 rintro e yA ⟨AA, cA, rfl, rA, hb⟩
 have hYA := hX7.trans (hb.mono hX7.size)
 replace k0 := k0.below hb k0.lt
 clear a0 a1 a2 a3 a4 a5 hX7 hb
 have z2 := k0.frozen 2
 obtain ⟨a0, a1, a2, a3, a4, a5⟩ := Blk.cells6 k0
 have k0' : Blk (yA.setCell ⟨w.heap.size, 2, none⟩ (.int .i64 2)) w.heap.size 23 #[.int .i64 code, .int .i64 M, .int .i64 2, .int .i64 shift, .int .i64 base, .string ⟨#[]⟩] := k0.set 2 _
 replace rA := rA.set_key k0 rfl 2 (.int .i64 2)
 have hBs := hYA.setCell (p := ⟨w.heap.size, 2, none⟩) (by show w.heap.size ≤ w.heap.size; omega) (.int .i64 2)
 go_upto_region 9 with (fail)
 obtain ⟨X9, hX⟩ : ∃ X, yA.setCell ⟨w.heap.size, 2, none⟩ (.int .i64 2) = X := ⟨_, rfl⟩
 rw [hX] at k0' hBs rA ⊢
 clear hX k0 z2 a0 a1 a2 a3 a4 a5 hYA
 have k0 := k0'
 have hX9 := hBs
 clear k0' hBs
 obtain ⟨a0, a1, a2, a3, a4, a5⟩ := Blk.cells6 k0
 go_wp2_with fail
 refine (HBb.out _ (H.invB hv hX9)).mono ?_
 rintro e yB ⟨AB, cB, rfl, rB, hb⟩
 have hYB := hX9.trans (hb.mono hX9.size)
 replace k0 := k0.below hb k0.lt
 replace rA := rA.below hb
 clear a0 a1 a2 a3 a4 a5 hX9 hb
 have z2 := k0.frozen 2
 obtain ⟨a0, a1, a2, a3, a4, a5⟩ := Blk.cells6 k0
 have k0' : Blk (yB.setCell ⟨w.heap.size, 2, none⟩ (.int .i64 3)) w.heap.size 23 #[.int .i64 code, .int .i64 M, .int .i64 3, .int .i64 shift, .int .i64 base, .string ⟨#[]⟩] := k0.set 2 _
 replace rA := rA.set_key k0 rfl 2 (.int .i64 3)
 replace rB := rB.set_key k0 rfl 2 (.int .i64 3)
 have hBs := hYB.setCell (p := ⟨w.heap.size, 2, none⟩) (by show w.heap.size ≤ w.heap.size; omega) (.int .i64 3)
 go_upto_region 11 with (fail)
 obtain ⟨X11, hX⟩ : ∃ X, yB.setCell ⟨w.heap.size, 2, none⟩ (.int .i64 3) = X := ⟨_, rfl⟩
 rw [hX] at k0' hBs rA rB ⊢
 clear hX k0 z2 a0 a1 a2 a3 a4 a5 hYB
 have k0 := k0'
 have hX11 := hBs
 clear k0' hBs
 obtain ⟨a0, a1, a2, a3, a4, a5⟩ := Blk.cells6 k0
 go_wp2_with fail
 refine (HCc.out _ (H.invB hv hX11)).mono ?_
 rintro e yC ⟨AC, cC, rfl, rC, hb⟩
 have hYC := hX11.trans (hb.mono hX11.size)
 replace k0 := k0.below hb k0.lt
 replace rA := rA.below hb
 replace rB := rB.below hb
 clear a0 a1 a2 a3 a4 a5 hX11 hb
 have z2 := k0.frozen 2
 obtain ⟨a0, a1, a2, a3, a4, a5⟩ := Blk.cells6 k0
 have k0' : Blk (yC.setCell ⟨w.heap.size, 2, none⟩ (.int .i64 1)) w.heap.size 23 #[.int .i64 code, .int .i64 M, .int .i64 1, .int .i64 shift, .int .i64 base, .string ⟨#[]⟩] := k0.set 2 _
 replace rA := rA.set_key k0 rfl 2 (.int .i64 1)
 replace rB := rB.set_key k0 rfl 2 (.int .i64 1)
 replace rC := rC.set_key k0 rfl 2 (.int .i64 1)
 have hBs := hYC.setCell (p := ⟨w.heap.size, 2, none⟩) (by show w.heap.size ≤ w.heap.size; omega) (.int .i64 1)
 go_upto_region 13 with (fail)
 obtain ⟨X13, hX⟩ : ∃ X, yC.setCell ⟨w.heap.size, 2, none⟩ (.int .i64 1) = X := ⟨_, rfl⟩
 rw [hX] at k0' hBs rA rB rC ⊢
 clear hX k0 z2 a0 a1 a2 a3 a4 a5 hYC
 have k0 := k0'
 have hX13 := hBs
 clear k0' hBs
 obtain ⟨a0, a1, a2, a3, a4, a5⟩ := Blk.cells6 k0
 go_wp2_with fail
 refine (HDd.out _ (H.invB hv hX13)).mono ?_
 rintro e yD ⟨AD, cD, rfl, rD, hb⟩
 have hYD := hX13.trans (hb.mono hX13.size)
 replace k0 := k0.below hb k0.lt
 replace rA := rA.below hb
 replace rB := rB.below hb
 replace rC := rC.below hb
 clear a0 a1 a2 a3 a4 a5 hX13 hb
 obtain ⟨a0, a1, a2, a3, a4, a5⟩ := Blk.cells6 k0
 have s1 := str_bs13 (n := n) (c := cA) HN.out rA
 have s2 := str_bs13 (n := n) (c := cB) HN.out rB
 obtain ⟨pa, oa, rfl, ca0⟩ := HL0.out _ _ rA
 obtain ⟨pd, od, rfl, cd0⟩ := HD0.out _ _ rD
 go_wp2_with fail
 all_goals (go_ret; exact ⟨rfl, hYD⟩)
set_option maxRecDepth 100000 in
set_option maxHeartbeats 16000000 in
theorem kittyText_full (H : KitT Inv) (flags : Int) (l0 : 0 ≤ flags) (_l1 : flags ≤ 255) (k : Ky) (hk : okK k) (hs : k.text.size ≤ 4294967296) (hm : mayK k = true) (hK : (lookE k.code).kind = 1) (ht : k.text.data.toList ≠ []) (w : World) (hv : Inv w) : Calls Tryd.prog 4 #[.int .u8 flags, kyV k] w fun e w' => e = .returned (.bool true) ∧ Below w.heap.size w w' := by
 have HM : Hid (∀ W, Calls Tryd.prog 7 #[kyV k] W fun e w' => e = .returned (.bool true) ∧ Below W.heap.size W w') := Lib.hid fun W => by rw [← hm]; exact rmay10_any k hs W
 obtain ⟨⟨K, F0, N, C0, B⟩, hE⟩ : ∃ E, lookE k.code = E := ⟨_, rfl⟩
 have HL : Hid (∀ W, Inv W → Calls Tryd.prog 11 #[.int .i64 k.code] W fun e w' => e = .returned (.agg #[.int .i64 K, .int .u8 F0, .int .i64 N, .int .i64 C0, .bool B]) ∧ Below W.heap.size W w') := Lib.hid fun W hW => by have := H.look k.code W hW hk.code; rw [hE] at this; exact this
 have gk := kind_field13 K F0 N C0 B
 obtain ⟨⟨_, y0, y1, _, _⟩, _⟩ := (may_parts k).1 hm
 obtain ⟨f, hf⟩ : ∃ f, flags % 8 = f := ⟨_, rfl⟩
 obtain ⟨⟨b, t, hbt, hb27⟩, htx, hPR, hRel, ⟨db, dl, hD⟩⟩ := kit_text hm hK (f := f) (by omega) (by omega)
 obtain ⟨M, hM⟩ : ∃ M, k.mods % 2 + k.mods / 64 * 64 = M := ⟨_, rfl⟩
 have hPr := hPR 1 (.inl rfl)
 have hRe := hPR 2 (.inr rfl)
 rw [hbt] at hPr hRe htx
 rw [hM] at hPr hRe hRel hD
 obtain ⟨n, hn⟩ : ∃ n, (b :: t).length = n := ⟨_, rfl⟩
 have n0 : 0 < n := by rw [← hn]; simp
 obtain ⟨nd, hnd⟩ : ∃ n, (27 :: 91 :: db :: dl : List UInt8).length = n := ⟨_, rfl⟩
 have nd2 : 2 < nd := by rw [← hnd]; simp
 have if_ : in10 f := ⟨by omega, by omega⟩
 have if8 : in10 (f + 8) := ⟨by omega, by omega⟩
 have iM : in10 M := ⟨by omega, by omega⟩
 have i1 : in10 1 := in_lit13 (by decide)
 have i2 : in10 2 := in_lit13 (by decide)
 have i3 : in10 3 := in_lit13 (by decide)
 have HA : Hid (∀ W, Inv W → Calls Tryd.prog 8 #[.int .i64 f, kyV { k with mods := M, typ := 1 }] W (OutN (b :: t) n W)) := Lib.hid fun W hW => H.key_at f { k with mods := M, typ := 1 } hPr hn if_ ⟨hk.code, iM, i1, hk.shift, hk.base⟩ hs W hW
 have HBb : Hid (∀ W, Inv W → Calls Tryd.prog 8 #[.int .i64 f, kyV { k with mods := M, typ := 2 }] W (OutN (b :: t) n W)) := Lib.hid fun W hW => H.key_at f { k with mods := M, typ := 2 } hRe hn if_ ⟨hk.code, iM, i2, hk.shift, hk.base⟩ hs W hW
 have HCc : Hid (∀ W, Inv W → Calls Tryd.prog 8 #[.int .i64 f, kyV { k with mods := M, typ := 3 }] W (OutN [] 0 W)) := Lib.hid fun W hW => H.key_at f { k with mods := M, typ := 3 } hRel rfl if_ ⟨hk.code, iM, i3, hk.shift, hk.base⟩ hs W hW
 have HDd : Hid (∀ W, Inv W → Calls Tryd.prog 8 #[.int .i64 (f + 8), kyV { k with mods := M, typ := 1 }] W (OutN (27 :: 91 :: db :: dl) nd W)) := Lib.hid fun W hW => H.key_at (f + 8) { k with mods := M, typ := 1 } hD hnd if8 ⟨hk.code, iM, i1, hk.shift, hk.base⟩ hs W hW
 have HN := Lib.hid hn
 have HND := Lib.hid hnd
 obtain ⟨L, hL⟩ : ∃ L, b :: t = L := ⟨_, rfl⟩
 have hL0 : ∀ w A, Rd w A (bs L) → ∃ p o, A = some ⟨p, o, none⟩ ∧ w.cell? ⟨p, o, none⟩ = some (.int .u8 (b.toNat : Int)) := fun w A h => by
  rw [← hL] at h
  obtain ⟨p, o, e, _, hc⟩ := h (by simp [bs])
  exact ⟨p, o, e, hc 0 _ rfl⟩
 obtain ⟨D, hDl⟩ : ∃ D, (27 :: 91 :: db :: dl : List UInt8) = D := ⟨_, rfl⟩
 have hD0 : ∀ w A, Rd w A (bs D) → ∃ p o, A = some ⟨p, o, none⟩ ∧ w.cell? ⟨p, o, none⟩ = some (.int .u8 27) := fun w A h => by
  rw [← hDl] at h
  obtain ⟨p, o, e, _, hc⟩ := h (by simp [bs])
  exact ⟨p, o, e, hc 0 _ rfl⟩
 obtain ⟨bi, hbi⟩ : ∃ x, (b.toNat : Int) = x := ⟨_, rfl⟩
 have b27 : (bi != 27) = true := by
  rw [bne, Bool.not_eq_true']
  refine beq_false_of_ne fun e => hb27 ?_
  rw [← hbi] at e
  exact UInt8.toNat_inj.1 (by show b.toNat = 27; omega)
 rw [hbi] at hL0
 rw [hL] at HA HBb HN htx
 rw [hDl] at HDd HND
 have tf : k.text.toList.isEmpty = false := text_full13 ht
 have hx : (⟨L.toArray⟩ : ByteArray) = k.text := by rw [htx ht, str_list13]
 have le1 : L.isEmpty = false := by rw [← hL]; rfl
 have le2 : ¬ L = [] := by rw [← hL]; simp
 have HL0 := Lib.hid hL0
 have HD0 := Lib.hid hD0
 obtain ⟨q1, q2⟩ := mods_tmod y0
 have q9 : wrap64 (k.mods / 64) = k.mods / 64 := by unfold wrap64; omega
 have q3 : wrap64 (k.mods / 64 * 64) = k.mods / 64 * 64 := by unfold wrap64; omega
 have q4 : wrap64 (k.mods % 2 + k.mods / 64 * 64) = M := by unfold wrap64; omega
 have q5 : Int.tmod flags 8 = f := by rw [← hf]; exact Int.tmod_eq_emod_of_nonneg l0
 have q6 : IntKind.u8.wrap f = f := by rw [IntKind.wrap_u8]; omega
 have q7 : IntKind.i64.wrap f = f := by rw [IntKind.wrap_i64]; omega
 have q8 : IntKind.i64.wrap (f + 8) = f + 8 := by rw [IntKind.wrap_i64]; omega
 have n1 : (0 : Int) < (n : Int) := by omega
 have nd1 : (2 : Int) < (nd : Int) := by omega
 have nd0 : (0 : Int) < (nd : Int) := by omega
 rw [hE] at hK
 clear hm hk hs hE hM hPr hRe hPR hRel hD hbt hb27 htx hn hnd hf if_ if8 iM i1 i2 i3 hL hDl hL0 hD0 hbi n0 nd2 y0 y1 l0 ht
 simp only [kyV] at HM HA HBb HCc HDd ⊢
 obtain ⟨code, mods, typ, shift, base, text⟩ := k
 have hB : Below w.heap.size w (w.alloc (.cells #[.int .i64 code, .int .i64 mods, .int .i64 typ, .int .i64 shift, .int .i64 base, .string text] 23)) := (Below.refl _ w).alloc (Nat.le_refl _) _
 have k0 := Blk.new w 23 #[.int .i64 code, .int .i64 mods, .int .i64 typ, .int .i64 shift, .int .i64 base, .string text]
 have hv0 := H.invB hv hB
 simp only at HM HL HA HBb HCc HDd hK q1 q2 q3 q4 q9 hx tf
 subst hK
 subst hx
 go_enter Tryd.func4, Tryd.ntmps4
 go_wp2_with fail
 refine (kitAwake H.toKitC _ hv0).mono ?_
 rintro e w1 ⟨rfl, hb1⟩
 have hB1 := hB.trans (hb1.mono hB.size)
 replace k0 := k0.below hb1 k0.lt
 clear hv0 hB hb1
 obtain ⟨a0, a1, a2, a3, a4, a5⟩ := Blk.cells6 k0
 go_wp2_with fail
 refine (HM.out _).mono ?_
 rintro e w2 ⟨rfl, hb2⟩
 have hB2 := hB1.trans (hb2.mono hB1.size)
 clear a0 a1 a2 a3 a4 a5
 replace k0 := k0.below hb2 k0.lt
 clear hB1 hb2
 obtain ⟨a0, a1, a2, a3, a4, a5⟩ := Blk.cells6 k0
 go_wp2_with fail
 refine (HL.out _ (H.invB hv hB2)).mono ?_
 rintro e w3 ⟨rfl, hb3⟩
 have hB3 := hB2.trans (hb3.mono hB2.size)
 clear a0 a1 a2 a3 a4 a5
 replace k0 := k0.below hb3 k0.lt
 clear hB2 hb3
 have z1 := k0.frozen 1
 obtain ⟨a0, a1, a2, a3, a4, a5⟩ := Blk.cells6 k0
 have k0' : Blk (w3.setCell ⟨w.heap.size, 1, none⟩ (.int .i64 M)) w.heap.size 23 #[.int .i64 code, .int .i64 M, .int .i64 typ, .int .i64 shift, .int .i64 base, .string ⟨L.toArray⟩] := k0.set 1 _
 have hBs := hB3.setCell (p := ⟨w.heap.size, 1, none⟩) (by show w.heap.size ≤ w.heap.size; omega) (.int .i64 M)
 go_upto_region 5 with (fail)
 obtain ⟨X5, hX⟩ : ∃ X, w3.setCell ⟨w.heap.size, 1, none⟩ (.int .i64 M) = X := ⟨_, rfl⟩
 rw [hX] at k0' hBs ⊢
 clear hX k0 z1 a0 a1 a2 a3 a4 a5 hB3
 have k0 := k0'
 have hX5 := hBs
 clear k0' hBs
 have z2 := k0.frozen 2
 obtain ⟨a0, a1, a2, a3, a4, a5⟩ := Blk.cells6 k0
 have k0' : Blk (X5.setCell ⟨w.heap.size, 2, none⟩ (.int .i64 1)) w.heap.size 23 #[.int .i64 code, .int .i64 M, .int .i64 1, .int .i64 shift, .int .i64 base, .string ⟨L.toArray⟩] := k0.set 2 _
 have hBs := hX5.setCell (p := ⟨w.heap.size, 2, none⟩) (by show w.heap.size ≤ w.heap.size; omega) (.int .i64 1)
 go_upto_region 7 with (fail)
 obtain ⟨X7, hX⟩ : ∃ X, X5.setCell ⟨w.heap.size, 2, none⟩ (.int .i64 1) = X := ⟨_, rfl⟩
 rw [hX] at k0' hBs ⊢
 clear hX k0 z2 a0 a1 a2 a3 a4 a5 hX5
 have k0 := k0'
 have hX7 := hBs
 clear k0' hBs
 obtain ⟨a0, a1, a2, a3, a4, a5⟩ := Blk.cells6 k0
 go_wp2_with fail
 refine (HA.out _ (H.invB hv hX7)).mono ?_
 rintro e yA ⟨AA, cA, rfl, rA, hb⟩
 have hYA := hX7.trans (hb.mono hX7.size)
 replace k0 := k0.below hb k0.lt
 clear a0 a1 a2 a3 a4 a5 hX7 hb
 have z2 := k0.frozen 2
 obtain ⟨a0, a1, a2, a3, a4, a5⟩ := Blk.cells6 k0
 have k0' : Blk (yA.setCell ⟨w.heap.size, 2, none⟩ (.int .i64 2)) w.heap.size 23 #[.int .i64 code, .int .i64 M, .int .i64 2, .int .i64 shift, .int .i64 base, .string ⟨L.toArray⟩] := k0.set 2 _
 replace rA := rA.set_key k0 rfl 2 (.int .i64 2)
 have hBs := hYA.setCell (p := ⟨w.heap.size, 2, none⟩) (by show w.heap.size ≤ w.heap.size; omega) (.int .i64 2)
 go_upto_region 9 with (fail)
 obtain ⟨X9, hX⟩ : ∃ X, yA.setCell ⟨w.heap.size, 2, none⟩ (.int .i64 2) = X := ⟨_, rfl⟩
 rw [hX] at k0' hBs rA ⊢
 clear hX k0 z2 a0 a1 a2 a3 a4 a5 hYA
 have k0 := k0'
 have hX9 := hBs
 clear k0' hBs
 obtain ⟨a0, a1, a2, a3, a4, a5⟩ := Blk.cells6 k0
 go_wp2_with fail
 refine (HBb.out _ (H.invB hv hX9)).mono ?_
 rintro e yB ⟨AB, cB, rfl, rB, hb⟩
 have hYB := hX9.trans (hb.mono hX9.size)
 replace k0 := k0.below hb k0.lt
 replace rA := rA.below hb
 clear a0 a1 a2 a3 a4 a5 hX9 hb
 have z2 := k0.frozen 2
 obtain ⟨a0, a1, a2, a3, a4, a5⟩ := Blk.cells6 k0
 have k0' : Blk (yB.setCell ⟨w.heap.size, 2, none⟩ (.int .i64 3)) w.heap.size 23 #[.int .i64 code, .int .i64 M, .int .i64 3, .int .i64 shift, .int .i64 base, .string ⟨L.toArray⟩] := k0.set 2 _
 replace rA := rA.set_key k0 rfl 2 (.int .i64 3)
 replace rB := rB.set_key k0 rfl 2 (.int .i64 3)
 have hBs := hYB.setCell (p := ⟨w.heap.size, 2, none⟩) (by show w.heap.size ≤ w.heap.size; omega) (.int .i64 3)
 go_upto_region 11 with (fail)
 obtain ⟨X11, hX⟩ : ∃ X, yB.setCell ⟨w.heap.size, 2, none⟩ (.int .i64 3) = X := ⟨_, rfl⟩
 rw [hX] at k0' hBs rA rB ⊢
 clear hX k0 z2 a0 a1 a2 a3 a4 a5 hYB
 have k0 := k0'
 have hX11 := hBs
 clear k0' hBs
 obtain ⟨a0, a1, a2, a3, a4, a5⟩ := Blk.cells6 k0
 go_wp2_with fail
 refine (HCc.out _ (H.invB hv hX11)).mono ?_
 rintro e yC ⟨AC, cC, rfl, rC, hb⟩
 have hYC := hX11.trans (hb.mono hX11.size)
 replace k0 := k0.below hb k0.lt
 replace rA := rA.below hb
 replace rB := rB.below hb
 clear a0 a1 a2 a3 a4 a5 hX11 hb
 have z2 := k0.frozen 2
 obtain ⟨a0, a1, a2, a3, a4, a5⟩ := Blk.cells6 k0
 have k0' : Blk (yC.setCell ⟨w.heap.size, 2, none⟩ (.int .i64 1)) w.heap.size 23 #[.int .i64 code, .int .i64 M, .int .i64 1, .int .i64 shift, .int .i64 base, .string ⟨L.toArray⟩] := k0.set 2 _
 replace rA := rA.set_key k0 rfl 2 (.int .i64 1)
 replace rB := rB.set_key k0 rfl 2 (.int .i64 1)
 replace rC := rC.set_key k0 rfl 2 (.int .i64 1)
 have hBs := hYC.setCell (p := ⟨w.heap.size, 2, none⟩) (by show w.heap.size ≤ w.heap.size; omega) (.int .i64 1)
 go_upto_region 13 with (fail)
 obtain ⟨X13, hX⟩ : ∃ X, yC.setCell ⟨w.heap.size, 2, none⟩ (.int .i64 1) = X := ⟨_, rfl⟩
 rw [hX] at k0' hBs rA rB rC ⊢
 clear hX k0 z2 a0 a1 a2 a3 a4 a5 hYC
 have k0 := k0'
 have hX13 := hBs
 clear k0' hBs
 obtain ⟨a0, a1, a2, a3, a4, a5⟩ := Blk.cells6 k0
 go_wp2_with fail
 refine (HDd.out _ (H.invB hv hX13)).mono ?_
 rintro e yD ⟨AD, cD, rfl, rD, hb⟩
 have hYD := hX13.trans (hb.mono hX13.size)
 replace k0 := k0.below hb k0.lt
 replace rA := rA.below hb
 replace rB := rB.below hb
 replace rC := rC.below hb
 clear a0 a1 a2 a3 a4 a5 hX13 hb
 obtain ⟨a0, a1, a2, a3, a4, a5⟩ := Blk.cells6 k0
 have s1 := str_bs13 (n := n) (c := cA) HN.out rA
 have s2 := str_bs13 (n := n) (c := cB) HN.out rB
 obtain ⟨pa, oa, rfl, ca0⟩ := HL0.out _ _ rA
 obtain ⟨pd, od, rfl, cd0⟩ := HD0.out _ _ rD
 go_wp2_with fail
 all_goals (go_ret; exact ⟨rfl, hYD⟩)
theorem kittyText_walk (H : KitT Inv) (flags : Int) (l0 : 0 ≤ flags) (l1 : flags ≤ 255) (k : Ky) (hk : okK k) (hs : k.text.size ≤ 4294967296) (w : World) (hv : Inv w) : Calls Tryd.prog 4 #[.int .u8 flags, kyV k] w fun e w' => e = .returned (.bool true) ∧ Below w.heap.size w w' := by
 cases hm : mayK k with
 | false => exact kittyText_no H flags l0 l1 k hk hs hm w hv
 | true =>
   by_cases hK : (lookE k.code).kind = 1
   ·by_cases ht : k.text.data.toList = []
    ·exact kittyText_empty H flags l0 l1 k hk hs hm hK ht w hv
    ·exact kittyText_full H flags l0 l1 k hk hs hm hK ht w hv
   ·exact kittyText_kind H flags l0 l1 k hk hs hm hK w hv
end Go.Proofs.YtdfojkbgdoiglaaDoor
