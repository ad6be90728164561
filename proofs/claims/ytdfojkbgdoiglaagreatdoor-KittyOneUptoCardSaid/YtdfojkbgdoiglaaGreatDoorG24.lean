/-
  Layer 13: what a law needs of the program; and the example that each statement asks. The cells of a block of five, and of six. Layer 13's mathematics: what goes as text. The document's Put, whatever it tells. Stage 13, the landed kitty: its event's mathematics. Stage 13, the landed kitty: what its event's methods say. Layer 3, walked: the program's char (in a text of its own: a dump that doesn't call it can load the others).
-/
import Derived.Test.YtdfojkbgdoiglaaGreatDoorG03
import Derived.Test.YtdfojkbgdoiglaaGreatDoorG05
import Derived.Test.YtdfojkbgdoiglaaGreatDoorG08
import Derived.Test.YtdfojkbgdoiglaaGreatDoorG09
import Derived.Test.YtdfojkbgdoiglaaGreatDoorG12
import Derived.Test.YtdfojkbgdoiglaaGreatDoorG14
import Derived.Test.YtdfojkbgdoiglaaGreatDoorG17
import Derived.Test.YtdfojkbgdoiglaaGreatDoorG18
import Derived.Test.YtdfojkbgdoiglaaGreatDoorG20
import Derived.Test.YtdfojkbgdoiglaaGreatDoorG23
import Derived.Laws.BitsLemmas
import Derived.Deep.Cut
namespace Go.Proofs.YtdfojkbgdoiglaaGreatDoor
open Go.RowKit
structure KitC (Inv : World → Prop) : Prop where
 invB : ∀ {w w' : World}, Inv w → Below w.heap.size w w' → Inv w'
 key : ∀ (f : Int) (k : Ky) (w : World), Inv w → in10 f → okK k → k.text.size ≤ 4294967296 → Calls Tryz.prog 9 #[.int .i64 f, kyV k] w (Out (kitL f k) w)
 form : ∀ (c : Int) (w : World), Inv w → in10 c → Calls Tryz.prog 7 #[.int .i64 c] w fun e w' => e = .returned (frmV (frmK c)) ∧ Below w.heap.size w w'
variable {Inv : World → Prop}
theorem KitC.key_at (H : KitC Inv) (f : Int) (k : Ky) {L : List UInt8} (hL : kitL f k = L) {n : Nat} (hn : L.length = n) (hf : in10 f) (hk : okK k) (hs : k.text.size ≤ 4294967296) (w : World) (hi : Inv w) :
 Calls Tryz.prog 9 #[.int .i64 f, kyV k] w (OutN L n w) := by
 subst hL
 exact (H.key f k w hi hf hk hs).mono fun e w' h => outN hn h
theorem KitC.form_at (H : KitC Inv) {c n f : Int} (h : frmK c = (n, f)) (w : World) (hi : Inv w) (hc : in10 c) : Calls Tryz.prog 7 #[.int .i64 c] w fun e w' => e = .returned (.tuple #[.int .i64 n, .int .u8 f]) ∧ Below w.heap.size w w' := by
 have := H.form c w hi hc
 rw [h] at this
 exact this
theorem in_lit13 {c : Int} (h : (decide (-9223372036854775808 ≤ c) && decide (c ≤ 9223372036854775807)) = true) : in10 c := by
 simpa [in10] using h
theorem ok_lit13 {code mods typ : Int} (h1 : in10 code) (h2 : in10 mods) (h3 : in10 typ) (text : ByteArray) : okK ⟨code, mods, typ, 0, 0, text⟩ := ⟨h1, h2, h3, in_lit13 (c := 0) (by decide), in_lit13 (c := 0) (by decide)⟩
theorem ex_kit : kitL 1 ⟨99, 4, 1, 0, 0, ByteArray.empty⟩ = [27, 91, 57, 57, 59, 53, 117] ∧ kitL 8 ⟨97, 0, 1, 0, 0, ByteArray.empty⟩ = [27, 91, 57, 55, 117] ∧ kitL 2 ⟨57352, 0, 3, 0, 0, ByteArray.empty⟩ = [27, 91, 49, 59, 49, 58, 51, 65] ∧ frmK 57366 = (13, 126) := by decide +kernel
set_option maxRecDepth 100000 in
set_option maxHeartbeats 8000000 in
theorem kitAwake (H : KitC Inv) (w0 : World) (hv0 : Inv w0) : Calls Tryz.prog 6 #[] w0 fun e w' => e = .returned (.bool true) ∧ Below w0.heap.size w0 w' := by
 go_enter Tryz.func6, Tryz.ntmps6
 go_wp2_with fail
 refine (H.key_at 1 ⟨99, 4, 1, 0, 0, ByteArray.empty⟩ ex_kit.1 (n := 7) rfl (in_lit13 (by decide)) (ok_lit13 (in_lit13 (by decide)) (in_lit13 (by decide)) (in_lit13 (by decide)) _) (by decide) _ hv0).mono ?_
 rintro e w1 ⟨A1, c1, rfl, hr1, hb1⟩
 have hv1 := H.invB hv0 hb1
 go_wp2_with fail
 refine (H.key_at 8 ⟨97, 0, 1, 0, 0, ByteArray.empty⟩ ex_kit.2.1 (n := 5) rfl (in_lit13 (by decide)) (ok_lit13 (in_lit13 (by decide)) (in_lit13 (by decide)) (in_lit13 (by decide)) _) (by decide) _ hv1).mono ?_
 rintro e w2 ⟨A2, c2, rfl, hr2, hb2⟩
 have hr12 := hr1.below hb2
 have hB2 := hb1.trans (hb2.mono hb1.size)
 clear hr1 hb1 hb2 hv1
 go_wp2_with fail
 refine (H.key_at 2 ⟨57352, 0, 3, 0, 0, ByteArray.empty⟩ ex_kit.2.2.1 (n := 8) rfl (in_lit13 (by decide)) (ok_lit13 (in_lit13 (by decide)) (in_lit13 (by decide)) (in_lit13 (by decide)) _) (by decide) _ (H.invB hv0 hB2)).mono ?_
 rintro e w3 ⟨A3, c3, rfl, hr3, hb3⟩
 have hr13 := hr12.below hb3
 have hr23 := hr2.below hb3
 have hB3 := hB2.trans (hb3.mono hB2.size)
 clear hr12 hr2 hb3 hB2
 go_wp2_with fail
 refine (H.form_at ex_kit.2.2.2 _ (H.invB hv0 hB3) (in_lit13 (by decide))).mono ?_
 rintro e w4 ⟨rfl, hb4⟩
 have s1 := str_bs13 (n := 7) (c := c1) rfl (hr13.below hb4)
 have s2 := str_bs13 (n := 5) (c := c2) rfl (hr23.below hb4)
 have s3 := str_bs13 (n := 8) (c := c3) rfl (hr3.below hb4)
 have hB4 := hB3.trans (hb4.mono hB3.size)
 clear hr13 hr23 hr3 hb4 hB3
 go_wp2_with fail
 go_ret
 exact ⟨rfl, hB4⟩
end Go.Proofs.YtdfojkbgdoiglaaGreatDoor
namespace Go.Proofs.YtdfojkbgdoiglaaGreatDoor
open Go.RowKit
theorem Blk.cells5 {w : World} {g : Nat} {t : TypeId} {a b c d e : Value} (h : Blk w g t #[a, b, c, d, e]) :
 w.cell? ⟨g, 0, none⟩ = some a ∧ w.cell? ⟨g, 1, none⟩ = some b ∧ w.cell? ⟨g, 2, none⟩ = some c ∧ w.cell? ⟨g, 3, none⟩ = some d ∧ w.cell? ⟨g, 4, none⟩ = some e :=
 ⟨h.cell 0, h.cell 1, h.cell 2, h.cell 3, h.cell 4⟩
theorem Blk.cells6 {w : World} {g : Nat} {t : TypeId} {a b c d e f : Value} (h : Blk w g t #[a, b, c, d, e, f]) :
 w.cell? ⟨g, 0, none⟩ = some a ∧ w.cell? ⟨g, 1, none⟩ = some b ∧ w.cell? ⟨g, 2, none⟩ = some c ∧ w.cell? ⟨g, 3, none⟩ = some d ∧ w.cell? ⟨g, 4, none⟩ = some e ∧ w.cell? ⟨g, 5, none⟩ = some f :=
 ⟨h.cell 0, h.cell 1, h.cell 2, h.cell 3, h.cell 4, h.cell 5⟩
end Go.Proofs.YtdfojkbgdoiglaaGreatDoor
namespace Go.Proofs.YtdfojkbgdoiglaaGreatDoor
theorem text_low {c : Int} (h : (lookE c).kind = 1) : 32 ≤ c ∧ keyedK c = false := by
 by_cases ho : c < 57344 ∨ 57455 ≤ c
 ·rw [look_out ho] at h
  simp only at h
  unfold restN at h
  by_cases h1 : c = 9 ∨ c = 13 ∨ c = 27 ∨ c = 127
  ·rw [if_pos h1] at h; cases h
  ·rw [if_neg h1, if_neg (by omega), if_neg (by omega)] at h
   by_cases h2 : isPtK c = false ∨ c < 32 ∨ 127 ≤ c ∧ c ≤ 159 ∨ 57344 ≤ c ∧ c ≤ 63743
   ·rw [if_pos h2] at h; cases h
   ·refine ⟨by omega, ?_⟩
    unfold keyedK
    simp only [Bool.or_eq_false_iff, beq_eq_false_iff_ne]
    omega
 ·exfalso
  obtain ⟨k, rfl⟩ : ∃ k : Fin 111, c = 57344 + k.1 := ⟨⟨(c - 57344).toNat, by omega⟩, by simp; omega⟩
  have := code_all k
  omega
end Go.Proofs.YtdfojkbgdoiglaaGreatDoor
namespace Go.Proofs.YtdfojkbgdoiglaaGreatDoor
open Go.RowKit
theorem rputE_any (s : Sq) (A : Option Addr) (c : Nat) (m : Int) (T : List UInt8) (w : World) (hm : mayS s = m) (hT : putE s = T) (hp : s.params.length ≤ 4294967296) (hi : s.inter.length ≤ 4294967296) (hr : RdP w A s.params) :
 Calls Tryz.prog 27 #[sqV s A c] w (PutE m T w) := by
 subst hT
 subst hm
 by_cases h : mayS s = 0
 ·refine (wput_yes s A c w h hr).mono ?_
  rintro e w' ⟨⟨A', c', rfl, h1, h2⟩, hb⟩
  rw [putE_0 h, h]
  exact ⟨⟨A', c', rfl, h1, h2⟩, hb⟩
 ·refine (wput_no s A c _ w rfl h hp hi hr).mono ?_
  rintro e w' ⟨rfl, hb⟩
  rw [putE_no h]
  exact ⟨⟨none, 0, rfl, Nat.le_refl _, Rd.nil _ _⟩, hb⟩
end Go.Proofs.YtdfojkbgdoiglaaGreatDoor
namespace Go.Proofs.YtdfojkbgdoiglaaGreatDoor
open Go.RowKit
theorem kip_and (x i : Nat) : x &&& 2 ^ i = 0 ↔ x.testBit i = false := by
 constructor
 ·intro h
  have := congrArg (·.testBit i) h
  simpa [Nat.testBit_and] using this
 ·intro h
  refine Nat.eq_of_testBit_eq fun j => ?_
  rw [Nat.testBit_and, Nat.testBit_two_pow, Nat.zero_testBit]
  by_cases e : i = j
  ·subst e; rw [h]; rfl
  ·simp [e]
theorem kip_bit (x i : Nat) (hi : i < 6) (hx : x < 2 ^ 63) : (bits .and .i64 (x : Int) ((2 ^ i : Nat) : Int) != 0) = (x / 2 ^ i % 2 == 1) := by
 have hl : 2 ^ i < 2 ^ 63 := Nat.pow_lt_pow_right (by decide) (by omega)
 have hz := kip_and x i
 rw [(bits_nat .i64 63 (by decide) (fun n a b => by rw [IntKind.wrap_i64]; omega) x (2 ^ i) hx hl).1]
 rw [Nat.testBit_eq_decide_div_mod_eq] at hz
 rw [Bool.eq_iff_iff, bne_iff_ne, beq_iff_eq]
 have h2 : ((x &&& 2 ^ i : Nat) : Int) ≠ 0 ↔ ¬ (x &&& 2 ^ i = 0) := by omega
 rw [h2, hz]
 simp
theorem kip_has {f d : Int} (h2 : f ≤ 9223372036854775807) (hd : d = 2 ∨ d = 4 ∨ d = 8 ∨ d = 16) : (bits .and .i64 (max f 0) d != 0) = flagK f d := by
 obtain ⟨x, hx⟩ := Int.eq_ofNat_of_zero_le (show 0 ≤ max f 0 by omega)
 have hl : x < 2 ^ 63 := by omega
 unfold flagK flg
 rw [hx]
 rcases hd with rfl | rfl | rfl | rfl
 ·refine (kip_bit x 1 (by decide) hl).trans ?_
  rw [Bool.eq_iff_iff]; simp only [beq_iff_eq]; omega
 ·refine (kip_bit x 2 (by decide) hl).trans ?_
  rw [Bool.eq_iff_iff]; simp only [beq_iff_eq]; omega
 ·refine (kip_bit x 3 (by decide) hl).trans ?_
  rw [Bool.eq_iff_iff]; simp only [beq_iff_eq]; omega
 ·refine (kip_bit x 4 (by decide) hl).trans ?_
  rw [Bool.eq_iff_iff]; simp only [beq_iff_eq]; omega
theorem kip_shift {m : Int} (h0 : 0 ≤ m) (h1 : m ≤ 255) : (bits .and .i64 m 1 != 0) = hasN m 1 := by
 obtain ⟨n, rfl⟩ := Int.eq_ofNat_of_zero_le h0
 have : ∀ n : Fin 256, (bits .and .i64 ((n.1 : Nat) : Int) 1 != 0) = hasN ((n.1 : Nat) : Int) 1 := by decide +kernel
 exact this ⟨n, by omega⟩
theorem kip_none {m : Int} (h0 : 0 ≤ m) (h1 : m ≤ 255) : (bits .andNot .i64 m 193 == 0) = decide (m - m / 64 * 64 ≤ 1) ∧ (bits .andNot .i64 m 192 == 0) = (m - m / 64 * 64 == 0) := by
 obtain ⟨n, rfl⟩ := Int.eq_ofNat_of_zero_le h0
 have : ∀ n : Fin 256, (bits .andNot .i64 ((n.1 : Nat) : Int) 193 == 0) = decide (((n.1 : Nat) : Int) - ((n.1 : Nat) : Int) / 64 * 64 ≤ 1) ∧ (bits .andNot .i64 ((n.1 : Nat) : Int) 192 == 0) = (((n.1 : Nat) : Int) - ((n.1 : Nat) : Int) / 64 * 64 == 0) := by decide +kernel
 exact this ⟨n, by omega⟩
def typesK (k : Ky) : Bool := (lookE k.code).kind == 1 || keyedK k.code
def goesK (f : Int) (k : Ky) : Bool := if k.typ = 3 ∧ flagK f 2 = false then false else if flagK f 8 = true then true else (lookE k.code).kind != 7 && !(k.typ == 3 && typesK k)
theorem kip_sent (f : Int) {k : Ky} (hm : mayK k = true) : sentK f k = goesK f k := by
 unfold sentK goesK typesK
 rw [if_neg (by rw [hm]; decide)]
 cases h2 : flagK f 2 <;> cases h8 : flagK f 8 <;> by_cases h3 : k.typ = 3 <;> by_cases h1 : (lookE k.code).kind = 1 <;> by_cases h7 : (lookE k.code).kind = 7 <;> cases hk : keyedK k.code <;> simp_all
theorem kip_keyed {c : Int} (h : keyedK c = true) : c = 9 ∨ c = 13 ∨ c = 127 := by
 unfold keyedK at h
 simpa [or_assoc] using h
theorem kip_plain {k : Ky} (hm : mayK k = true) (h : astextK k = true) : plainK k = if (lookE k.code).kind = 1 ∧ k.text.data.toList ≠ [] then k.text.data.toList else putL (shownK k) := by
 obtain ⟨⟨_, m0, m1, _, _⟩, _⟩ := (may_parts k).1 hm
 unfold astextK at h
 unfold plainK
 by_cases h1 : (lookE k.code).kind = 1
 ·rw [if_neg (by rw [(text_low h1).2]; decide)]
  by_cases ht : k.text.data.toList = []
  ·rw [if_neg (fun hh => hh ht), if_neg (fun hh => hh.2 ht)]
  ·rw [if_pos ht, if_pos ⟨h1, ht⟩]
 ·rw [if_neg h1] at h
  simp only [Bool.and_eq_true, beq_iff_eq] at h
  obtain ⟨hk, hz⟩ := h
  rw [if_pos hk, if_neg (fun hh => h1 hh.1)]
  have hs : shownK k = k.code := by
   unfold shownK
   refine if_pos ?_
   unfold hasN
   rw [beq_eq_false_iff_ne]
   omega
  rw [hs]
  rcases kip_keyed hk with e | e | e <;> rw [e] <;> decide +kernel
theorem kip_text {f : Int} {k : Ky} (h8 : flagK f 8 = false) (h : goesK f k = true) : (flagK f 8 = false ∧ k.typ ≠ 3 ∧ astextK k = true) ↔ astextK k = true := by
 refine ⟨fun hh => hh.2.2, fun ha => ⟨h8, fun h3 => ?_, ha⟩⟩
 unfold goesK typesK at h
 unfold astextK at ha
 rw [h8, h3] at h
 by_cases h1 : (lookE k.code).kind = 1
 ·rw [h1] at h
  simp at h
 ·rw [if_neg h1] at ha
  simp only [Bool.and_eq_true, beq_iff_eq] at ha
  rw [ha.1] at h
  simp at h
theorem kip_others {s b c : Int} {t : Bool} (hs : 0 ≤ s) : altK s b c t = if b ≠ 0 ∧ b ≠ c then [if s ≠ 0 ∧ t = true then s else -1, b] else if (if s ≠ 0 ∧ t = true then s else -1) ≠ -1 then [if s ≠ 0 ∧ t = true then s else -1] else [] := by
 unfold altK
 by_cases h1 : s ≠ 0 ∧ t = true
 ·simp only [if_pos h1]
  rw [if_pos (show s ≠ -1 by omega), if_neg (show ¬ ((b ≠ 0 ∧ b ≠ c) ∧ ¬ (s ≠ 0 ∧ t = true)) from fun h => h.2 h1)]
  by_cases h2 : b ≠ 0 ∧ b ≠ c
  ·rw [if_pos h2, if_pos h2]; rfl
  ·rw [if_neg h2, if_neg h2]; rfl
 ·simp only [if_neg h1]
  by_cases h2 : b ≠ 0 ∧ b ≠ c
  ·rw [if_pos ⟨h2, h1⟩, if_pos h2, if_pos h2]; rfl
  ·rw [if_neg (fun h => h2 h.1), if_neg h2, if_neg h2]; rfl
def thirdK (f : Int) (k : Ky) : List Int := if flagK f 16 = false ∨ k.typ = 3 then [] else ptsK k
def trimK (A B P : List Int) : List (List Int) := if P ≠ [] then [A, B, P] else if B ≠ [-1] then [A, B] else if A ≠ [1] then [A] else []
theorem kip_params (f : Int) {k : Ky} (hm : mayK k = true) : paramsK f k = trimK (firstK f k) (secondK f k) (thirdK f k) := by
 obtain ⟨_, _, _, hc⟩ := (may_parts k).1 hm
 obtain ⟨ks, k1, _, _, k4⟩ := clean_pts hc
 have hn : k.text.data.toList = [] ↔ ptsK k = [] := by
  rw [pts_is k1]
  constructor
  ·intro h
   rw [h] at k1
   have : allL [] = some [] := by decide +kernel
   rw [this] at k1
   exact (Option.some.inj k1).symm
  ·intro h
   rw [h] at k4
   exact k4.symm
 have h3 : thirdK f k = if toldK f k then ptsK k else [] := by
  unfold thirdK
  by_cases ht : toldK f k
  ·rw [if_pos ht, if_neg (fun h => h.elim (fun h => by rw [ht.1] at h; cases h) ht.2.1)]
  ·rw [if_neg ht]
   split
   next => rfl
   next h =>
    by_cases he : k.text.data.toList = []
    ·exact hn.1 he
    ·exact absurd ⟨by simpa using fun h16 => h (.inl h16), fun h3 => h (.inr h3), he⟩ ht
 unfold paramsK trimK
 rw [h3]
 by_cases ht : toldK f k
 ·rw [if_pos ht, if_pos ht, if_pos (fun h => ht.2.2 (hn.2 h))]
 ·rw [if_neg ht, if_neg ht, if_neg (show ¬ (([] : List Int) ≠ []) from fun h => h rfl)]
theorem kip_param {m : Int} (h0 : 0 ≤ m) (h1 : m ≤ 255) : paramN m = 1 + m := by
 unfold paramN
 rw [if_neg (by omega)]
 omega
end Go.Proofs.YtdfojkbgdoiglaaGreatDoor
namespace Go.Proofs.YtdfojkbgdoiglaaGreatDoor
open Go.RowKit
def evV13 (k : Ky) (s K : Int) : Value := .agg #[.int .i64 k.code, .int .i64 k.mods, .int .i64 k.typ, .int .i64 k.shift, .int .i64 k.base, .string k.text, .int .i64 s, .int .i64 K]
theorem Blk.cells8 {w : World} {g : Nat} {t : TypeId} {p0 p1 p2 p3 p4 p5 p6 p7 : Value} (h : Blk w g t #[p0, p1, p2, p3, p4, p5, p6, p7]) :
 w.cell? ⟨g, 0, none⟩ = some p0 ∧ w.cell? ⟨g, 1, none⟩ = some p1 ∧ w.cell? ⟨g, 2, none⟩ = some p2 ∧ w.cell? ⟨g, 3, none⟩ = some p3 ∧ w.cell? ⟨g, 4, none⟩ = some p4 ∧ w.cell? ⟨g, 5, none⟩ = some p5 ∧ w.cell? ⟨g, 6, none⟩ = some p6 ∧ w.cell? ⟨g, 7, none⟩ = some p7 :=
 ⟨h.cell 0, h.cell 1, h.cell 2, h.cell 3, h.cell 4, h.cell 5, h.cell 6, h.cell 7⟩
theorem kip_ret {x y : Bool} (h : x = y) : Ending.returned (.bool x) = .returned (.bool y) := by rw [h]
set_option maxRecDepth 100000 in
set_option maxHeartbeats 8000000 in
theorem khas_any (s d : Int) (q : Bool) (hq : (bits .and .i64 s d != 0) = q) (w : World) : Calls Tryz.prog 17 #[.int .i64 s, .int .i64 d] w fun e w' => e = .returned (.bool q) ∧ Below w.heap.size w w' := by
 have HQ := Lib.hid hq
 clear hq
 go_enter Tryz.func17, Tryz.ntmps17
 go_wp2_with fail
 go_ret
 exact ⟨kip_ret HQ.out, Below.refl _ _⟩
def typB (t1 t9 t13 t127 : Bool) : Bool := t1 || t9 || t13 || t127
set_option maxRecDepth 100000 in
set_option maxHeartbeats 8000000 in
theorem ktypes_any (k : Ky) (s K : Int) (q : Bool) (hq : ((K == 1) || keyedK k.code) = q) (w : World) : Calls Tryz.prog 45 #[evV13 k s K] w fun e w' => e = .returned (.bool q) ∧ Below w.heap.size w w' := by
 obtain ⟨code, mods, typ, shift, base, text⟩ := k
 simp only [evV13, keyedK] at hq ⊢
 obtain ⟨t1, h1⟩ : ∃ x, (K == 1) = x := ⟨_, rfl⟩
 obtain ⟨t9, h9⟩ : ∃ x, (code == 9) = x := ⟨_, rfl⟩
 obtain ⟨t13, h13⟩ : ∃ x, (code == 13) = x := ⟨_, rfl⟩
 obtain ⟨t127, h127⟩ : ∃ x, (code == 127) = x := ⟨_, rfl⟩
 rw [h1, h9, h13, h127, ← Bool.or_assoc, ← Bool.or_assoc] at hq
 have HQ := Lib.hid (show typB t1 t9 t13 t127 = q from hq)
 clear hq
 have k0 := Blk.new w 47 #[.int .i64 code, .int .i64 mods, .int .i64 typ, .int .i64 shift, .int .i64 base, .string text, .int .i64 s, .int .i64 K]
 have hB0 : Below w.heap.size w (w.alloc (.cells #[.int .i64 code, .int .i64 mods, .int .i64 typ, .int .i64 shift, .int .i64 base, .string text, .int .i64 s, .int .i64 K] 47)) := (Below.refl _ _).alloc (Nat.le_refl _) _
 obtain ⟨a0, a1, a2, a3, a4, a5, a6, a7⟩ := Blk.cells8 k0
 cases t1 with
 | true =>
   go_enter Tryz.func45, Tryz.ntmps45
   go_wp2_with fail
   go_ret
   exact ⟨kip_ret HQ.out, hB0⟩
 | false =>
   cases t9 with
   | true =>
     go_enter Tryz.func45, Tryz.ntmps45
     go_wp2_with fail
     go_ret
     exact ⟨kip_ret HQ.out, hB0⟩
   | false =>
     cases t13 with
     | true =>
       go_enter Tryz.func45, Tryz.ntmps45
       go_wp2_with fail
       go_ret
       exact ⟨kip_ret HQ.out, hB0⟩
     | false =>
       cases t127 with
       | true =>
         go_enter Tryz.func45, Tryz.ntmps45
         go_wp2_with fail
         go_ret
         exact ⟨kip_ret HQ.out, hB0⟩
       | false =>
         go_enter Tryz.func45, Tryz.ntmps45
         go_wp2_with fail
         go_ret
         exact ⟨kip_ret HQ.out, hB0⟩
def sentB (t3 b2 b8 t7 tt : Bool) : Bool := if (t3 && !b2) = true then false else if b8 = true then true else t7 && !(t3 && tt)
set_option maxRecDepth 100000 in
set_option maxHeartbeats 8000000 in
theorem ksent_any (k : Ky) (s K : Int) (b2 b8 q : Bool) (h2 : (bits .and .i64 s 2 != 0) = b2) (h8 : (bits .and .i64 s 8 != 0) = b8) (hq : sentB (k.typ == 3) b2 b8 (K != 7) ((K == 1) || keyedK k.code) = q) (w : World) : Calls Tryz.prog 16 #[evV13 k s K] w fun e w' => e = .returned (.bool q) ∧ Below w.heap.size w w' := by
 have H2 : Hid (∀ W, Calls Tryz.prog 17 #[.int .i64 s, .int .i64 2] W fun e w' => e = .returned (.bool b2) ∧ Below W.heap.size W w') := Lib.hid fun W => khas_any s 2 b2 h2 W
 have H8 : Hid (∀ W, Calls Tryz.prog 17 #[.int .i64 s, .int .i64 8] W fun e w' => e = .returned (.bool b8) ∧ Below W.heap.size W w') := Lib.hid fun W => khas_any s 8 b8 h8 W
 obtain ⟨tt, htt⟩ : ∃ x, ((K == 1) || keyedK k.code) = x := ⟨_, rfl⟩
 have HT : Hid (∀ W, Calls Tryz.prog 45 #[evV13 k s K] W fun e w' => e = .returned (.bool tt) ∧ Below W.heap.size W w') := Lib.hid fun W => ktypes_any k s K tt htt W
 rw [htt] at hq
 clear htt h2 h8
 obtain ⟨code, mods, typ, shift, base, text⟩ := k
 simp only [evV13] at hq HT ⊢
 obtain ⟨t3, h3⟩ : ∃ x, (typ == 3) = x := ⟨_, rfl⟩
 obtain ⟨t7, h7⟩ : ∃ x, (K != 7) = x := ⟨_, rfl⟩
 rw [h3, h7] at hq
 have HQ := Lib.hid hq
 clear hq
 have k0 := Blk.new w 47 #[.int .i64 code, .int .i64 mods, .int .i64 typ, .int .i64 shift, .int .i64 base, .string text, .int .i64 s, .int .i64 K]
 have hB0 : Below w.heap.size w (w.alloc (.cells #[.int .i64 code, .int .i64 mods, .int .i64 typ, .int .i64 shift, .int .i64 base, .string text, .int .i64 s, .int .i64 K] 47)) := (Below.refl _ _).alloc (Nat.le_refl _) _
 obtain ⟨a0, a1, a2, a3, a4, a5, a6, a7⟩ := Blk.cells8 k0
 cases t3 with
 | true =>
   go_enter Tryz.func16, Tryz.ntmps16
   go_wp2_with fail
   refine (H2.out _).mono ?_
   rintro e w1 ⟨rfl, hb1⟩
   have k1 := k0.below hb1 k0.lt
   have hB1 := hB0.trans (hb1.mono hB0.size)
   clear k0 hB0 hb1 a0 a1 a2 a3 a4 a5 a6 a7
   obtain ⟨a0, a1, a2, a3, a4, a5, a6, a7⟩ := Blk.cells8 k1
   cases b2 with
   | false =>
     go_wp2_with fail
     go_ret
     exact ⟨kip_ret HQ.out, hB1⟩
   | true =>
     go_wp2_with fail
     refine (H8.out _).mono ?_
     rintro e w2 ⟨rfl, hb2⟩
     have k2 := k1.below hb2 k1.lt
     have hB2 := hB1.trans (hb2.mono hB1.size)
     clear k1 hB1 hb2 a0 a1 a2 a3 a4 a5 a6 a7
     obtain ⟨a0, a1, a2, a3, a4, a5, a6, a7⟩ := Blk.cells8 k2
     cases b8 with
     | true =>
       go_wp2_with fail
       go_ret
       exact ⟨kip_ret HQ.out, hB2⟩
     | false =>
       cases t7 with
       | false =>
         go_wp2_with fail
         go_ret
         exact ⟨kip_ret HQ.out, hB2⟩
       | true =>
         go_wp2_with fail
         refine (HT.out _).mono ?_
         rintro e w3 ⟨rfl, hb3⟩
         have k3 := k2.below hb3 k2.lt
         have hB3 := hB2.trans (hb3.mono hB2.size)
         clear k2 hB2 hb3 a0 a1 a2 a3 a4 a5 a6 a7
         obtain ⟨a0, a1, a2, a3, a4, a5, a6, a7⟩ := Blk.cells8 k3
         cases tt with
         | true =>
           go_wp2_with fail
           go_ret
           exact ⟨kip_ret HQ.out, hB3⟩
         | false =>
           go_wp2_with fail
           go_ret
           exact ⟨kip_ret HQ.out, hB3⟩
 | false =>
   go_enter Tryz.func16, Tryz.ntmps16
   go_wp2_with fail
   refine (H8.out _).mono ?_
   rintro e w1 ⟨rfl, hb1⟩
   have k1 := k0.below hb1 k0.lt
   have hB1 := hB0.trans (hb1.mono hB0.size)
   clear k0 hB0 hb1 a0 a1 a2 a3 a4 a5 a6 a7
   obtain ⟨a0, a1, a2, a3, a4, a5, a6, a7⟩ := Blk.cells8 k1
   cases b8 with
   | true =>
     go_wp2_with fail
     go_ret
     exact ⟨kip_ret HQ.out, hB1⟩
   | false =>
     cases t7 with
     | false =>
       go_wp2_with fail
       go_ret
       exact ⟨kip_ret HQ.out, hB1⟩
     | true =>
       go_wp2_with fail
       go_ret
       exact ⟨kip_ret HQ.out, hB1⟩
def asB (t1 n1 tt n2 : Bool) : Bool := if t1 = true then n1 else tt && n2
set_option maxRecDepth 100000 in
set_option maxHeartbeats 8000000 in
theorem knone_any (k : Ky) (d : Int) (q : Bool) (hq : (bits .andNot .i64 k.mods d == 0) = q) {g : Nat} {cs : Array Value} (hcs : cs[1]? = some (.int .i64 k.mods)) (w : World) (hk : Blk w g 47 cs) : Calls Tryz.prog 46 #[.int .i64 d, .pointer (some ⟨g, 0, none⟩)] w fun e w' => e = .returned (.bool q) ∧ Below w.heap.size w w' := by
 obtain ⟨m, hm⟩ : ∃ m, k.mods = m := ⟨_, rfl⟩
 rw [hm] at hq hcs
 have a1 : w.cell? ⟨g, 1, none⟩ = some (.int .i64 m) := by rw [hk.cell 1]; exact hcs
 have HQ := Lib.hid hq
 clear hq hk hcs hm
 go_enter Tryz.func46, Tryz.ntmps46
 go_wp2_with fail
 go_ret
 exact ⟨kip_ret HQ.out, Below.refl _ _⟩
set_option maxRecDepth 100000 in
set_option maxHeartbeats 8000000 in
theorem kastext_any (k : Ky) (s K : Int) (n1 n2 q : Bool) (h1 : (bits .andNot .i64 k.mods 193 == 0) = n1) (h2 : (bits .andNot .i64 k.mods 192 == 0) = n2) (hq : asB (K == 1) n1 ((K == 1) || keyedK k.code) n2 = q) (w : World) : Calls Tryz.prog 18 #[evV13 k s K] w fun e w' => e = .returned (.bool q) ∧ Below w.heap.size w w' := by
 have HN1 : Hid (∀ W, Blk W w.heap.size 47 #[.int .i64 k.code, .int .i64 k.mods, .int .i64 k.typ, .int .i64 k.shift, .int .i64 k.base, .string k.text, .int .i64 s, .int .i64 K] → Calls Tryz.prog 46 #[.int .i64 193, .pointer (some ⟨w.heap.size, 0, none⟩)] W fun e w' => e = .returned (.bool n1) ∧ Below W.heap.size W w') := Lib.hid fun W hk => knone_any k 193 n1 h1 rfl W hk
 have HN2 : Hid (∀ W, Blk W w.heap.size 47 #[.int .i64 k.code, .int .i64 k.mods, .int .i64 k.typ, .int .i64 k.shift, .int .i64 k.base, .string k.text, .int .i64 s, .int .i64 K] → Calls Tryz.prog 46 #[.int .i64 192, .pointer (some ⟨w.heap.size, 0, none⟩)] W fun e w' => e = .returned (.bool n2) ∧ Below W.heap.size W w') := Lib.hid fun W hk => knone_any k 192 n2 h2 rfl W hk
 obtain ⟨tt, htt⟩ : ∃ x, ((K == 1) || keyedK k.code) = x := ⟨_, rfl⟩
 have HT : Hid (∀ W, Calls Tryz.prog 45 #[evV13 k s K] W fun e w' => e = .returned (.bool tt) ∧ Below W.heap.size W w') := Lib.hid fun W => ktypes_any k s K tt htt W
 rw [htt] at hq
 clear htt h1 h2
 obtain ⟨code, mods, typ, shift, base, text⟩ := k
 simp only [evV13] at hq HT HN1 HN2 ⊢
 obtain ⟨t1, h1⟩ : ∃ x, (K == 1) = x := ⟨_, rfl⟩
 rw [h1] at hq
 have HQ := Lib.hid hq
 clear hq
 have k0 := Blk.new w 47 #[.int .i64 code, .int .i64 mods, .int .i64 typ, .int .i64 shift, .int .i64 base, .string text, .int .i64 s, .int .i64 K]
 have hB0 : Below w.heap.size w (w.alloc (.cells #[.int .i64 code, .int .i64 mods, .int .i64 typ, .int .i64 shift, .int .i64 base, .string text, .int .i64 s, .int .i64 K] 47)) := (Below.refl _ _).alloc (Nat.le_refl _) _
 obtain ⟨a0, a1, a2, a3, a4, a5, a6, a7⟩ := Blk.cells8 k0
 cases t1 with
 | true =>
   go_enter Tryz.func18, Tryz.ntmps18
   go_wp2_with fail
   refine (HN1.out _ k0).mono ?_
   rintro e w1 ⟨rfl, hb1⟩
   have hB1 := hB0.trans (hb1.mono hB0.size)
   go_wp2_with fail
   go_ret
   exact ⟨kip_ret HQ.out, hB1⟩
 | false =>
   go_enter Tryz.func18, Tryz.ntmps18
   go_wp2_with fail
   refine (HT.out _).mono ?_
   rintro e w1 ⟨rfl, hb1⟩
   have k1 := k0.below hb1 k0.lt
   have hB1 := hB0.trans (hb1.mono hB0.size)
   clear k0 hB0 hb1 a0 a1 a2 a3 a4 a5 a6 a7
   obtain ⟨a0, a1, a2, a3, a4, a5, a6, a7⟩ := Blk.cells8 k1
   cases tt with
   | false =>
     go_wp2_with fail
     go_ret
     exact ⟨kip_ret HQ.out, hB1⟩
   | true =>
     go_wp2_with fail
     refine (HN2.out _ k1).mono ?_
     rintro e w2 ⟨rfl, hb2⟩
     have hB2 := hB1.trans (hb2.mono hB1.size)
     go_wp2_with fail
     go_ret
     exact ⟨kip_ret HQ.out, hB2⟩
set_option maxRecDepth 100000 in
set_option maxHeartbeats 8000000 in
theorem ktext_any (k : Ky) (s K : Int) (L : List UInt8) (hk : okK k) (hs : k.text.size ≤ 4294967296) (hL : (if K = 1 ∧ k.text.data.toList ≠ [] then k.text.data.toList else putL (shownK k)) = L) (w : World) (hz : Siz w) : Calls Tryz.prog 19 #[evV13 k s K] w (Out L w) := by
 obtain ⟨X, hX⟩ : ∃ x, shownK k = x := ⟨_, rfl⟩
 have HSH : Hid (∀ W, Calls Tryz.prog 48 #[kyV k] W fun e w' => e = .returned (.int .i64 X) ∧ Below W.heap.size W w') := Lib.hid fun W => by rw [← hX]; exact pshown_any k hk W
 have HP : Hid (∀ W, Below w.heap.size w W → Calls Tryz.prog 47 #[.int .i64 X] W (Out (putL X) W)) := Lib.hid fun W hW => Put_any X W (hz.below' hW)
 rw [hX] at hL
 have hm : k.text.size ≤ maxLen := by simp only [maxLen]; omega
 clear hX hk hs hz
 obtain ⟨code, mods, typ, shift, base, text⟩ := k
 simp only [evV13, kyV] at hL HSH hm ⊢
 have k0 := Blk.new w 47 #[.int .i64 code, .int .i64 mods, .int .i64 typ, .int .i64 shift, .int .i64 base, .string text, .int .i64 s, .int .i64 K]
 have hB0 : Below w.heap.size w (w.alloc (.cells #[.int .i64 code, .int .i64 mods, .int .i64 typ, .int .i64 shift, .int .i64 base, .string text, .int .i64 s, .int .i64 K] 47)) := (Below.refl _ _).alloc (Nat.le_refl _) _
 obtain ⟨a0, a1, a2, a3, a4, a5, a6, a7⟩ := Blk.cells8 k0
 by_cases h1 : K = 1
 ·subst h1
  by_cases hne : text.data.toList = []
  ·have HE := Lib.hid (show putL X = L by rw [← hL, if_neg (fun h => h.2 hne)])
   have te : text = ⟨#[]⟩ := by apply ByteArray.ext; simpa using hne
   subst te
   clear hL hne hm
   go_enter Tryz.func19, Tryz.ntmps19
   go_wp2_with fail
   refine (HSH.out _).mono ?_
   rintro e w1 ⟨rfl, hb1⟩
   have k1 := k0.below hb1 k0.lt
   have hB1 := hB0.trans (hb1.mono hB0.size)
   clear k0 hB0 hb1 a0 a1 a2 a3 a4 a5 a6 a7
   obtain ⟨a0, a1, a2, a3, a4, a5, a6, a7⟩ := Blk.cells8 k1
   go_wp2_with fail
   refine (HP.out _ hB1).mono ?_
   rintro e w9 ⟨A, c, rfl, hr9, hb9⟩
   go_wp2_with fail
   go_ret
   exact out_is HE.out.symm ⟨A, c, rfl, hr9, hB1.trans (hb9.mono hB1.size)⟩
  ·have HE := Lib.hid (show text.data.toList = L by rw [← hL, if_pos ⟨rfl, hne⟩])
   have tl : text.toList.isEmpty = false := text_full hne
   have hs1 := hB0.size
   clear hL hne
   go_enter Tryz.func19, Tryz.ntmps19
   go_wp2_with (first | ((with_reducible refine list_conv _ rfl (.tmp 14) 9 27 rfl w.heap.size 5 text ?_ Tryz.underlying9 Tryz.underlying27 Tryz.underlying5 hm hs1 ?_); rfl; intro v2 w4 hown2 hg2))
   go_ret
   exact out_is HE.out.symm (out_own hown2 (hB0.trans ((below_none hg2).mono hB0.size)))
 ·have HE := Lib.hid (show putL X = L by rw [← hL, if_neg (fun h => h1 h.1)])
  have t1 : (K == 1) = false := beq_false_of_ne h1
  clear hL h1 hm
  go_enter Tryz.func19, Tryz.ntmps19
  go_wp2_with fail
  refine (HSH.out _).mono ?_
  rintro e w1 ⟨rfl, hb1⟩
  have k1 := k0.below hb1 k0.lt
  have hB1 := hB0.trans (hb1.mono hB0.size)
  clear k0 hB0 hb1 a0 a1 a2 a3 a4 a5 a6 a7
  obtain ⟨a0, a1, a2, a3, a4, a5, a6, a7⟩ := Blk.cells8 k1
  go_wp2_with fail
  refine (HP.out _ hB1).mono ?_
  rintro e w9 ⟨A, c, rfl, hr9, hb9⟩
  go_wp2_with fail
  go_ret
  exact out_is HE.out.symm ⟨A, c, rfl, hr9, hB1.trans (hb9.mono hB1.size)⟩
end Go.Proofs.YtdfojkbgdoiglaaGreatDoor
namespace Go.Proofs.YtdfojkbgdoiglaaGreatDoor
open Go.RowKit
set_option maxRecDepth 100000 in
set_option maxHeartbeats 2000000 in
theorem char_any (c : UInt8) (w : World) (h : c.toNat < 128) :
 Calls Tryz.prog 94 #[.int .u8 (c.toNat : Int)] w fun e w' => e = .returned (.string ⟨(privL c).toArray⟩) ∧ w = w' := by
 by_cases h0 : c = 0
 ·subst h0
  go_enter Tryz.func94, Tryz.ntmps94
  go_wp2
  go_ret
  exact ⟨rfl, rfl⟩
 ·have E := Lib.hid (show privL c = [c] from if_neg h0)
  have n0 : c.toNat ≠ 0 := fun e => h0 (UInt8.toNat_inj.1 e)
  have t0 : ((c.toNat : Int) == 0) = false := beq_false_of_ne (by omega)
  clear h0 n0
  go_enter Tryz.func94, Tryz.ntmps94
  go_wp2
  go_ret
  exact ⟨by rw [E.out, ← char_str c h]; rfl, rfl⟩
end Go.Proofs.YtdfojkbgdoiglaaGreatDoor
