/-
  Layer 11, the laws' walks over the bundle: LegacyForms.
-/
import Derived.Test.YtbjmfhcgkpjcfaaDoorG08
import Derived.Test.YtbjmfhcgkpjcfaaDoorG14
import Derived.Test.YtbjmfhcgkpjcfaaDoorG17
import Derived.Test.YtbjmfhcgkpjcfaaDoorG18
import Derived.Test.YtbjmfhcgkpjcfaaDoorG35
import Derived.Deep.Cut
namespace Go.Proofs.YtbjmfhcgkpjcfaaDoor
open Go.RowKit

structure LegF (Inv : World → Prop) : Prop extends LegC Inv where
  take : ∀ (A : Option Addr) (n c : Nat) (l : List UInt8) (s : Sq) (m : Nat) (w : World), Inv w → takeS l = some (s, m) → l.length = n → n ≤ c → n ≤ 4294967296 → Rd w A (bs l) → Calls Tryd.prog 11 #[.slice A n c] w fun e w' => (∃ A c, e = .returned (.tuple #[sqV s A c, .int .i64 (m : Int), .int .i64 0]) ∧ RdP w' A s.params) ∧ Below w.heap.size w w'
  arg : ∀ (s : Sq) (A : Option Addr) (c : Nat) (i o v : Int) (w : World), Inv w → argL s.params i o = v → -9223372036854775808 ≤ i → i ≤ 9223372036854775807 → s.params.length ≤ 4294967296 → RdP w A s.params → Calls Tryd.prog 12 #[sqV s A c, .int .i64 i, .int .i64 o] w fun e w' => e = .returned (.int .i64 v) ∧ Below w.heap.size w w'
  form : ∀ (m : Mo) (c o : Int) (w : World), Inv w → in10 c → ((lookE c).kind = 3 ∨ (lookE c).kind = 4) → 0 ≤ o → o < 8 → Calls Tryd.prog 9 #[moV m, kyV ⟨c, o, 1, 0, 0, ByteArray.empty⟩] w (OutC (legL m ⟨c, o, 1, 0, 0, ByteArray.empty⟩) w)
variable {Inv : World → Prop}
theorem put_small {k f : Int} {l : List Int} (hk : k = 1 ∨ k = 2) (hm : mayS (sqN k f l) = 0) : (putS (sqN k f l)).length ≤ 4294967296 := by
  obtain ⟨_, _, hp, hi, _⟩ := ok_parts hm
  have hb := body_len (s := sqN k f l) hp hi
  unfold putS
  rcases hk with rfl | rfl
  · rw [if_pos (show (sqN 1 f l).kind = 1 from rfl)]
    simp only [List.length_cons, List.length_append, List.length_nil]
    omega
  · rw [if_neg (show ¬ (sqN 2 f l).kind = 1 by show ¬ (2 : Int) = 1; decide), if_pos (show (sqN 2 f l).kind = 2 from rfl)]
    simp
theorem arg_first {a d : Int} {l : List Int} (h : 0 ≤ a) : argL ((a :: l).map fun n => [n]) 0 d = a := by
  unfold argL
  rw [if_neg (by simp only [List.map_cons, List.length_cons]; omega)]
  show (if a < 0 then d else a) = a
  rw [if_neg (by omega)]
theorem arg_second {a b d : Int} {l : List Int} (h : 0 ≤ b) : argL ((a :: b :: l).map fun n => [n]) 1 d = b := by
  unfold argL
  rw [if_neg (by simp only [List.map_cons, List.length_cons]; omega)]
  show (if b < 0 then d else b) = b
  rw [if_neg (by omega)]
theorem arg_over {i d : Int} {l : List Int} (h : (l.length : Int) ≤ i) : argL (l.map fun n => [n]) i d = d := by
  unfold argL
  rw [if_pos (.inr (by rw [List.length_map]; exact h))]
theorem LegF.arg_at (H : LegF Inv) {k f i d v : Int} {l : List Int} {n : Nat} (hn : l.length = n) (hl : n ≤ 30) (f0 : 0 ≤ f) (f1 : f < 256) (A : Option Addr) (c : Nat) (w : World) (hi : Inv w) (hv : argL (l.map fun n => [n]) i d = v) (hi0 : -9223372036854775808 ≤ i) (hi1 : i ≤ 9223372036854775807) (hr : RdP w A (l.map fun n => [n])) :
    Calls Tryd.prog 12 #[.agg #[.int .i64 k, .int .u8 0, .slice A n c, .string ⟨#[]⟩, .int .u8 f, .string ⟨#[]⟩], .int .i64 i, .int .i64 d] w fun e w' => e = .returned (.int .i64 v) ∧ Below w.heap.size w w' := by
  have := H.arg (sqN k f l) A c i d v w hi hv hi0 hi1 (by show (l.map fun n => [n]).length ≤ _; rw [List.length_map]; omega) hr
  rwa [sqn_v hn f0 f1] at this
set_option maxRecDepth 100000 in
set_option maxHeartbeats 16000000 in
theorem legacyForms_n0 (H : LegF Inv) (m : Mo) (code mods cd F N C : Int) (B : Bool) (l0 : 0 ≤ code) (_l1 : code ≤ 255) (p0 : 0 ≤ mods) (_p1 : mods ≤ 255) (hcd : 57348 + code % 80 = cd) (ho : mods % 8 = 0) (hE : lookE cd = ⟨4, F, N, C, B⟩) (_F0 : 0 ≤ F) (_F1 : F < 256) (hm : mayS (sqN 1 126 [N]) = 0) (hL : legL m ⟨cd, 0, 1, 0, 0, ByteArray.empty⟩ = putS (sqN 1 126 [N])) (N0 : 1 ≤ N) (w : World) (hv : Inv w) :
    Calls Tryd.prog 4 #[moV m, .int .u8 code, .int .u8 mods] w fun e w' => e = .returned (.bool true) ∧ Below w.heap.size w w' := by
  have ic : in10 cd := ⟨by omega, by omega⟩
  have HL : Hid (∀ W, Inv W → Calls Tryd.prog 10 #[.int .i64 cd] W fun e w' => e = .returned (.agg #[.int .i64 4, .int .u8 F, .int .i64 N, .int .i64 C, .bool B]) ∧ Below W.heap.size W w') := Lib.hid fun W hW => H.toLegC.look_at W hW ic hE
  obtain ⟨L, hLL⟩ : ∃ L, putS (sqN 1 126 [N]) = L := ⟨_, rfl⟩
  obtain ⟨q, hq⟩ : ∃ q, L.length = q := ⟨_, rfl⟩
  have hq2 : q ≤ 4294967296 := by rw [← hq, ← hLL]; exact put_small (by decide) hm
  have hts : takeS L = some (sqN 1 126 [N], q) := by
    have := takeS_put hm []
    rw [List.append_nil, hLL, hq] at this
    exact this
  have HF : Hid (∀ W, Inv W → Calls Tryd.prog 9 #[moV m, kyV ⟨cd, 0, 1, 0, 0, ByteArray.empty⟩] W fun e w' => ∃ A c, e = .returned (.slice A q c) ∧ q ≤ c ∧ Rd w' A (bs L) ∧ Below W.heap.size W w') := Lib.hid fun W hW => by
    have := H.form m cd 0 W hW ic (by rw [hE]; exact .inr rfl) (by omega) (by omega)
    rw [hL, hLL] at this
    refine this.mono ?_
    rintro e w' ⟨A, c, rfl, hc, hr, hb⟩
    rw [hq] at hc
    exact ⟨A, c, by rw [hq], hc, hr, hb⟩
  have HT : Hid (∀ (A : Option Addr) (c : Nat) (W : World), Inv W → q ≤ c → Rd W A (bs L) → Calls Tryd.prog 11 #[.slice A q c] W fun e w' => (∃ A' c', e = .returned (.tuple #[.agg #[.int .i64 1, .int .u8 0, .slice A' 1 c', .string ⟨#[]⟩, .int .u8 126, .string ⟨#[]⟩], .int .i64 (q : Int), .int .i64 0]) ∧ RdP w' A' (([N] : List Int).map fun n => [n])) ∧ Below W.heap.size W w') := Lib.hid fun A c W hW hqc hr => by
    refine (H.take A q c L _ q W hW hts hq hqc hq2 hr).mono ?_
    rintro e w' ⟨⟨A', c', rfl, hr'⟩, hb⟩
    exact ⟨⟨A', c', by rw [sqn_v (n := 1) rfl (by decide) (by decide)], hr'⟩, hb⟩
  have tm1 : Int.tmod code 80 = code % 80 := Int.tmod_eq_emod_of_nonneg l0
  have tm2 : Int.tmod mods 8 = mods % 8 := Int.tmod_eq_emod_of_nonneg p0
  have w1_ : IntKind.u8.wrap (code % 80) = code % 80 := by rw [IntKind.wrap_u8]; omega
  have w2_ : IntKind.u8.wrap (mods % 8) = mods % 8 := by rw [IntKind.wrap_u8]; omega
  clear hE hm hL hLL hq hts ic
  simp only [moV, kyV] at HF ⊢
  obtain ⟨m0, m1, m2, m3, m4, m5, m6, m7, m8, m9⟩ := m
  simp only at HF
  have hB := (Below.refl w.heap.size w).alloc (Nat.le_refl _) (.cells #[.bool m0, .bool m1, .bool m2, .bool m3, .bool m4, .bool m5, .bool m6, .int .i64 m7, .int .i64 m8, .int .i64 m9] 23)
  have a0 := Blk.new w 23 #[.bool m0, .bool m1, .bool m2, .bool m3, .bool m4, .bool m5, .bool m6, .int .i64 m7, .int .i64 m8, .int .i64 m9]
  have hv0 := H.invB hv hB
  go_enter Tryd.func4, Tryd.ntmps4
  go_wp2_with fail
  refine (legAwake H.toLegC _ hv0).mono ?_
  rintro e w1 ⟨rfl, hb1⟩
  have a1 := a0.below hb1 a0.lt
  have hB1 := hB.trans (hb1.mono hB.size)
  clear hv0 a0 hB hb1
  go_upto_region 3 with (fail)
  have a2 := a1.alloc (.cells #[.int .i64 cd, .int .i64 0, .int .i64 1, .int .i64 0, .int .i64 0, .string ⟨#[]⟩] 25)
  have k2 := Blk.new w1 25 #[.int .i64 cd, .int .i64 0, .int .i64 1, .int .i64 0, .int .i64 0, .string ⟨#[]⟩]
  have hB2 := hB1.alloc hB1.size (.cells #[.int .i64 cd, .int .i64 0, .int .i64 1, .int .i64 0, .int .i64 0, .string ⟨#[]⟩] 25)
  generalize w1.alloc (.cells #[.int .i64 cd, .int .i64 0, .int .i64 1, .int .i64 0, .int .i64 0, .string ⟨#[]⟩] 25) = W2 at *
  have hv2 := H.invB hv hB2
  obtain ⟨z0, z1, z2, z3, z4, z5⟩ := Blk.cells6 k2
  go_wp2_with fail
  refine (HL.out _ hv2).mono ?_
  rintro e w3 ⟨rfl, hb3⟩
  have a3 := (a2.below hb3 a2.lt).alloc (.cells #[.int .i64 4, .int .u8 F, .int .i64 N, .int .i64 C, .bool B] 32)
  have k3 := (k2.below hb3 k2.lt).alloc (.cells #[.int .i64 4, .int .u8 F, .int .i64 N, .int .i64 C, .bool B] 32)
  have e3 := Blk.new w3 32 #[.int .i64 4, .int .u8 F, .int .i64 N, .int .i64 C, .bool B]
  have hB3 := (hB2.trans (hb3.mono hB2.size)).alloc (hB2.trans (hb3.mono hB2.size)).size (.cells #[.int .i64 4, .int .u8 F, .int .i64 N, .int .i64 C, .bool B] 32)
  clear a1 a2 k2 hB1 hB2 hb3 hv2 z0 z1 z2 z3 z4 z5
  go_upto_region 4 with (fail)
  generalize w3.alloc (.cells #[.int .i64 4, .int .u8 F, .int .i64 N, .int .i64 C, .bool B] 32) = W4 at *
  have hv4 := H.invB hv hB3
  obtain ⟨z0, z1, z2, z3, z4, z5⟩ := Blk.cells6 k3
  obtain ⟨y0, y1, y2, y3, y4⟩ := Blk.cells5 e3
  obtain ⟨x0, x1, x2, x3, x4, x5, x6, x7, x8, x9⟩ := Blk.cells10 a3
  go_wp2_with fail
  refine (HF.out _ hv4).mono ?_
  rintro e w5 ⟨A5, c5, rfl, hc5, hr5, hb5⟩
  have a5 := a3.below hb5 a3.lt
  have k5 := k3.below hb5 k3.lt
  have e5 := e3.below hb5 e3.lt
  have hB5 := hB3.trans (hb5.mono hB3.size)
  have hv5 := H.invB hv hB5
  clear a3 k3 e3 hB3 hb5 hv4 z0 z1 z2 z3 z4 z5 y0 y1 y2 y3 y4 x0 x1 x2 x3 x4 x5 x6 x7 x8 x9
  go_wp2_with fail
  refine (HT.out A5 c5 _ hv5 hc5 hr5).mono ?_
  rintro e w6 ⟨⟨A6, c6, rfl, hr6⟩, hb6⟩
  have a7 := (a5.below hb6 a5.lt).alloc (.cells #[.int .i64 1, .int .u8 0, .slice A6 1 c6, .string ⟨#[]⟩, .int .u8 126, .string ⟨#[]⟩] 36)
  have k7 := (k5.below hb6 k5.lt).alloc (.cells #[.int .i64 1, .int .u8 0, .slice A6 1 c6, .string ⟨#[]⟩, .int .u8 126, .string ⟨#[]⟩] 36)
  have e7 := (e5.below hb6 e5.lt).alloc (.cells #[.int .i64 1, .int .u8 0, .slice A6 1 c6, .string ⟨#[]⟩, .int .u8 126, .string ⟨#[]⟩] 36)
  have s7 := Blk.new w6 36 #[.int .i64 1, .int .u8 0, .slice A6 1 c6, .string ⟨#[]⟩, .int .u8 126, .string ⟨#[]⟩]
  have r7 := hr6.alloc (.cells #[.int .i64 1, .int .u8 0, .slice A6 1 c6, .string ⟨#[]⟩, .int .u8 126, .string ⟨#[]⟩] 36)
  have hB7 := (hB5.trans (hb6.mono hB5.size)).alloc (hB5.trans (hb6.mono hB5.size)).size (.cells #[.int .i64 1, .int .u8 0, .slice A6 1 c6, .string ⟨#[]⟩, .int .u8 126, .string ⟨#[]⟩] 36)
  clear a5 k5 e5 hB5 hb6 hr6 hr5 hv5
  go_upto_region 8 with (fail)
  generalize w6.alloc (.cells #[.int .i64 1, .int .u8 0, .slice A6 1 c6, .string ⟨#[]⟩, .int .u8 126, .string ⟨#[]⟩] 36) = W8 at *
  obtain ⟨y0, y1, y2, y3, y4⟩ := Blk.cells5 e7
  go_upto_region 11 with (fail)
  clear y0 y1 y2 y3 y4
  have la : ∀ W, Below W8.heap.size W8 W → Blk W w.heap.size 23 #[.bool m0, .bool m1, .bool m2, .bool m3, .bool m4, .bool m5, .bool m6, .int .i64 m7, .int .i64 m8, .int .i64 m9] := fun W hW => a7.below hW a7.lt
  have lk : ∀ W, Below W8.heap.size W8 W → Blk W w1.heap.size 25 #[.int .i64 cd, .int .i64 0, .int .i64 1, .int .i64 0, .int .i64 0, .string ⟨#[]⟩] := fun W hW => k7.below hW k7.lt
  have le : ∀ W, Below W8.heap.size W8 W → Blk W w3.heap.size 32 #[.int .i64 4, .int .u8 F, .int .i64 N, .int .i64 C, .bool B] := fun W hW => e7.below hW e7.lt
  have ls : ∀ W, Below W8.heap.size W8 W → Blk W w6.heap.size 36 #[.int .i64 1, .int .u8 0, .slice A6 1 c6, .string ⟨#[]⟩, .int .u8 126, .string ⟨#[]⟩] := fun W hW => s7.below hW s7.lt
  have lr : ∀ W, Below W8.heap.size W8 W → RdP W A6 (([N] : List Int).map fun n => [n]) := fun W hW => r7.below hW
  have hst : ∀ f ∈ ([] : List Fact), f.ok := fun _ h => by cases h
  have HV : Hid (∀ W, Below W8.heap.size W8 W → Inv W) := Lib.hid fun W hW => H.invB hv (hB7.trans (hW.mono hB7.size))
  refine wp_region_told (w1 := W8) (K := []) (ix := 1000) (R0 := fun _ _ _ => True) (R1 := fun _ _ _ => True) [] (⟨#[.agg #[.bool m0, .bool m1, .bool m2, .bool m3, .bool m4, .bool m5, .bool m6, .int .i64 m7, .int .i64 m8, .int .i64 m9], .int .u8 code, .int .u8 mods, .pointer (some ⟨w.heap.size, 0, none⟩), undef, undef, .bool true, .bool true, .pointer (some ⟨w1.heap.size, 0, none⟩), .pointer (some ⟨w3.heap.size, 0, none⟩), .slice A5 q c5, .pointer (some ⟨w6.heap.size, 0, none⟩), .int .i64 (q : Int), .int .i64 0, .bool true, .int .u8 code, .int .u8 (code % 80), .int .i64 (code % 80), .int .i64 cd, .int .u8 mods, .int .u8 0, .int .i64 0, .agg #[.int .i64 cd, .int .i64 0, .int .i64 1, .int .i64 0, .int .i64 0, .string ⟨#[]⟩], .pointer (some ⟨w1.heap.size, 0, none⟩), .int .i64 cd, .agg #[.int .i64 4, .int .u8 F, .int .i64 N, .int .i64 C, .bool B], .pointer (some ⟨w3.heap.size, 0, none⟩), .int .i64 4, .bool true, .bool true, .pointer (some ⟨w3.heap.size, 0, none⟩), .int .i64 4, .bool false, .bool false, undef, .agg #[.bool m0, .bool m1, .bool m2, .bool m3, .bool m4, .bool m5, .bool m6, .int .i64 m7, .int .i64 m8, .int .i64 m9], .agg #[.int .i64 cd, .int .i64 0, .int .i64 1, .int .i64 0, .int .i64 0, .string ⟨#[]⟩], .slice A5 q c5, .tuple #[.agg #[.int .i64 1, .int .u8 0, .slice A6 1 c6, .string ⟨#[]⟩, .int .u8 126, .string ⟨#[]⟩], .int .i64 (q : Int), .int .i64 0], .slice A5 q c5, .tuple #[.agg #[.int .i64 1, .int .u8 0, .slice A6 1 c6, .string ⟨#[]⟩, .int .u8 126, .string ⟨#[]⟩], .int .i64 (q : Int), .int .i64 0], .agg #[.int .i64 1, .int .u8 0, .slice A6 1 c6, .string ⟨#[]⟩, .int .u8 126, .string ⟨#[]⟩], .int .i64 (q : Int), .int .i64 0, .int .i64 0, .bool false, .bool false, .int .i64 (q : Int), .slice A5 q c5, .int .i64 (q : Int), .bool false, .bool false, .pointer (some ⟨w3.heap.size, 0, none⟩), .int .i64 4, .bool true, .bool true, .bool true, .pointer (some ⟨w6.heap.size, 4, none⟩), .int .u8 126, .bool true, .bool true, .bool true, .agg #[.int .i64 1, .int .u8 0, .slice A6 1 c6, .string ⟨#[]⟩, .int .u8 126, .string ⟨#[]⟩], .int .i64 N, .pointer (some ⟨w3.heap.size, 2, none⟩), .int .i64 N, .bool true, .bool true, .bool true, .agg #[.int .i64 1, .int .u8 0, .slice A6 1 c6, .string ⟨#[]⟩, .int .u8 126, .string ⟨#[]⟩], .int .i64 1, .pointer (some ⟨w1.heap.size, 1, none⟩), .int .i64 0, .int .i64 1, .bool true, .bool true, undef, undef, undef, undef, undef, undef, undef, undef, undef, undef, undef, undef, undef, undef, undef, undef, undef, undef, undef, undef, undef, undef, undef, undef, undef, undef, undef, undef, undef, undef, undef, undef, undef, undef], []⟩) (fun g => ⟨#[.agg #[.bool m0, .bool m1, .bool m2, .bool m3, .bool m4, .bool m5, .bool m6, .int .i64 m7, .int .i64 m8, .int .i64 m9], .int .u8 code, .int .u8 mods, .pointer (some ⟨w.heap.size, 0, none⟩), undef, undef, .bool true, .bool true, .pointer (some ⟨w1.heap.size, 0, none⟩), .pointer (some ⟨w3.heap.size, 0, none⟩), .slice A5 q c5, .pointer (some ⟨w6.heap.size, 0, none⟩), .int .i64 (q : Int), .int .i64 0, .bool true, .int .u8 code, .int .u8 (code % 80), .int .i64 (code % 80), .int .i64 cd, .int .u8 mods, .int .u8 0, .int .i64 0, .agg #[.int .i64 cd, .int .i64 0, .int .i64 1, .int .i64 0, .int .i64 0, .string ⟨#[]⟩], .pointer (some ⟨w1.heap.size, 0, none⟩), .int .i64 cd, .agg #[.int .i64 4, .int .u8 F, .int .i64 N, .int .i64 C, .bool B], .pointer (some ⟨w3.heap.size, 0, none⟩), .int .i64 4, .bool true, .bool true, .pointer (some ⟨w3.heap.size, 0, none⟩), .int .i64 4, .bool false, .bool false, undef, .agg #[.bool m0, .bool m1, .bool m2, .bool m3, .bool m4, .bool m5, .bool m6, .int .i64 m7, .int .i64 m8, .int .i64 m9], .agg #[.int .i64 cd, .int .i64 0, .int .i64 1, .int .i64 0, .int .i64 0, .string ⟨#[]⟩], .slice A5 q c5, .tuple #[.agg #[.int .i64 1, .int .u8 0, .slice A6 1 c6, .string ⟨#[]⟩, .int .u8 126, .string ⟨#[]⟩], .int .i64 (q : Int), .int .i64 0], .slice A5 q c5, .tuple #[.agg #[.int .i64 1, .int .u8 0, .slice A6 1 c6, .string ⟨#[]⟩, .int .u8 126, .string ⟨#[]⟩], .int .i64 (q : Int), .int .i64 0], .agg #[.int .i64 1, .int .u8 0, .slice A6 1 c6, .string ⟨#[]⟩, .int .u8 126, .string ⟨#[]⟩], .int .i64 (q : Int), .int .i64 0, .int .i64 0, .bool false, .bool false, .int .i64 (q : Int), .slice A5 q c5, .int .i64 (q : Int), .bool false, .bool false, .pointer (some ⟨w3.heap.size, 0, none⟩), .int .i64 4, .bool true, .bool true, .bool true, .pointer (some ⟨w6.heap.size, 4, none⟩), .int .u8 126, .bool true, .bool true, .bool true, .agg #[.int .i64 1, .int .u8 0, .slice A6 1 c6, .string ⟨#[]⟩, .int .u8 126, .string ⟨#[]⟩], .int .i64 N, .pointer (some ⟨w3.heap.size, 2, none⟩), .int .i64 N, .bool true, .bool true, .bool true, .agg #[.int .i64 1, .int .u8 0, .slice A6 1 c6, .string ⟨#[]⟩, .int .u8 126, .string ⟨#[]⟩], .int .i64 1, .pointer (some ⟨w1.heap.size, 1, none⟩), .int .i64 0, .int .i64 1, .bool true, .bool true, undef, undef, undef, undef, undef, undef, undef, undef, undef, undef, undef, undef, undef, undef, undef, undef, undef, undef, undef, undef, undef, undef, undef, undef, undef, undef, undef, undef, undef, undef, undef, undef, undef, undef], []⟩) [.bool true, .bool true, .pointer (some ⟨w6.heap.size, 4, none⟩), .int .u8 126, .bool true, .bool true, .bool true, .agg #[.int .i64 1, .int .u8 0, .slice A6 1 c6, .string ⟨#[]⟩, .int .u8 126, .string ⟨#[]⟩], .int .i64 N, .pointer (some ⟨w3.heap.size, 2, none⟩), .int .i64 N, .bool true, .bool true, .bool true, .agg #[.int .i64 1, .int .u8 0, .slice A6 1 c6, .string ⟨#[]⟩, .int .u8 126, .string ⟨#[]⟩], .int .i64 1, .pointer (some ⟨w1.heap.size, 1, none⟩), .int .i64 0, .int .i64 1, .bool true, .bool true, .bool true] (by kernel_rfl) (by kernel_rfl) (by kernel_rfl) (fun g => by kernel_rfl) (by kernel_rfl) (Below.refl _ _).drew (by decide) (by kernel_rfl)
    (goes_cons (goesK_pure (fun _ => .bool true) rfl (by decide) (by decide) (by kernel_rfl) (fun g => by kernel_rfl) rfl (fun g => by kernel_rfl) (fun g w => by kernel_rfl)) 
    (goes_cons (goesK_pure (fun _ => .bool true) rfl (by decide) (by decide) (by kernel_rfl) (fun g => by kernel_rfl) rfl (fun g => by kernel_rfl) (fun g w => by kernel_rfl)) 
    (goes_cons (goesK_pure (fun _ => .pointer (some ⟨w6.heap.size, 4, none⟩)) rfl (by decide) (by decide) (by kernel_rfl) (fun g => by kernel_rfl) rfl (fun g => by kernel_rfl) (fun g w => by kernel_rfl)) 
    (goes_cons (goesK_cell hst (ahead_none (by decide)) rfl (by decide) (by decide) (by kernel_rfl) (fun g => by kernel_rfl) rfl (fun g => by kernel_rfl) rfl (fun g => by kernel_rfl) (fun W hW => (ls W hW).cell 4) (fun w => by kernel_rfl)) 
    (goes_cons (goesK_bin (v := .bool true) (xv := .int .u8 126) (yv := .int .u8 126) rfl (by decide) (by decide) (by kernel_rfl) (fun g => by kernel_rfl) rfl (fun g => by kernel_rfl) rfl (fun g => by kernel_rfl) (fun g => by kernel_rfl) (fun w => by go_simp)) 
    (goes_cons (goesK_pure (fun _ => .bool true) rfl (by decide) (by decide) (by kernel_rfl) (fun g => by kernel_rfl) rfl (fun g => by kernel_rfl) (fun g w => by kernel_rfl)) 
    (goes_cons (goesK_pure (fun _ => .bool true) rfl (by decide) (by decide) (by kernel_rfl) (fun g => by kernel_rfl) rfl (fun g => by kernel_rfl) (fun g w => by kernel_rfl)) 
    (goes_cons (goesK_load hst (ahead_none (by decide)) rfl (by decide) (by decide) (by kernel_rfl) (fun g => by kernel_rfl) rfl (fun g => by kernel_rfl) rfl (fun g => by kernel_rfl) ls Tryd.underlying36 rfl (by kernel_rfl)) 
    (goes_cons (goesK_call (args := fun g => #[.agg #[.int .i64 1, .int .u8 0, .slice A6 1 c6, .string ⟨#[]⟩, .int .u8 126, .string ⟨#[]⟩], .int .i64 0, .int .i64 0]) hst (ahead_none (by decide)) rfl (by decide) (by decide) (by kernel_rfl) (fun g => by kernel_rfl) rfl (fun g => by kernel_rfl) (fun g w => by kernel_rfl) (fun g W hW hin => LegF.arg_at H (v := N) (l := [N]) (n := 1) rfl (by decide) (by decide) (by decide) A6 c6 W (HV.out W hW) (by exact arg_first (by omega)) (by decide) (by decide) (lr W hW))) 
    (goes_cons (goesK_pure (fun _ => .pointer (some ⟨w3.heap.size, 2, none⟩)) rfl (by decide) (by decide) (by kernel_rfl) (fun g => by kernel_rfl) rfl (fun g => by kernel_rfl) (fun g w => by kernel_rfl)) 
    (goes_cons (goesK_cell hst (ahead_none (by decide)) rfl (by decide) (by decide) (by kernel_rfl) (fun g => by kernel_rfl) rfl (fun g => by kernel_rfl) rfl (fun g => by kernel_rfl) (fun W hW => (le W hW).cell 2) (fun w => by kernel_rfl)) 
    (goes_cons (goesK_bin (v := .bool true) (xv := .int .i64 N) (yv := .int .i64 N) rfl (by decide) (by decide) (by kernel_rfl) (fun g => by kernel_rfl) rfl (fun g => by kernel_rfl) rfl (fun g => by kernel_rfl) (fun g => by kernel_rfl) (fun w => by go_simp)) 
    (goes_cons (goesK_pure (fun _ => .bool true) rfl (by decide) (by decide) (by kernel_rfl) (fun g => by kernel_rfl) rfl (fun g => by kernel_rfl) (fun g w => by kernel_rfl)) 
    (goes_cons (goesK_pure (fun _ => .bool true) rfl (by decide) (by decide) (by kernel_rfl) (fun g => by kernel_rfl) rfl (fun g => by kernel_rfl) (fun g w => by kernel_rfl)) 
    (goes_cons (goesK_load hst (ahead_none (by decide)) rfl (by decide) (by decide) (by kernel_rfl) (fun g => by kernel_rfl) rfl (fun g => by kernel_rfl) rfl (fun g => by kernel_rfl) ls Tryd.underlying36 rfl (by kernel_rfl)) 
    (goes_cons (goesK_call (args := fun g => #[.agg #[.int .i64 1, .int .u8 0, .slice A6 1 c6, .string ⟨#[]⟩, .int .u8 126, .string ⟨#[]⟩], .int .i64 1, .int .i64 1]) hst (ahead_none (by decide)) rfl (by decide) (by decide) (by kernel_rfl) (fun g => by kernel_rfl) rfl (fun g => by kernel_rfl) (fun g w => by kernel_rfl) (fun g W hW hin => LegF.arg_at H (v := 1) (l := [N]) (n := 1) rfl (by decide) (by decide) (by decide) A6 c6 W (HV.out W hW) (by exact arg_over (by simp)) (by decide) (by decide) (lr W hW))) 
    (goes_cons (goesK_pure (fun _ => .pointer (some ⟨w1.heap.size, 1, none⟩)) rfl (by decide) (by decide) (by kernel_rfl) (fun g => by kernel_rfl) rfl (fun g => by kernel_rfl) (fun g w => by kernel_rfl)) 
    (goes_cons (goesK_cell hst (ahead_none (by decide)) rfl (by decide) (by decide) (by kernel_rfl) (fun g => by kernel_rfl) rfl (fun g => by kernel_rfl) rfl (fun g => by kernel_rfl) (fun W hW => (lk W hW).cell 1) (fun w => by kernel_rfl)) 
    (goes_cons (goesK_bin (v := .int .i64 1) (xv := .int .i64 1) (yv := .int .i64 0) rfl (by decide) (by decide) (by kernel_rfl) (fun g => by kernel_rfl) rfl (fun g => by kernel_rfl) rfl (fun g => by kernel_rfl) (fun g => by kernel_rfl) (fun w => by kernel_rfl)) 
    (goes_cons (goesK_bin (v := .bool true) (xv := .int .i64 1) (yv := .int .i64 1) rfl (by decide) (by decide) (by kernel_rfl) (fun g => by kernel_rfl) rfl (fun g => by kernel_rfl) rfl (fun g => by kernel_rfl) (fun g => by kernel_rfl) (fun w => by go_simp)) 
    (goes_cons (goesK_pure (fun _ => .bool true) rfl (by decide) (by decide) (by kernel_rfl) (fun g => by kernel_rfl) rfl (fun g => by kernel_rfl) (fun g w => by kernel_rfl)) 
    (goes_cons (goesK_pure (fun _ => .bool true) rfl (by decide) (by decide) (by kernel_rfl) (fun g => by kernel_rfl) rfl (fun g => by kernel_rfl) (fun g w => by kernel_rfl)) goes_nil)))))))))))))))))))))) ?_
  intro g W hW _
  go_wp2_with fail
  go_ret
  exact ⟨rfl, hB7.trans (hW.mono hB7.size)⟩
set_option maxRecDepth 100000 in
set_option maxHeartbeats 16000000 in
theorem legacyForms_n1 (H : LegF Inv) (m : Mo) (code mods cd o F N C : Int) (B : Bool) (l0 : 0 ≤ code) (_l1 : code ≤ 255) (p0 : 0 ≤ mods) (_p1 : mods ≤ 255) (hcd : 57348 + code % 80 = cd) (ho : mods % 8 = o) (hE : lookE cd = ⟨4, F, N, C, B⟩) (_F0 : 0 ≤ F) (_F1 : F < 256) (hm : mayS (sqN 1 126 [N, 1 + o]) = 0) (hL : legL m ⟨cd, o, 1, 0, 0, ByteArray.empty⟩ = putS (sqN 1 126 [N, 1 + o])) (N0 : 1 ≤ N) (oz : 0 < o) (w : World) (hv : Inv w) :
    Calls Tryd.prog 4 #[moV m, .int .u8 code, .int .u8 mods] w fun e w' => e = .returned (.bool true) ∧ Below w.heap.size w w' := by
  have ic : in10 cd := ⟨by omega, by omega⟩
  have HL : Hid (∀ W, Inv W → Calls Tryd.prog 10 #[.int .i64 cd] W fun e w' => e = .returned (.agg #[.int .i64 4, .int .u8 F, .int .i64 N, .int .i64 C, .bool B]) ∧ Below W.heap.size W w') := Lib.hid fun W hW => H.toLegC.look_at W hW ic hE
  obtain ⟨L, hLL⟩ : ∃ L, putS (sqN 1 126 [N, 1 + o]) = L := ⟨_, rfl⟩
  obtain ⟨q, hq⟩ : ∃ q, L.length = q := ⟨_, rfl⟩
  have hq2 : q ≤ 4294967296 := by rw [← hq, ← hLL]; exact put_small (by decide) hm
  have hts : takeS L = some (sqN 1 126 [N, 1 + o], q) := by
    have := takeS_put hm []
    rw [List.append_nil, hLL, hq] at this
    exact this
  have HF : Hid (∀ W, Inv W → Calls Tryd.prog 9 #[moV m, kyV ⟨cd, o, 1, 0, 0, ByteArray.empty⟩] W fun e w' => ∃ A c, e = .returned (.slice A q c) ∧ q ≤ c ∧ Rd w' A (bs L) ∧ Below W.heap.size W w') := Lib.hid fun W hW => by
    have := H.form m cd o W hW ic (by rw [hE]; exact .inr rfl) (by omega) (by omega)
    rw [hL, hLL] at this
    refine this.mono ?_
    rintro e w' ⟨A, c, rfl, hc, hr, hb⟩
    rw [hq] at hc
    exact ⟨A, c, by rw [hq], hc, hr, hb⟩
  have HT : Hid (∀ (A : Option Addr) (c : Nat) (W : World), Inv W → q ≤ c → Rd W A (bs L) → Calls Tryd.prog 11 #[.slice A q c] W fun e w' => (∃ A' c', e = .returned (.tuple #[.agg #[.int .i64 1, .int .u8 0, .slice A' 2 c', .string ⟨#[]⟩, .int .u8 126, .string ⟨#[]⟩], .int .i64 (q : Int), .int .i64 0]) ∧ RdP w' A' (([N, 1 + o] : List Int).map fun n => [n])) ∧ Below W.heap.size W w') := Lib.hid fun A c W hW hqc hr => by
    refine (H.take A q c L _ q W hW hts hq hqc hq2 hr).mono ?_
    rintro e w' ⟨⟨A', c', rfl, hr'⟩, hb⟩
    exact ⟨⟨A', c', by rw [sqn_v (n := 2) rfl (by decide) (by decide)], hr'⟩, hb⟩
  have tm1 : Int.tmod code 80 = code % 80 := Int.tmod_eq_emod_of_nonneg l0
  have tm2 : Int.tmod mods 8 = mods % 8 := Int.tmod_eq_emod_of_nonneg p0
  have w1_ : IntKind.u8.wrap (code % 80) = code % 80 := by rw [IntKind.wrap_u8]; omega
  have w2_ : IntKind.u8.wrap (mods % 8) = mods % 8 := by rw [IntKind.wrap_u8]; omega
  have o0 : 0 ≤ o ∧ o < 8 := by omega
  clear hE hm hL hLL hq hts ic
  simp only [moV, kyV] at HF ⊢
  obtain ⟨m0, m1, m2, m3, m4, m5, m6, m7, m8, m9⟩ := m
  simp only at HF
  have hB := (Below.refl w.heap.size w).alloc (Nat.le_refl _) (.cells #[.bool m0, .bool m1, .bool m2, .bool m3, .bool m4, .bool m5, .bool m6, .int .i64 m7, .int .i64 m8, .int .i64 m9] 23)
  have a0 := Blk.new w 23 #[.bool m0, .bool m1, .bool m2, .bool m3, .bool m4, .bool m5, .bool m6, .int .i64 m7, .int .i64 m8, .int .i64 m9]
  have hv0 := H.invB hv hB
  go_enter Tryd.func4, Tryd.ntmps4
  go_wp2_with fail
  refine (legAwake H.toLegC _ hv0).mono ?_
  rintro e w1 ⟨rfl, hb1⟩
  have a1 := a0.below hb1 a0.lt
  have hB1 := hB.trans (hb1.mono hB.size)
  clear hv0 a0 hB hb1
  go_upto_region 3 with (fail)
  have a2 := a1.alloc (.cells #[.int .i64 cd, .int .i64 o, .int .i64 1, .int .i64 0, .int .i64 0, .string ⟨#[]⟩] 25)
  have k2 := Blk.new w1 25 #[.int .i64 cd, .int .i64 o, .int .i64 1, .int .i64 0, .int .i64 0, .string ⟨#[]⟩]
  have hB2 := hB1.alloc hB1.size (.cells #[.int .i64 cd, .int .i64 o, .int .i64 1, .int .i64 0, .int .i64 0, .string ⟨#[]⟩] 25)
  generalize w1.alloc (.cells #[.int .i64 cd, .int .i64 o, .int .i64 1, .int .i64 0, .int .i64 0, .string ⟨#[]⟩] 25) = W2 at *
  have hv2 := H.invB hv hB2
  obtain ⟨z0, z1, z2, z3, z4, z5⟩ := Blk.cells6 k2
  go_wp2_with fail
  refine (HL.out _ hv2).mono ?_
  rintro e w3 ⟨rfl, hb3⟩
  have a3 := (a2.below hb3 a2.lt).alloc (.cells #[.int .i64 4, .int .u8 F, .int .i64 N, .int .i64 C, .bool B] 32)
  have k3 := (k2.below hb3 k2.lt).alloc (.cells #[.int .i64 4, .int .u8 F, .int .i64 N, .int .i64 C, .bool B] 32)
  have e3 := Blk.new w3 32 #[.int .i64 4, .int .u8 F, .int .i64 N, .int .i64 C, .bool B]
  have hB3 := (hB2.trans (hb3.mono hB2.size)).alloc (hB2.trans (hb3.mono hB2.size)).size (.cells #[.int .i64 4, .int .u8 F, .int .i64 N, .int .i64 C, .bool B] 32)
  clear a1 a2 k2 hB1 hB2 hb3 hv2 z0 z1 z2 z3 z4 z5
  go_upto_region 4 with (fail)
  generalize w3.alloc (.cells #[.int .i64 4, .int .u8 F, .int .i64 N, .int .i64 C, .bool B] 32) = W4 at *
  have hv4 := H.invB hv hB3
  obtain ⟨z0, z1, z2, z3, z4, z5⟩ := Blk.cells6 k3
  obtain ⟨y0, y1, y2, y3, y4⟩ := Blk.cells5 e3
  obtain ⟨x0, x1, x2, x3, x4, x5, x6, x7, x8, x9⟩ := Blk.cells10 a3
  go_wp2_with fail
  refine (HF.out _ hv4).mono ?_
  rintro e w5 ⟨A5, c5, rfl, hc5, hr5, hb5⟩
  have a5 := a3.below hb5 a3.lt
  have k5 := k3.below hb5 k3.lt
  have e5 := e3.below hb5 e3.lt
  have hB5 := hB3.trans (hb5.mono hB3.size)
  have hv5 := H.invB hv hB5
  clear a3 k3 e3 hB3 hb5 hv4 z0 z1 z2 z3 z4 z5 y0 y1 y2 y3 y4 x0 x1 x2 x3 x4 x5 x6 x7 x8 x9
  go_wp2_with fail
  refine (HT.out A5 c5 _ hv5 hc5 hr5).mono ?_
  rintro e w6 ⟨⟨A6, c6, rfl, hr6⟩, hb6⟩
  have a7 := (a5.below hb6 a5.lt).alloc (.cells #[.int .i64 1, .int .u8 0, .slice A6 2 c6, .string ⟨#[]⟩, .int .u8 126, .string ⟨#[]⟩] 36)
  have k7 := (k5.below hb6 k5.lt).alloc (.cells #[.int .i64 1, .int .u8 0, .slice A6 2 c6, .string ⟨#[]⟩, .int .u8 126, .string ⟨#[]⟩] 36)
  have e7 := (e5.below hb6 e5.lt).alloc (.cells #[.int .i64 1, .int .u8 0, .slice A6 2 c6, .string ⟨#[]⟩, .int .u8 126, .string ⟨#[]⟩] 36)
  have s7 := Blk.new w6 36 #[.int .i64 1, .int .u8 0, .slice A6 2 c6, .string ⟨#[]⟩, .int .u8 126, .string ⟨#[]⟩]
  have r7 := hr6.alloc (.cells #[.int .i64 1, .int .u8 0, .slice A6 2 c6, .string ⟨#[]⟩, .int .u8 126, .string ⟨#[]⟩] 36)
  have hB7 := (hB5.trans (hb6.mono hB5.size)).alloc (hB5.trans (hb6.mono hB5.size)).size (.cells #[.int .i64 1, .int .u8 0, .slice A6 2 c6, .string ⟨#[]⟩, .int .u8 126, .string ⟨#[]⟩] 36)
  clear a5 k5 e5 hB5 hb6 hr6 hr5 hv5
  go_upto_region 8 with (fail)
  generalize w6.alloc (.cells #[.int .i64 1, .int .u8 0, .slice A6 2 c6, .string ⟨#[]⟩, .int .u8 126, .string ⟨#[]⟩] 36) = W8 at *
  obtain ⟨y0, y1, y2, y3, y4⟩ := Blk.cells5 e7
  go_upto_region 11 with (fail)
  clear y0 y1 y2 y3 y4
  have la : ∀ W, Below W8.heap.size W8 W → Blk W w.heap.size 23 #[.bool m0, .bool m1, .bool m2, .bool m3, .bool m4, .bool m5, .bool m6, .int .i64 m7, .int .i64 m8, .int .i64 m9] := fun W hW => a7.below hW a7.lt
  have lk : ∀ W, Below W8.heap.size W8 W → Blk W w1.heap.size 25 #[.int .i64 cd, .int .i64 o, .int .i64 1, .int .i64 0, .int .i64 0, .string ⟨#[]⟩] := fun W hW => k7.below hW k7.lt
  have le : ∀ W, Below W8.heap.size W8 W → Blk W w3.heap.size 32 #[.int .i64 4, .int .u8 F, .int .i64 N, .int .i64 C, .bool B] := fun W hW => e7.below hW e7.lt
  have ls : ∀ W, Below W8.heap.size W8 W → Blk W w6.heap.size 36 #[.int .i64 1, .int .u8 0, .slice A6 2 c6, .string ⟨#[]⟩, .int .u8 126, .string ⟨#[]⟩] := fun W hW => s7.below hW s7.lt
  have lr : ∀ W, Below W8.heap.size W8 W → RdP W A6 (([N, 1 + o] : List Int).map fun n => [n]) := fun W hW => r7.below hW
  have hst : ∀ f ∈ ([] : List Fact), f.ok := fun _ h => by cases h
  have HV : Hid (∀ W, Below W8.heap.size W8 W → Inv W) := Lib.hid fun W hW => H.invB hv (hB7.trans (hW.mono hB7.size))
  refine wp_region_told (w1 := W8) (K := []) (ix := 1000) (R0 := fun _ _ _ => True) (R1 := fun _ _ _ => True) [] (⟨#[.agg #[.bool m0, .bool m1, .bool m2, .bool m3, .bool m4, .bool m5, .bool m6, .int .i64 m7, .int .i64 m8, .int .i64 m9], .int .u8 code, .int .u8 mods, .pointer (some ⟨w.heap.size, 0, none⟩), undef, undef, .bool true, .bool true, .pointer (some ⟨w1.heap.size, 0, none⟩), .pointer (some ⟨w3.heap.size, 0, none⟩), .slice A5 q c5, .pointer (some ⟨w6.heap.size, 0, none⟩), .int .i64 (q : Int), .int .i64 0, .bool true, .int .u8 code, .int .u8 (code % 80), .int .i64 (code % 80), .int .i64 cd, .int .u8 mods, .int .u8 o, .int .i64 o, .agg #[.int .i64 cd, .int .i64 o, .int .i64 1, .int .i64 0, .int .i64 0, .string ⟨#[]⟩], .pointer (some ⟨w1.heap.size, 0, none⟩), .int .i64 cd, .agg #[.int .i64 4, .int .u8 F, .int .i64 N, .int .i64 C, .bool B], .pointer (some ⟨w3.heap.size, 0, none⟩), .int .i64 4, .bool true, .bool true, .pointer (some ⟨w3.heap.size, 0, none⟩), .int .i64 4, .bool false, .bool false, undef, .agg #[.bool m0, .bool m1, .bool m2, .bool m3, .bool m4, .bool m5, .bool m6, .int .i64 m7, .int .i64 m8, .int .i64 m9], .agg #[.int .i64 cd, .int .i64 o, .int .i64 1, .int .i64 0, .int .i64 0, .string ⟨#[]⟩], .slice A5 q c5, .tuple #[.agg #[.int .i64 1, .int .u8 0, .slice A6 2 c6, .string ⟨#[]⟩, .int .u8 126, .string ⟨#[]⟩], .int .i64 (q : Int), .int .i64 0], .slice A5 q c5, .tuple #[.agg #[.int .i64 1, .int .u8 0, .slice A6 2 c6, .string ⟨#[]⟩, .int .u8 126, .string ⟨#[]⟩], .int .i64 (q : Int), .int .i64 0], .agg #[.int .i64 1, .int .u8 0, .slice A6 2 c6, .string ⟨#[]⟩, .int .u8 126, .string ⟨#[]⟩], .int .i64 (q : Int), .int .i64 0, .int .i64 0, .bool false, .bool false, .int .i64 (q : Int), .slice A5 q c5, .int .i64 (q : Int), .bool false, .bool false, .pointer (some ⟨w3.heap.size, 0, none⟩), .int .i64 4, .bool true, .bool true, .bool true, .pointer (some ⟨w6.heap.size, 4, none⟩), .int .u8 126, .bool true, .bool true, .bool true, .agg #[.int .i64 1, .int .u8 0, .slice A6 2 c6, .string ⟨#[]⟩, .int .u8 126, .string ⟨#[]⟩], .int .i64 N, .pointer (some ⟨w3.heap.size, 2, none⟩), .int .i64 N, .bool true, .bool true, .bool true, .agg #[.int .i64 1, .int .u8 0, .slice A6 2 c6, .string ⟨#[]⟩, .int .u8 126, .string ⟨#[]⟩], .int .i64 (1 + o), .pointer (some ⟨w1.heap.size, 1, none⟩), .int .i64 o, .int .i64 (1 + o), .bool true, .bool true, undef, undef, undef, undef, undef, undef, undef, undef, undef, undef, undef, undef, undef, undef, undef, undef, undef, undef, undef, undef, undef, undef, undef, undef, undef, undef, undef, undef, undef, undef, undef, undef, undef, undef], []⟩) (fun g => ⟨#[.agg #[.bool m0, .bool m1, .bool m2, .bool m3, .bool m4, .bool m5, .bool m6, .int .i64 m7, .int .i64 m8, .int .i64 m9], .int .u8 code, .int .u8 mods, .pointer (some ⟨w.heap.size, 0, none⟩), undef, undef, .bool true, .bool true, .pointer (some ⟨w1.heap.size, 0, none⟩), .pointer (some ⟨w3.heap.size, 0, none⟩), .slice A5 q c5, .pointer (some ⟨w6.heap.size, 0, none⟩), .int .i64 (q : Int), .int .i64 0, .bool true, .int .u8 code, .int .u8 (code % 80), .int .i64 (code % 80), .int .i64 cd, .int .u8 mods, .int .u8 o, .int .i64 o, .agg #[.int .i64 cd, .int .i64 o, .int .i64 1, .int .i64 0, .int .i64 0, .string ⟨#[]⟩], .pointer (some ⟨w1.heap.size, 0, none⟩), .int .i64 cd, .agg #[.int .i64 4, .int .u8 F, .int .i64 N, .int .i64 C, .bool B], .pointer (some ⟨w3.heap.size, 0, none⟩), .int .i64 4, .bool true, .bool true, .pointer (some ⟨w3.heap.size, 0, none⟩), .int .i64 4, .bool false, .bool false, undef, .agg #[.bool m0, .bool m1, .bool m2, .bool m3, .bool m4, .bool m5, .bool m6, .int .i64 m7, .int .i64 m8, .int .i64 m9], .agg #[.int .i64 cd, .int .i64 o, .int .i64 1, .int .i64 0, .int .i64 0, .string ⟨#[]⟩], .slice A5 q c5, .tuple #[.agg #[.int .i64 1, .int .u8 0, .slice A6 2 c6, .string ⟨#[]⟩, .int .u8 126, .string ⟨#[]⟩], .int .i64 (q : Int), .int .i64 0], .slice A5 q c5, .tuple #[.agg #[.int .i64 1, .int .u8 0, .slice A6 2 c6, .string ⟨#[]⟩, .int .u8 126, .string ⟨#[]⟩], .int .i64 (q : Int), .int .i64 0], .agg #[.int .i64 1, .int .u8 0, .slice A6 2 c6, .string ⟨#[]⟩, .int .u8 126, .string ⟨#[]⟩], .int .i64 (q : Int), .int .i64 0, .int .i64 0, .bool false, .bool false, .int .i64 (q : Int), .slice A5 q c5, .int .i64 (q : Int), .bool false, .bool false, .pointer (some ⟨w3.heap.size, 0, none⟩), .int .i64 4, .bool true, .bool true, .bool true, .pointer (some ⟨w6.heap.size, 4, none⟩), .int .u8 126, .bool true, .bool true, .bool true, .agg #[.int .i64 1, .int .u8 0, .slice A6 2 c6, .string ⟨#[]⟩, .int .u8 126, .string ⟨#[]⟩], .int .i64 N, .pointer (some ⟨w3.heap.size, 2, none⟩), .int .i64 N, .bool true, .bool true, .bool true, .agg #[.int .i64 1, .int .u8 0, .slice A6 2 c6, .string ⟨#[]⟩, .int .u8 126, .string ⟨#[]⟩], .int .i64 (1 + o), .pointer (some ⟨w1.heap.size, 1, none⟩), .int .i64 o, .int .i64 (1 + o), .bool true, .bool true, undef, undef, undef, undef, undef, undef, undef, undef, undef, undef, undef, undef, undef, undef, undef, undef, undef, undef, undef, undef, undef, undef, undef, undef, undef, undef, undef, undef, undef, undef, undef, undef, undef, undef], []⟩) [.bool true, .bool true, .pointer (some ⟨w6.heap.size, 4, none⟩), .int .u8 126, .bool true, .bool true, .bool true, .agg #[.int .i64 1, .int .u8 0, .slice A6 2 c6, .string ⟨#[]⟩, .int .u8 126, .string ⟨#[]⟩], .int .i64 N, .pointer (some ⟨w3.heap.size, 2, none⟩), .int .i64 N, .bool true, .bool true, .bool true, .agg #[.int .i64 1, .int .u8 0, .slice A6 2 c6, .string ⟨#[]⟩, .int .u8 126, .string ⟨#[]⟩], .int .i64 (1 + o), .pointer (some ⟨w1.heap.size, 1, none⟩), .int .i64 o, .int .i64 (1 + o), .bool true, .bool true, .bool true] (by kernel_rfl) (by kernel_rfl) (by kernel_rfl) (fun g => by kernel_rfl) (by kernel_rfl) (Below.refl _ _).drew (by decide) (by kernel_rfl)
    (goes_cons (goesK_pure (fun _ => .bool true) rfl (by decide) (by decide) (by kernel_rfl) (fun g => by kernel_rfl) rfl (fun g => by kernel_rfl) (fun g w => by kernel_rfl)) 
    (goes_cons (goesK_pure (fun _ => .bool true) rfl (by decide) (by decide) (by kernel_rfl) (fun g => by kernel_rfl) rfl (fun g => by kernel_rfl) (fun g w => by kernel_rfl)) 
    (goes_cons (goesK_pure (fun _ => .pointer (some ⟨w6.heap.size, 4, none⟩)) rfl (by decide) (by decide) (by kernel_rfl) (fun g => by kernel_rfl) rfl (fun g => by kernel_rfl) (fun g w => by kernel_rfl)) 
    (goes_cons (goesK_cell hst (ahead_none (by decide)) rfl (by decide) (by decide) (by kernel_rfl) (fun g => by kernel_rfl) rfl (fun g => by kernel_rfl) rfl (fun g => by kernel_rfl) (fun W hW => (ls W hW).cell 4) (fun w => by kernel_rfl)) 
    (goes_cons (goesK_bin (v := .bool true) (xv := .int .u8 126) (yv := .int .u8 126) rfl (by decide) (by decide) (by kernel_rfl) (fun g => by kernel_rfl) rfl (fun g => by kernel_rfl) rfl (fun g => by kernel_rfl) (fun g => by kernel_rfl) (fun w => by go_simp)) 
    (goes_cons (goesK_pure (fun _ => .bool true) rfl (by decide) (by decide) (by kernel_rfl) (fun g => by kernel_rfl) rfl (fun g => by kernel_rfl) (fun g w => by kernel_rfl)) 
    (goes_cons (goesK_pure (fun _ => .bool true) rfl (by decide) (by decide) (by kernel_rfl) (fun g => by kernel_rfl) rfl (fun g => by kernel_rfl) (fun g w => by kernel_rfl)) 
    (goes_cons (goesK_load hst (ahead_none (by decide)) rfl (by decide) (by decide) (by kernel_rfl) (fun g => by kernel_rfl) rfl (fun g => by kernel_rfl) rfl (fun g => by kernel_rfl) ls Tryd.underlying36 rfl (by kernel_rfl)) 
    (goes_cons (goesK_call (args := fun g => #[.agg #[.int .i64 1, .int .u8 0, .slice A6 2 c6, .string ⟨#[]⟩, .int .u8 126, .string ⟨#[]⟩], .int .i64 0, .int .i64 0]) hst (ahead_none (by decide)) rfl (by decide) (by decide) (by kernel_rfl) (fun g => by kernel_rfl) rfl (fun g => by kernel_rfl) (fun g w => by kernel_rfl) (fun g W hW hin => LegF.arg_at H (v := N) (l := [N, 1 + o]) (n := 2) rfl (by decide) (by decide) (by decide) A6 c6 W (HV.out W hW) (by exact arg_first (by omega)) (by decide) (by decide) (lr W hW))) 
    (goes_cons (goesK_pure (fun _ => .pointer (some ⟨w3.heap.size, 2, none⟩)) rfl (by decide) (by decide) (by kernel_rfl) (fun g => by kernel_rfl) rfl (fun g => by kernel_rfl) (fun g w => by kernel_rfl)) 
    (goes_cons (goesK_cell hst (ahead_none (by decide)) rfl (by decide) (by decide) (by kernel_rfl) (fun g => by kernel_rfl) rfl (fun g => by kernel_rfl) rfl (fun g => by kernel_rfl) (fun W hW => (le W hW).cell 2) (fun w => by kernel_rfl)) 
    (goes_cons (goesK_bin (v := .bool true) (xv := .int .i64 N) (yv := .int .i64 N) rfl (by decide) (by decide) (by kernel_rfl) (fun g => by kernel_rfl) rfl (fun g => by kernel_rfl) rfl (fun g => by kernel_rfl) (fun g => by kernel_rfl) (fun w => by go_simp)) 
    (goes_cons (goesK_pure (fun _ => .bool true) rfl (by decide) (by decide) (by kernel_rfl) (fun g => by kernel_rfl) rfl (fun g => by kernel_rfl) (fun g w => by kernel_rfl)) 
    (goes_cons (goesK_pure (fun _ => .bool true) rfl (by decide) (by decide) (by kernel_rfl) (fun g => by kernel_rfl) rfl (fun g => by kernel_rfl) (fun g w => by kernel_rfl)) 
    (goes_cons (goesK_load hst (ahead_none (by decide)) rfl (by decide) (by decide) (by kernel_rfl) (fun g => by kernel_rfl) rfl (fun g => by kernel_rfl) rfl (fun g => by kernel_rfl) ls Tryd.underlying36 rfl (by kernel_rfl)) 
    (goes_cons (goesK_call (args := fun g => #[.agg #[.int .i64 1, .int .u8 0, .slice A6 2 c6, .string ⟨#[]⟩, .int .u8 126, .string ⟨#[]⟩], .int .i64 1, .int .i64 1]) hst (ahead_none (by decide)) rfl (by decide) (by decide) (by kernel_rfl) (fun g => by kernel_rfl) rfl (fun g => by kernel_rfl) (fun g w => by kernel_rfl) (fun g W hW hin => LegF.arg_at H (v := (1 + o)) (l := [N, 1 + o]) (n := 2) rfl (by decide) (by decide) (by decide) A6 c6 W (HV.out W hW) (by exact arg_second (by omega)) (by decide) (by decide) (lr W hW))) 
    (goes_cons (goesK_pure (fun _ => .pointer (some ⟨w1.heap.size, 1, none⟩)) rfl (by decide) (by decide) (by kernel_rfl) (fun g => by kernel_rfl) rfl (fun g => by kernel_rfl) (fun g w => by kernel_rfl)) 
    (goes_cons (goesK_cell hst (ahead_none (by decide)) rfl (by decide) (by decide) (by kernel_rfl) (fun g => by kernel_rfl) rfl (fun g => by kernel_rfl) rfl (fun g => by kernel_rfl) (fun W hW => (lk W hW).cell 1) (fun w => by kernel_rfl)) 
    (goes_cons (goesK_bin (v := .int .i64 (1 + o)) (xv := .int .i64 1) (yv := .int .i64 o) rfl (by decide) (by decide) (by kernel_rfl) (fun g => by kernel_rfl) rfl (fun g => by kernel_rfl) rfl (fun g => by kernel_rfl) (fun g => by kernel_rfl) (fun w => by have e := IntWalk.i64_in (1 + o) ⟨by omega, by omega⟩; go_simp)) 
    (goes_cons (goesK_bin (v := .bool true) (xv := .int .i64 (1 + o)) (yv := .int .i64 (1 + o)) rfl (by decide) (by decide) (by kernel_rfl) (fun g => by kernel_rfl) rfl (fun g => by kernel_rfl) rfl (fun g => by kernel_rfl) (fun g => by kernel_rfl) (fun w => by go_simp)) 
    (goes_cons (goesK_pure (fun _ => .bool true) rfl (by decide) (by decide) (by kernel_rfl) (fun g => by kernel_rfl) rfl (fun g => by kernel_rfl) (fun g w => by kernel_rfl)) 
    (goes_cons (goesK_pure (fun _ => .bool true) rfl (by decide) (by decide) (by kernel_rfl) (fun g => by kernel_rfl) rfl (fun g => by kernel_rfl) (fun g w => by kernel_rfl)) goes_nil)))))))))))))))))))))) ?_
  intro g W hW _
  go_wp2_with fail
  go_ret
  exact ⟨rfl, hB7.trans (hW.mono hB7.size)⟩
set_option maxRecDepth 100000 in
set_option maxHeartbeats 16000000 in
theorem legacyForms_l1 (H : LegF Inv) (m : Mo) (code mods cd o F N C : Int) (B : Bool) (l0 : 0 ≤ code) (_l1 : code ≤ 255) (p0 : 0 ≤ mods) (_p1 : mods ≤ 255) (hcd : 57348 + code % 80 = cd) (ho : mods % 8 = o) (hE : lookE cd = ⟨3, F, N, C, B⟩) (F0 : 0 ≤ F) (F1 : F < 256) (hm : mayS (sqN 1 F [1, 1 + o]) = 0) (hL : legL m ⟨cd, o, 1, 0, 0, ByteArray.empty⟩ = putS (sqN 1 F [1, 1 + o])) (oz : 0 < o) (w : World) (hv : Inv w) :
    Calls Tryd.prog 4 #[moV m, .int .u8 code, .int .u8 mods] w fun e w' => e = .returned (.bool true) ∧ Below w.heap.size w w' := by
  have ic : in10 cd := ⟨by omega, by omega⟩
  have HL : Hid (∀ W, Inv W → Calls Tryd.prog 10 #[.int .i64 cd] W fun e w' => e = .returned (.agg #[.int .i64 3, .int .u8 F, .int .i64 N, .int .i64 C, .bool B]) ∧ Below W.heap.size W w') := Lib.hid fun W hW => H.toLegC.look_at W hW ic hE
  obtain ⟨L, hLL⟩ : ∃ L, putS (sqN 1 F [1, 1 + o]) = L := ⟨_, rfl⟩
  obtain ⟨q, hq⟩ : ∃ q, L.length = q := ⟨_, rfl⟩
  have hq2 : q ≤ 4294967296 := by rw [← hq, ← hLL]; exact put_small (by decide) hm
  have hts : takeS L = some (sqN 1 F [1, 1 + o], q) := by
    have := takeS_put hm []
    rw [List.append_nil, hLL, hq] at this
    exact this
  have HF : Hid (∀ W, Inv W → Calls Tryd.prog 9 #[moV m, kyV ⟨cd, o, 1, 0, 0, ByteArray.empty⟩] W fun e w' => ∃ A c, e = .returned (.slice A q c) ∧ q ≤ c ∧ Rd w' A (bs L) ∧ Below W.heap.size W w') := Lib.hid fun W hW => by
    have := H.form m cd o W hW ic (by rw [hE]; exact .inl rfl) (by omega) (by omega)
    rw [hL, hLL] at this
    refine this.mono ?_
    rintro e w' ⟨A, c, rfl, hc, hr, hb⟩
    rw [hq] at hc
    exact ⟨A, c, by rw [hq], hc, hr, hb⟩
  have HT : Hid (∀ (A : Option Addr) (c : Nat) (W : World), Inv W → q ≤ c → Rd W A (bs L) → Calls Tryd.prog 11 #[.slice A q c] W fun e w' => (∃ A' c', e = .returned (.tuple #[.agg #[.int .i64 1, .int .u8 0, .slice A' 2 c', .string ⟨#[]⟩, .int .u8 F, .string ⟨#[]⟩], .int .i64 (q : Int), .int .i64 0]) ∧ RdP w' A' (([1, 1 + o] : List Int).map fun n => [n])) ∧ Below W.heap.size W w') := Lib.hid fun A c W hW hqc hr => by
    refine (H.take A q c L _ q W hW hts hq hqc hq2 hr).mono ?_
    rintro e w' ⟨⟨A', c', rfl, hr'⟩, hb⟩
    exact ⟨⟨A', c', by rw [sqn_v (n := 2) rfl F0 F1], hr'⟩, hb⟩
  have tm1 : Int.tmod code 80 = code % 80 := Int.tmod_eq_emod_of_nonneg l0
  have tm2 : Int.tmod mods 8 = mods % 8 := Int.tmod_eq_emod_of_nonneg p0
  have w1_ : IntKind.u8.wrap (code % 80) = code % 80 := by rw [IntKind.wrap_u8]; omega
  have w2_ : IntKind.u8.wrap (mods % 8) = mods % 8 := by rw [IntKind.wrap_u8]; omega
  have o0 : 0 ≤ o ∧ o < 8 := by omega
  clear hE hm hL hLL hq hts ic
  simp only [moV, kyV] at HF ⊢
  obtain ⟨m0, m1, m2, m3, m4, m5, m6, m7, m8, m9⟩ := m
  simp only at HF
  have hB := (Below.refl w.heap.size w).alloc (Nat.le_refl _) (.cells #[.bool m0, .bool m1, .bool m2, .bool m3, .bool m4, .bool m5, .bool m6, .int .i64 m7, .int .i64 m8, .int .i64 m9] 23)
  have a0 := Blk.new w 23 #[.bool m0, .bool m1, .bool m2, .bool m3, .bool m4, .bool m5, .bool m6, .int .i64 m7, .int .i64 m8, .int .i64 m9]
  have hv0 := H.invB hv hB
  go_enter Tryd.func4, Tryd.ntmps4
  go_wp2_with fail
  refine (legAwake H.toLegC _ hv0).mono ?_
  rintro e w1 ⟨rfl, hb1⟩
  have a1 := a0.below hb1 a0.lt
  have hB1 := hB.trans (hb1.mono hB.size)
  clear hv0 a0 hB hb1
  go_upto_region 3 with (fail)
  have a2 := a1.alloc (.cells #[.int .i64 cd, .int .i64 o, .int .i64 1, .int .i64 0, .int .i64 0, .string ⟨#[]⟩] 25)
  have k2 := Blk.new w1 25 #[.int .i64 cd, .int .i64 o, .int .i64 1, .int .i64 0, .int .i64 0, .string ⟨#[]⟩]
  have hB2 := hB1.alloc hB1.size (.cells #[.int .i64 cd, .int .i64 o, .int .i64 1, .int .i64 0, .int .i64 0, .string ⟨#[]⟩] 25)
  generalize w1.alloc (.cells #[.int .i64 cd, .int .i64 o, .int .i64 1, .int .i64 0, .int .i64 0, .string ⟨#[]⟩] 25) = W2 at *
  have hv2 := H.invB hv hB2
  obtain ⟨z0, z1, z2, z3, z4, z5⟩ := Blk.cells6 k2
  go_wp2_with fail
  refine (HL.out _ hv2).mono ?_
  rintro e w3 ⟨rfl, hb3⟩
  have a3 := (a2.below hb3 a2.lt).alloc (.cells #[.int .i64 3, .int .u8 F, .int .i64 N, .int .i64 C, .bool B] 32)
  have k3 := (k2.below hb3 k2.lt).alloc (.cells #[.int .i64 3, .int .u8 F, .int .i64 N, .int .i64 C, .bool B] 32)
  have e3 := Blk.new w3 32 #[.int .i64 3, .int .u8 F, .int .i64 N, .int .i64 C, .bool B]
  have hB3 := (hB2.trans (hb3.mono hB2.size)).alloc (hB2.trans (hb3.mono hB2.size)).size (.cells #[.int .i64 3, .int .u8 F, .int .i64 N, .int .i64 C, .bool B] 32)
  clear a1 a2 k2 hB1 hB2 hb3 hv2 z0 z1 z2 z3 z4 z5
  go_upto_region 4 with (fail)
  generalize w3.alloc (.cells #[.int .i64 3, .int .u8 F, .int .i64 N, .int .i64 C, .bool B] 32) = W4 at *
  have hv4 := H.invB hv hB3
  obtain ⟨z0, z1, z2, z3, z4, z5⟩ := Blk.cells6 k3
  obtain ⟨y0, y1, y2, y3, y4⟩ := Blk.cells5 e3
  obtain ⟨x0, x1, x2, x3, x4, x5, x6, x7, x8, x9⟩ := Blk.cells10 a3
  go_wp2_with fail
  refine (HF.out _ hv4).mono ?_
  rintro e w5 ⟨A5, c5, rfl, hc5, hr5, hb5⟩
  have a5 := a3.below hb5 a3.lt
  have k5 := k3.below hb5 k3.lt
  have e5 := e3.below hb5 e3.lt
  have hB5 := hB3.trans (hb5.mono hB3.size)
  have hv5 := H.invB hv hB5
  clear a3 k3 e3 hB3 hb5 hv4 z0 z1 z2 z3 z4 z5 y0 y1 y2 y3 y4 x0 x1 x2 x3 x4 x5 x6 x7 x8 x9
  go_wp2_with fail
  refine (HT.out A5 c5 _ hv5 hc5 hr5).mono ?_
  rintro e w6 ⟨⟨A6, c6, rfl, hr6⟩, hb6⟩
  have a7 := (a5.below hb6 a5.lt).alloc (.cells #[.int .i64 1, .int .u8 0, .slice A6 2 c6, .string ⟨#[]⟩, .int .u8 F, .string ⟨#[]⟩] 36)
  have k7 := (k5.below hb6 k5.lt).alloc (.cells #[.int .i64 1, .int .u8 0, .slice A6 2 c6, .string ⟨#[]⟩, .int .u8 F, .string ⟨#[]⟩] 36)
  have e7 := (e5.below hb6 e5.lt).alloc (.cells #[.int .i64 1, .int .u8 0, .slice A6 2 c6, .string ⟨#[]⟩, .int .u8 F, .string ⟨#[]⟩] 36)
  have s7 := Blk.new w6 36 #[.int .i64 1, .int .u8 0, .slice A6 2 c6, .string ⟨#[]⟩, .int .u8 F, .string ⟨#[]⟩]
  have r7 := hr6.alloc (.cells #[.int .i64 1, .int .u8 0, .slice A6 2 c6, .string ⟨#[]⟩, .int .u8 F, .string ⟨#[]⟩] 36)
  have hB7 := (hB5.trans (hb6.mono hB5.size)).alloc (hB5.trans (hb6.mono hB5.size)).size (.cells #[.int .i64 1, .int .u8 0, .slice A6 2 c6, .string ⟨#[]⟩, .int .u8 F, .string ⟨#[]⟩] 36)
  clear a5 k5 e5 hB5 hb6 hr6 hr5 hv5
  go_upto_region 8 with (fail)
  generalize w6.alloc (.cells #[.int .i64 1, .int .u8 0, .slice A6 2 c6, .string ⟨#[]⟩, .int .u8 F, .string ⟨#[]⟩] 36) = W8 at *
  obtain ⟨y0, y1, y2, y3, y4⟩ := Blk.cells5 e7
  go_upto_region 12 with (fail)
  clear y0 y1 y2 y3 y4
  have la : ∀ W, Below W8.heap.size W8 W → Blk W w.heap.size 23 #[.bool m0, .bool m1, .bool m2, .bool m3, .bool m4, .bool m5, .bool m6, .int .i64 m7, .int .i64 m8, .int .i64 m9] := fun W hW => a7.below hW a7.lt
  have lk : ∀ W, Below W8.heap.size W8 W → Blk W w1.heap.size 25 #[.int .i64 cd, .int .i64 o, .int .i64 1, .int .i64 0, .int .i64 0, .string ⟨#[]⟩] := fun W hW => k7.below hW k7.lt
  have le : ∀ W, Below W8.heap.size W8 W → Blk W w3.heap.size 32 #[.int .i64 3, .int .u8 F, .int .i64 N, .int .i64 C, .bool B] := fun W hW => e7.below hW e7.lt
  have ls : ∀ W, Below W8.heap.size W8 W → Blk W w6.heap.size 36 #[.int .i64 1, .int .u8 0, .slice A6 2 c6, .string ⟨#[]⟩, .int .u8 F, .string ⟨#[]⟩] := fun W hW => s7.below hW s7.lt
  have lr : ∀ W, Below W8.heap.size W8 W → RdP W A6 (([1, 1 + o] : List Int).map fun n => [n]) := fun W hW => r7.below hW
  have hst : ∀ f ∈ ([] : List Fact), f.ok := fun _ h => by cases h
  have HV : Hid (∀ W, Below W8.heap.size W8 W → Inv W) := Lib.hid fun W hW => H.invB hv (hB7.trans (hW.mono hB7.size))
  refine wp_region_told (w1 := W8) (K := []) (ix := 1000) (R0 := fun _ _ _ => True) (R1 := fun _ _ _ => True) [] (⟨#[.agg #[.bool m0, .bool m1, .bool m2, .bool m3, .bool m4, .bool m5, .bool m6, .int .i64 m7, .int .i64 m8, .int .i64 m9], .int .u8 code, .int .u8 mods, .pointer (some ⟨w.heap.size, 0, none⟩), undef, undef, .bool true, .bool true, .pointer (some ⟨w1.heap.size, 0, none⟩), .pointer (some ⟨w3.heap.size, 0, none⟩), .slice A5 q c5, .pointer (some ⟨w6.heap.size, 0, none⟩), .int .i64 (q : Int), .int .i64 0, .bool true, .int .u8 code, .int .u8 (code % 80), .int .i64 (code % 80), .int .i64 cd, .int .u8 mods, .int .u8 o, .int .i64 o, .agg #[.int .i64 cd, .int .i64 o, .int .i64 1, .int .i64 0, .int .i64 0, .string ⟨#[]⟩], .pointer (some ⟨w1.heap.size, 0, none⟩), .int .i64 cd, .agg #[.int .i64 3, .int .u8 F, .int .i64 N, .int .i64 C, .bool B], .pointer (some ⟨w3.heap.size, 0, none⟩), .int .i64 3, .bool false, .bool false, undef, undef, undef, .bool false, undef, .agg #[.bool m0, .bool m1, .bool m2, .bool m3, .bool m4, .bool m5, .bool m6, .int .i64 m7, .int .i64 m8, .int .i64 m9], .agg #[.int .i64 cd, .int .i64 o, .int .i64 1, .int .i64 0, .int .i64 0, .string ⟨#[]⟩], .slice A5 q c5, .tuple #[.agg #[.int .i64 1, .int .u8 0, .slice A6 2 c6, .string ⟨#[]⟩, .int .u8 F, .string ⟨#[]⟩], .int .i64 (q : Int), .int .i64 0], .slice A5 q c5, .tuple #[.agg #[.int .i64 1, .int .u8 0, .slice A6 2 c6, .string ⟨#[]⟩, .int .u8 F, .string ⟨#[]⟩], .int .i64 (q : Int), .int .i64 0], .agg #[.int .i64 1, .int .u8 0, .slice A6 2 c6, .string ⟨#[]⟩, .int .u8 F, .string ⟨#[]⟩], .int .i64 (q : Int), .int .i64 0, .int .i64 0, .bool false, .bool false, .int .i64 (q : Int), .slice A5 q c5, .int .i64 (q : Int), .bool false, .bool false, .pointer (some ⟨w3.heap.size, 0, none⟩), .int .i64 3, .bool false, undef, undef, undef, undef, undef, undef, undef, undef, undef, undef, undef, undef, undef, undef, undef, undef, undef, undef, undef, undef, undef, .bool true, .bool true, .pointer (some ⟨w6.heap.size, 4, none⟩), .int .u8 F, .pointer (some ⟨w3.heap.size, 1, none⟩), .int .u8 F, .bool true, .bool true, .bool true, .agg #[.int .i64 1, .int .u8 0, .slice A6 2 c6, .string ⟨#[]⟩, .int .u8 F, .string ⟨#[]⟩], .int .i64 (1 + o), .pointer (some ⟨w1.heap.size, 1, none⟩), .int .i64 o, .int .i64 (1 + o), .bool true, .bool true, .bool true, .pointer (some ⟨w6.heap.size, 0, none⟩), .int .i64 1, .bool false, .pointer (some ⟨w1.heap.size, 1, none⟩), .int .i64 o, .bool false, .bool false, undef, undef, undef, undef, undef, undef, undef, .bool false, .bool true, .bool true], []⟩) (fun g => ⟨#[.agg #[.bool m0, .bool m1, .bool m2, .bool m3, .bool m4, .bool m5, .bool m6, .int .i64 m7, .int .i64 m8, .int .i64 m9], .int .u8 code, .int .u8 mods, .pointer (some ⟨w.heap.size, 0, none⟩), undef, undef, .bool true, .bool true, .pointer (some ⟨w1.heap.size, 0, none⟩), .pointer (some ⟨w3.heap.size, 0, none⟩), .slice A5 q c5, .pointer (some ⟨w6.heap.size, 0, none⟩), .int .i64 (q : Int), .int .i64 0, .bool true, .int .u8 code, .int .u8 (code % 80), .int .i64 (code % 80), .int .i64 cd, .int .u8 mods, .int .u8 o, .int .i64 o, .agg #[.int .i64 cd, .int .i64 o, .int .i64 1, .int .i64 0, .int .i64 0, .string ⟨#[]⟩], .pointer (some ⟨w1.heap.size, 0, none⟩), .int .i64 cd, .agg #[.int .i64 3, .int .u8 F, .int .i64 N, .int .i64 C, .bool B], .pointer (some ⟨w3.heap.size, 0, none⟩), .int .i64 3, .bool false, .bool false, undef, undef, undef, .bool false, undef, .agg #[.bool m0, .bool m1, .bool m2, .bool m3, .bool m4, .bool m5, .bool m6, .int .i64 m7, .int .i64 m8, .int .i64 m9], .agg #[.int .i64 cd, .int .i64 o, .int .i64 1, .int .i64 0, .int .i64 0, .string ⟨#[]⟩], .slice A5 q c5, .tuple #[.agg #[.int .i64 1, .int .u8 0, .slice A6 2 c6, .string ⟨#[]⟩, .int .u8 F, .string ⟨#[]⟩], .int .i64 (q : Int), .int .i64 0], .slice A5 q c5, .tuple #[.agg #[.int .i64 1, .int .u8 0, .slice A6 2 c6, .string ⟨#[]⟩, .int .u8 F, .string ⟨#[]⟩], .int .i64 (q : Int), .int .i64 0], .agg #[.int .i64 1, .int .u8 0, .slice A6 2 c6, .string ⟨#[]⟩, .int .u8 F, .string ⟨#[]⟩], .int .i64 (q : Int), .int .i64 0, .int .i64 0, .bool false, .bool false, .int .i64 (q : Int), .slice A5 q c5, .int .i64 (q : Int), .bool false, .bool false, .pointer (some ⟨w3.heap.size, 0, none⟩), .int .i64 3, .bool false, undef, undef, undef, undef, undef, undef, undef, undef, undef, undef, undef, undef, undef, undef, undef, undef, undef, undef, undef, undef, undef, .bool true, .bool true, .pointer (some ⟨w6.heap.size, 4, none⟩), .int .u8 F, .pointer (some ⟨w3.heap.size, 1, none⟩), .int .u8 F, .bool true, .bool true, .bool true, .agg #[.int .i64 1, .int .u8 0, .slice A6 2 c6, .string ⟨#[]⟩, .int .u8 F, .string ⟨#[]⟩], .int .i64 (1 + o), .pointer (some ⟨w1.heap.size, 1, none⟩), .int .i64 o, .int .i64 (1 + o), .bool true, .bool true, .bool true, .pointer (some ⟨w6.heap.size, 0, none⟩), .int .i64 1, .bool false, .pointer (some ⟨w1.heap.size, 1, none⟩), .int .i64 o, .bool false, .bool false, undef, undef, undef, undef, undef, undef, undef, .bool false, .bool true, .bool true], []⟩) [.bool true, .bool true, .pointer (some ⟨w6.heap.size, 4, none⟩), .int .u8 F, .pointer (some ⟨w3.heap.size, 1, none⟩), .int .u8 F, .bool true, .bool true, .bool true, .agg #[.int .i64 1, .int .u8 0, .slice A6 2 c6, .string ⟨#[]⟩, .int .u8 F, .string ⟨#[]⟩], .int .i64 (1 + o), .pointer (some ⟨w1.heap.size, 1, none⟩), .int .i64 o, .int .i64 (1 + o), .bool true, .bool true, .bool true, .pointer (some ⟨w6.heap.size, 0, none⟩), .int .i64 1, .bool false, .pointer (some ⟨w1.heap.size, 1, none⟩), .int .i64 o, .bool false, .bool false, undef, undef, undef, undef, undef, undef, undef, .bool false, .bool true, .bool true, .bool true] (by kernel_rfl) (by kernel_rfl) (by kernel_rfl) (fun g => by kernel_rfl) (by kernel_rfl) (Below.refl _ _).drew (by decide) (by kernel_rfl)
    (goes_cons (goesK_pure (fun _ => .bool true) rfl (by decide) (by decide) (by kernel_rfl) (fun g => by kernel_rfl) rfl (fun g => by kernel_rfl) (fun g w => by kernel_rfl)) 
    (goes_cons (goesK_pure (fun _ => .bool true) rfl (by decide) (by decide) (by kernel_rfl) (fun g => by kernel_rfl) rfl (fun g => by kernel_rfl) (fun g w => by kernel_rfl)) 
    (goes_cons (goesK_pure (fun _ => .pointer (some ⟨w6.heap.size, 4, none⟩)) rfl (by decide) (by decide) (by kernel_rfl) (fun g => by kernel_rfl) rfl (fun g => by kernel_rfl) (fun g w => by kernel_rfl)) 
    (goes_cons (goesK_cell hst (ahead_none (by decide)) rfl (by decide) (by decide) (by kernel_rfl) (fun g => by kernel_rfl) rfl (fun g => by kernel_rfl) rfl (fun g => by kernel_rfl) (fun W hW => (ls W hW).cell 4) (fun w => by kernel_rfl)) 
    (goes_cons (goesK_pure (fun _ => .pointer (some ⟨w3.heap.size, 1, none⟩)) rfl (by decide) (by decide) (by kernel_rfl) (fun g => by kernel_rfl) rfl (fun g => by kernel_rfl) (fun g w => by kernel_rfl)) 
    (goes_cons (goesK_cell hst (ahead_none (by decide)) rfl (by decide) (by decide) (by kernel_rfl) (fun g => by kernel_rfl) rfl (fun g => by kernel_rfl) rfl (fun g => by kernel_rfl) (fun W hW => (le W hW).cell 1) (fun w => by kernel_rfl)) 
    (goes_cons (goesK_bin (v := .bool true) (xv := .int .u8 F) (yv := .int .u8 F) rfl (by decide) (by decide) (by kernel_rfl) (fun g => by kernel_rfl) rfl (fun g => by kernel_rfl) rfl (fun g => by kernel_rfl) (fun g => by kernel_rfl) (fun w => by go_simp)) 
    (goes_cons (goesK_pure (fun _ => .bool true) rfl (by decide) (by decide) (by kernel_rfl) (fun g => by kernel_rfl) rfl (fun g => by kernel_rfl) (fun g w => by kernel_rfl)) 
    (goes_cons (goesK_pure (fun _ => .bool true) rfl (by decide) (by decide) (by kernel_rfl) (fun g => by kernel_rfl) rfl (fun g => by kernel_rfl) (fun g w => by kernel_rfl)) 
    (goes_cons (goesK_load hst (ahead_none (by decide)) rfl (by decide) (by decide) (by kernel_rfl) (fun g => by kernel_rfl) rfl (fun g => by kernel_rfl) rfl (fun g => by kernel_rfl) ls Tryd.underlying36 rfl (by kernel_rfl)) 
    (goes_cons (goesK_call (args := fun g => #[.agg #[.int .i64 1, .int .u8 0, .slice A6 2 c6, .string ⟨#[]⟩, .int .u8 F, .string ⟨#[]⟩], .int .i64 1, .int .i64 1]) hst (ahead_none (by decide)) rfl (by decide) (by decide) (by kernel_rfl) (fun g => by kernel_rfl) rfl (fun g => by kernel_rfl) (fun g w => by kernel_rfl) (fun g W hW hin => LegF.arg_at H (v := (1 + o)) (l := [1, 1 + o]) (n := 2) rfl (by decide) F0 F1 A6 c6 W (HV.out W hW) (by exact arg_second (by omega)) (by decide) (by decide) (lr W hW))) 
    (goes_cons (goesK_pure (fun _ => .pointer (some ⟨w1.heap.size, 1, none⟩)) rfl (by decide) (by decide) (by kernel_rfl) (fun g => by kernel_rfl) rfl (fun g => by kernel_rfl) (fun g w => by kernel_rfl)) 
    (goes_cons (goesK_cell hst (ahead_none (by decide)) rfl (by decide) (by decide) (by kernel_rfl) (fun g => by kernel_rfl) rfl (fun g => by kernel_rfl) rfl (fun g => by kernel_rfl) (fun W hW => (lk W hW).cell 1) (fun w => by kernel_rfl)) 
    (goes_cons (goesK_bin (v := .int .i64 (1 + o)) (xv := .int .i64 1) (yv := .int .i64 o) rfl (by decide) (by decide) (by kernel_rfl) (fun g => by kernel_rfl) rfl (fun g => by kernel_rfl) rfl (fun g => by kernel_rfl) (fun g => by kernel_rfl) (fun w => by have e := IntWalk.i64_in (1 + o) ⟨by omega, by omega⟩; go_simp)) 
    (goes_cons (goesK_bin (v := .bool true) (xv := .int .i64 (1 + o)) (yv := .int .i64 (1 + o)) rfl (by decide) (by decide) (by kernel_rfl) (fun g => by kernel_rfl) rfl (fun g => by kernel_rfl) rfl (fun g => by kernel_rfl) (fun g => by kernel_rfl) (fun w => by go_simp)) 
    (goes_cons (goesK_pure (fun _ => .bool true) rfl (by decide) (by decide) (by kernel_rfl) (fun g => by kernel_rfl) rfl (fun g => by kernel_rfl) (fun g w => by kernel_rfl)) 
    (goes_cons (goesK_pure (fun _ => .bool true) rfl (by decide) (by decide) (by kernel_rfl) (fun g => by kernel_rfl) rfl (fun g => by kernel_rfl) (fun g w => by kernel_rfl)) 
    (goes_cons (goesK_pure (fun _ => .pointer (some ⟨w6.heap.size, 0, none⟩)) rfl (by decide) (by decide) (by kernel_rfl) (fun g => by kernel_rfl) rfl (fun g => by kernel_rfl) (fun g w => by kernel_rfl)) 
    (goes_cons (goesK_cell hst (ahead_none (by decide)) rfl (by decide) (by decide) (by kernel_rfl) (fun g => by kernel_rfl) rfl (fun g => by kernel_rfl) rfl (fun g => by kernel_rfl) (fun W hW => (ls W hW).cell 0) (fun w => by kernel_rfl)) 
    (goes_cons (goesK_bin (v := .bool false) (xv := .int .i64 1) (yv := .int .i64 2) rfl (by decide) (by decide) (by kernel_rfl) (fun g => by kernel_rfl) rfl (fun g => by kernel_rfl) rfl (fun g => by kernel_rfl) (fun g => by kernel_rfl) (fun w => by go_simp)) 
    (goes_cons (goesK_pure (fun _ => .pointer (some ⟨w1.heap.size, 1, none⟩)) rfl (by decide) (by decide) (by kernel_rfl) (fun g => by kernel_rfl) rfl (fun g => by kernel_rfl) (fun g w => by kernel_rfl)) 
    (goes_cons (goesK_cell hst (ahead_none (by decide)) rfl (by decide) (by decide) (by kernel_rfl) (fun g => by kernel_rfl) rfl (fun g => by kernel_rfl) rfl (fun g => by kernel_rfl) (fun W hW => (lk W hW).cell 1) (fun w => by kernel_rfl)) 
    (goes_cons (goesK_bin (v := .bool false) (xv := .int .i64 o) (yv := .int .i64 0) rfl (by decide) (by decide) (by kernel_rfl) (fun g => by kernel_rfl) rfl (fun g => by kernel_rfl) rfl (fun g => by kernel_rfl) (fun g => by kernel_rfl) (fun w => by have e : (o == 0) = false := beq_false_of_ne (by omega); go_simp)) 
    (goes_cons (goesK_pure (fun _ => .bool false) rfl (by decide) (by decide) (by kernel_rfl) (fun g => by kernel_rfl) rfl (fun g => by kernel_rfl) (fun g w => by kernel_rfl)) 
    (goes_cons (goesK_off rfl (by decide) (by decide) (by kernel_rfl) (fun g => by kernel_rfl) rfl (fun g => by kernel_rfl)) 
    (goes_cons (goesK_off rfl (by decide) (by decide) (by kernel_rfl) (fun g => by kernel_rfl) rfl (fun g => by kernel_rfl)) 
    (goes_cons (goesK_off rfl (by decide) (by decide) (by kernel_rfl) (fun g => by kernel_rfl) rfl (fun g => by kernel_rfl)) 
    (goes_cons (goesK_off rfl (by decide) (by decide) (by kernel_rfl) (fun g => by kernel_rfl) rfl (fun g => by kernel_rfl)) 
    (goes_cons (goesK_off rfl (by decide) (by decide) (by kernel_rfl) (fun g => by kernel_rfl) rfl (fun g => by kernel_rfl)) 
    (goes_cons (goesK_off rfl (by decide) (by decide) (by kernel_rfl) (fun g => by kernel_rfl) rfl (fun g => by kernel_rfl)) 
    (goes_cons (goesK_off rfl (by decide) (by decide) (by kernel_rfl) (fun g => by kernel_rfl) rfl (fun g => by kernel_rfl)) 
    (goes_cons (goesK_pure (fun _ => .bool false) rfl (by decide) (by decide) (by kernel_rfl) (fun g => by kernel_rfl) rfl (fun g => by kernel_rfl) (fun g w => by kernel_rfl)) 
    (goes_cons (goesK_bin (v := .bool true) (xv := .bool false) (yv := .bool false) rfl (by decide) (by decide) (by kernel_rfl) (fun g => by kernel_rfl) rfl (fun g => by kernel_rfl) rfl (fun g => by kernel_rfl) (fun g => by kernel_rfl) (fun w => by go_simp)) 
    (goes_cons (goesK_pure (fun _ => .bool true) rfl (by decide) (by decide) (by kernel_rfl) (fun g => by kernel_rfl) rfl (fun g => by kernel_rfl) (fun g w => by kernel_rfl)) 
    (goes_cons (goesK_pure (fun _ => .bool true) rfl (by decide) (by decide) (by kernel_rfl) (fun g => by kernel_rfl) rfl (fun g => by kernel_rfl) (fun g w => by kernel_rfl)) goes_nil))))))))))))))))))))))))))))))))))) ?_
  intro g W hW _
  go_wp2_with fail
  go_ret
  exact ⟨rfl, hB7.trans (hW.mono hB7.size)⟩
set_option maxRecDepth 100000 in
set_option maxHeartbeats 16000000 in
theorem legacyForms_lc (H : LegF Inv) (m : Mo) (code mods cd F N C : Int) (B : Bool) (l0 : 0 ≤ code) (_l1 : code ≤ 255) (p0 : 0 ≤ mods) (_p1 : mods ≤ 255) (hcd : 57348 + code % 80 = cd) (ho : mods % 8 = 0) (hE : lookE cd = ⟨3, F, N, C, B⟩) (F0 : 0 ≤ F) (F1 : F < 256) (hm : mayS (sqN 2 F []) = 0) (hL : legL m ⟨cd, 0, 1, 0, 0, ByteArray.empty⟩ = putS (sqN 2 F [])) (hcur : m.cursor = true) (w : World) (hv : Inv w) :
    Calls Tryd.prog 4 #[moV m, .int .u8 code, .int .u8 mods] w fun e w' => e = .returned (.bool true) ∧ Below w.heap.size w w' := by
  have ic : in10 cd := ⟨by omega, by omega⟩
  have HL : Hid (∀ W, Inv W → Calls Tryd.prog 10 #[.int .i64 cd] W fun e w' => e = .returned (.agg #[.int .i64 3, .int .u8 F, .int .i64 N, .int .i64 C, .bool B]) ∧ Below W.heap.size W w') := Lib.hid fun W hW => H.toLegC.look_at W hW ic hE
  obtain ⟨L, hLL⟩ : ∃ L, putS (sqN 2 F []) = L := ⟨_, rfl⟩
  obtain ⟨q, hq⟩ : ∃ q, L.length = q := ⟨_, rfl⟩
  have hq2 : q ≤ 4294967296 := by rw [← hq, ← hLL]; exact put_small (by decide) hm
  have hts : takeS L = some (sqN 2 F [], q) := by
    have := takeS_put hm []
    rw [List.append_nil, hLL, hq] at this
    exact this
  have HF : Hid (∀ W, Inv W → Calls Tryd.prog 9 #[moV m, kyV ⟨cd, 0, 1, 0, 0, ByteArray.empty⟩] W fun e w' => ∃ A c, e = .returned (.slice A q c) ∧ q ≤ c ∧ Rd w' A (bs L) ∧ Below W.heap.size W w') := Lib.hid fun W hW => by
    have := H.form m cd 0 W hW ic (by rw [hE]; exact .inl rfl) (by omega) (by omega)
    rw [hL, hLL] at this
    refine this.mono ?_
    rintro e w' ⟨A, c, rfl, hc, hr, hb⟩
    rw [hq] at hc
    exact ⟨A, c, by rw [hq], hc, hr, hb⟩
  have HT : Hid (∀ (A : Option Addr) (c : Nat) (W : World), Inv W → q ≤ c → Rd W A (bs L) → Calls Tryd.prog 11 #[.slice A q c] W fun e w' => (∃ A' c', e = .returned (.tuple #[.agg #[.int .i64 2, .int .u8 0, .slice A' 0 c', .string ⟨#[]⟩, .int .u8 F, .string ⟨#[]⟩], .int .i64 (q : Int), .int .i64 0]) ∧ RdP w' A' (([] : List Int).map fun n => [n])) ∧ Below W.heap.size W w') := Lib.hid fun A c W hW hqc hr => by
    refine (H.take A q c L _ q W hW hts hq hqc hq2 hr).mono ?_
    rintro e w' ⟨⟨A', c', rfl, hr'⟩, hb⟩
    exact ⟨⟨A', c', by rw [sqn_v (n := 0) rfl F0 F1], hr'⟩, hb⟩
  have tm1 : Int.tmod code 80 = code % 80 := Int.tmod_eq_emod_of_nonneg l0
  have tm2 : Int.tmod mods 8 = mods % 8 := Int.tmod_eq_emod_of_nonneg p0
  have w1_ : IntKind.u8.wrap (code % 80) = code % 80 := by rw [IntKind.wrap_u8]; omega
  have w2_ : IntKind.u8.wrap (mods % 8) = mods % 8 := by rw [IntKind.wrap_u8]; omega
  clear hE hm hL hLL hq hts ic
  simp only [moV, kyV] at HF ⊢
  obtain ⟨m0, m1, m2, m3, m4, m5, m6, m7, m8, m9⟩ := m
  simp only at HF
  simp only at hcur
  subst hcur
  have hB := (Below.refl w.heap.size w).alloc (Nat.le_refl _) (.cells #[.bool true, .bool m1, .bool m2, .bool m3, .bool m4, .bool m5, .bool m6, .int .i64 m7, .int .i64 m8, .int .i64 m9] 23)
  have a0 := Blk.new w 23 #[.bool true, .bool m1, .bool m2, .bool m3, .bool m4, .bool m5, .bool m6, .int .i64 m7, .int .i64 m8, .int .i64 m9]
  have hv0 := H.invB hv hB
  go_enter Tryd.func4, Tryd.ntmps4
  go_wp2_with fail
  refine (legAwake H.toLegC _ hv0).mono ?_
  rintro e w1 ⟨rfl, hb1⟩
  have a1 := a0.below hb1 a0.lt
  have hB1 := hB.trans (hb1.mono hB.size)
  clear hv0 a0 hB hb1
  go_upto_region 3 with (fail)
  have a2 := a1.alloc (.cells #[.int .i64 cd, .int .i64 0, .int .i64 1, .int .i64 0, .int .i64 0, .string ⟨#[]⟩] 25)
  have k2 := Blk.new w1 25 #[.int .i64 cd, .int .i64 0, .int .i64 1, .int .i64 0, .int .i64 0, .string ⟨#[]⟩]
  have hB2 := hB1.alloc hB1.size (.cells #[.int .i64 cd, .int .i64 0, .int .i64 1, .int .i64 0, .int .i64 0, .string ⟨#[]⟩] 25)
  generalize w1.alloc (.cells #[.int .i64 cd, .int .i64 0, .int .i64 1, .int .i64 0, .int .i64 0, .string ⟨#[]⟩] 25) = W2 at *
  have hv2 := H.invB hv hB2
  obtain ⟨z0, z1, z2, z3, z4, z5⟩ := Blk.cells6 k2
  go_wp2_with fail
  refine (HL.out _ hv2).mono ?_
  rintro e w3 ⟨rfl, hb3⟩
  have a3 := (a2.below hb3 a2.lt).alloc (.cells #[.int .i64 3, .int .u8 F, .int .i64 N, .int .i64 C, .bool B] 32)
  have k3 := (k2.below hb3 k2.lt).alloc (.cells #[.int .i64 3, .int .u8 F, .int .i64 N, .int .i64 C, .bool B] 32)
  have e3 := Blk.new w3 32 #[.int .i64 3, .int .u8 F, .int .i64 N, .int .i64 C, .bool B]
  have hB3 := (hB2.trans (hb3.mono hB2.size)).alloc (hB2.trans (hb3.mono hB2.size)).size (.cells #[.int .i64 3, .int .u8 F, .int .i64 N, .int .i64 C, .bool B] 32)
  clear a1 a2 k2 hB1 hB2 hb3 hv2 z0 z1 z2 z3 z4 z5
  go_upto_region 4 with (fail)
  generalize w3.alloc (.cells #[.int .i64 3, .int .u8 F, .int .i64 N, .int .i64 C, .bool B] 32) = W4 at *
  have hv4 := H.invB hv hB3
  obtain ⟨z0, z1, z2, z3, z4, z5⟩ := Blk.cells6 k3
  obtain ⟨y0, y1, y2, y3, y4⟩ := Blk.cells5 e3
  obtain ⟨x0, x1, x2, x3, x4, x5, x6, x7, x8, x9⟩ := Blk.cells10 a3
  go_wp2_with fail
  refine (HF.out _ hv4).mono ?_
  rintro e w5 ⟨A5, c5, rfl, hc5, hr5, hb5⟩
  have a5 := a3.below hb5 a3.lt
  have k5 := k3.below hb5 k3.lt
  have e5 := e3.below hb5 e3.lt
  have hB5 := hB3.trans (hb5.mono hB3.size)
  have hv5 := H.invB hv hB5
  clear a3 k3 e3 hB3 hb5 hv4 z0 z1 z2 z3 z4 z5 y0 y1 y2 y3 y4 x0 x1 x2 x3 x4 x5 x6 x7 x8 x9
  go_wp2_with fail
  refine (HT.out A5 c5 _ hv5 hc5 hr5).mono ?_
  rintro e w6 ⟨⟨A6, c6, rfl, hr6⟩, hb6⟩
  have a7 := (a5.below hb6 a5.lt).alloc (.cells #[.int .i64 2, .int .u8 0, .slice A6 0 c6, .string ⟨#[]⟩, .int .u8 F, .string ⟨#[]⟩] 36)
  have k7 := (k5.below hb6 k5.lt).alloc (.cells #[.int .i64 2, .int .u8 0, .slice A6 0 c6, .string ⟨#[]⟩, .int .u8 F, .string ⟨#[]⟩] 36)
  have e7 := (e5.below hb6 e5.lt).alloc (.cells #[.int .i64 2, .int .u8 0, .slice A6 0 c6, .string ⟨#[]⟩, .int .u8 F, .string ⟨#[]⟩] 36)
  have s7 := Blk.new w6 36 #[.int .i64 2, .int .u8 0, .slice A6 0 c6, .string ⟨#[]⟩, .int .u8 F, .string ⟨#[]⟩]
  have r7 := hr6.alloc (.cells #[.int .i64 2, .int .u8 0, .slice A6 0 c6, .string ⟨#[]⟩, .int .u8 F, .string ⟨#[]⟩] 36)
  have hB7 := (hB5.trans (hb6.mono hB5.size)).alloc (hB5.trans (hb6.mono hB5.size)).size (.cells #[.int .i64 2, .int .u8 0, .slice A6 0 c6, .string ⟨#[]⟩, .int .u8 F, .string ⟨#[]⟩] 36)
  clear a5 k5 e5 hB5 hb6 hr6 hr5 hv5
  go_upto_region 8 with (fail)
  generalize w6.alloc (.cells #[.int .i64 2, .int .u8 0, .slice A6 0 c6, .string ⟨#[]⟩, .int .u8 F, .string ⟨#[]⟩] 36) = W8 at *
  obtain ⟨y0, y1, y2, y3, y4⟩ := Blk.cells5 e7
  go_upto_region 12 with (fail)
  clear y0 y1 y2 y3 y4
  have la : ∀ W, Below W8.heap.size W8 W → Blk W w.heap.size 23 #[.bool true, .bool m1, .bool m2, .bool m3, .bool m4, .bool m5, .bool m6, .int .i64 m7, .int .i64 m8, .int .i64 m9] := fun W hW => a7.below hW a7.lt
  have lk : ∀ W, Below W8.heap.size W8 W → Blk W w1.heap.size 25 #[.int .i64 cd, .int .i64 0, .int .i64 1, .int .i64 0, .int .i64 0, .string ⟨#[]⟩] := fun W hW => k7.below hW k7.lt
  have le : ∀ W, Below W8.heap.size W8 W → Blk W w3.heap.size 32 #[.int .i64 3, .int .u8 F, .int .i64 N, .int .i64 C, .bool B] := fun W hW => e7.below hW e7.lt
  have ls : ∀ W, Below W8.heap.size W8 W → Blk W w6.heap.size 36 #[.int .i64 2, .int .u8 0, .slice A6 0 c6, .string ⟨#[]⟩, .int .u8 F, .string ⟨#[]⟩] := fun W hW => s7.below hW s7.lt
  have lr : ∀ W, Below W8.heap.size W8 W → RdP W A6 (([] : List Int).map fun n => [n]) := fun W hW => r7.below hW
  have hst : ∀ f ∈ ([] : List Fact), f.ok := fun _ h => by cases h
  have HV : Hid (∀ W, Below W8.heap.size W8 W → Inv W) := Lib.hid fun W hW => H.invB hv (hB7.trans (hW.mono hB7.size))
  refine wp_region_told (w1 := W8) (K := []) (ix := 1000) (R0 := fun _ _ _ => True) (R1 := fun _ _ _ => True) [] (⟨#[.agg #[.bool true, .bool m1, .bool m2, .bool m3, .bool m4, .bool m5, .bool m6, .int .i64 m7, .int .i64 m8, .int .i64 m9], .int .u8 code, .int .u8 mods, .pointer (some ⟨w.heap.size, 0, none⟩), undef, undef, .bool true, .bool true, .pointer (some ⟨w1.heap.size, 0, none⟩), .pointer (some ⟨w3.heap.size, 0, none⟩), .slice A5 q c5, .pointer (some ⟨w6.heap.size, 0, none⟩), .int .i64 (q : Int), .int .i64 0, .bool true, .int .u8 code, .int .u8 (code % 80), .int .i64 (code % 80), .int .i64 cd, .int .u8 mods, .int .u8 0, .int .i64 0, .agg #[.int .i64 cd, .int .i64 0, .int .i64 1, .int .i64 0, .int .i64 0, .string ⟨#[]⟩], .pointer (some ⟨w1.heap.size, 0, none⟩), .int .i64 cd, .agg #[.int .i64 3, .int .u8 F, .int .i64 N, .int .i64 C, .bool B], .pointer (some ⟨w3.heap.size, 0, none⟩), .int .i64 3, .bool false, .bool false, undef, undef, undef, .bool false, undef, .agg #[.bool true, .bool m1, .bool m2, .bool m3, .bool m4, .bool m5, .bool m6, .int .i64 m7, .int .i64 m8, .int .i64 m9], .agg #[.int .i64 cd, .int .i64 0, .int .i64 1, .int .i64 0, .int .i64 0, .string ⟨#[]⟩], .slice A5 q c5, .tuple #[.agg #[.int .i64 2, .int .u8 0, .slice A6 0 c6, .string ⟨#[]⟩, .int .u8 F, .string ⟨#[]⟩], .int .i64 (q : Int), .int .i64 0], .slice A5 q c5, .tuple #[.agg #[.int .i64 2, .int .u8 0, .slice A6 0 c6, .string ⟨#[]⟩, .int .u8 F, .string ⟨#[]⟩], .int .i64 (q : Int), .int .i64 0], .agg #[.int .i64 2, .int .u8 0, .slice A6 0 c6, .string ⟨#[]⟩, .int .u8 F, .string ⟨#[]⟩], .int .i64 (q : Int), .int .i64 0, .int .i64 0, .bool false, .bool false, .int .i64 (q : Int), .slice A5 q c5, .int .i64 (q : Int), .bool false, .bool false, .pointer (some ⟨w3.heap.size, 0, none⟩), .int .i64 3, .bool false, undef, undef, undef, undef, undef, undef, undef, undef, undef, undef, undef, undef, undef, undef, undef, undef, undef, undef, undef, undef, undef, .bool true, .bool true, .pointer (some ⟨w6.heap.size, 4, none⟩), .int .u8 F, .pointer (some ⟨w3.heap.size, 1, none⟩), .int .u8 F, .bool true, .bool true, .bool true, .agg #[.int .i64 2, .int .u8 0, .slice A6 0 c6, .string ⟨#[]⟩, .int .u8 F, .string ⟨#[]⟩], .int .i64 1, .pointer (some ⟨w1.heap.size, 1, none⟩), .int .i64 0, .int .i64 1, .bool true, .bool true, .bool true, .pointer (some ⟨w6.heap.size, 0, none⟩), .int .i64 2, .bool true, .pointer (some ⟨w1.heap.size, 1, none⟩), .int .i64 0, .bool true, .bool true, .pointer (some ⟨w.heap.size, 0, none⟩), .bool true, .bool true, undef, undef, undef, .bool true, .bool true, .bool true, .bool true], []⟩) (fun g => ⟨#[.agg #[.bool true, .bool m1, .bool m2, .bool m3, .bool m4, .bool m5, .bool m6, .int .i64 m7, .int .i64 m8, .int .i64 m9], .int .u8 code, .int .u8 mods, .pointer (some ⟨w.heap.size, 0, none⟩), undef, undef, .bool true, .bool true, .pointer (some ⟨w1.heap.size, 0, none⟩), .pointer (some ⟨w3.heap.size, 0, none⟩), .slice A5 q c5, .pointer (some ⟨w6.heap.size, 0, none⟩), .int .i64 (q : Int), .int .i64 0, .bool true, .int .u8 code, .int .u8 (code % 80), .int .i64 (code % 80), .int .i64 cd, .int .u8 mods, .int .u8 0, .int .i64 0, .agg #[.int .i64 cd, .int .i64 0, .int .i64 1, .int .i64 0, .int .i64 0, .string ⟨#[]⟩], .pointer (some ⟨w1.heap.size, 0, none⟩), .int .i64 cd, .agg #[.int .i64 3, .int .u8 F, .int .i64 N, .int .i64 C, .bool B], .pointer (some ⟨w3.heap.size, 0, none⟩), .int .i64 3, .bool false, .bool false, undef, undef, undef, .bool false, undef, .agg #[.bool true, .bool m1, .bool m2, .bool m3, .bool m4, .bool m5, .bool m6, .int .i64 m7, .int .i64 m8, .int .i64 m9], .agg #[.int .i64 cd, .int .i64 0, .int .i64 1, .int .i64 0, .int .i64 0, .string ⟨#[]⟩], .slice A5 q c5, .tuple #[.agg #[.int .i64 2, .int .u8 0, .slice A6 0 c6, .string ⟨#[]⟩, .int .u8 F, .string ⟨#[]⟩], .int .i64 (q : Int), .int .i64 0], .slice A5 q c5, .tuple #[.agg #[.int .i64 2, .int .u8 0, .slice A6 0 c6, .string ⟨#[]⟩, .int .u8 F, .string ⟨#[]⟩], .int .i64 (q : Int), .int .i64 0], .agg #[.int .i64 2, .int .u8 0, .slice A6 0 c6, .string ⟨#[]⟩, .int .u8 F, .string ⟨#[]⟩], .int .i64 (q : Int), .int .i64 0, .int .i64 0, .bool false, .bool false, .int .i64 (q : Int), .slice A5 q c5, .int .i64 (q : Int), .bool false, .bool false, .pointer (some ⟨w3.heap.size, 0, none⟩), .int .i64 3, .bool false, undef, undef, undef, undef, undef, undef, undef, undef, undef, undef, undef, undef, undef, undef, undef, undef, undef, undef, undef, undef, undef, .bool true, .bool true, .pointer (some ⟨w6.heap.size, 4, none⟩), .int .u8 F, .pointer (some ⟨w3.heap.size, 1, none⟩), .int .u8 F, .bool true, .bool true, .bool true, .agg #[.int .i64 2, .int .u8 0, .slice A6 0 c6, .string ⟨#[]⟩, .int .u8 F, .string ⟨#[]⟩], .int .i64 1, .pointer (some ⟨w1.heap.size, 1, none⟩), .int .i64 0, .int .i64 1, .bool true, .bool true, .bool true, .pointer (some ⟨w6.heap.size, 0, none⟩), .int .i64 2, .bool true, .pointer (some ⟨w1.heap.size, 1, none⟩), .int .i64 0, .bool true, .bool true, .pointer (some ⟨w.heap.size, 0, none⟩), .bool true, .bool true, undef, undef, undef, .bool true, .bool true, .bool true, .bool true], []⟩) [.bool true, .bool true, .pointer (some ⟨w6.heap.size, 4, none⟩), .int .u8 F, .pointer (some ⟨w3.heap.size, 1, none⟩), .int .u8 F, .bool true, .bool true, .bool true, .agg #[.int .i64 2, .int .u8 0, .slice A6 0 c6, .string ⟨#[]⟩, .int .u8 F, .string ⟨#[]⟩], .int .i64 1, .pointer (some ⟨w1.heap.size, 1, none⟩), .int .i64 0, .int .i64 1, .bool true, .bool true, .bool true, .pointer (some ⟨w6.heap.size, 0, none⟩), .int .i64 2, .bool true, .pointer (some ⟨w1.heap.size, 1, none⟩), .int .i64 0, .bool true, .bool true, .pointer (some ⟨w.heap.size, 0, none⟩), .bool true, .bool true, undef, undef, undef, .bool true, .bool true, .bool true, .bool true, .bool true] (by kernel_rfl) (by kernel_rfl) (by kernel_rfl) (fun g => by kernel_rfl) (by kernel_rfl) (Below.refl _ _).drew (by decide) (by kernel_rfl)
    (goes_cons (goesK_pure (fun _ => .bool true) rfl (by decide) (by decide) (by kernel_rfl) (fun g => by kernel_rfl) rfl (fun g => by kernel_rfl) (fun g w => by kernel_rfl)) 
    (goes_cons (goesK_pure (fun _ => .bool true) rfl (by decide) (by decide) (by kernel_rfl) (fun g => by kernel_rfl) rfl (fun g => by kernel_rfl) (fun g w => by kernel_rfl)) 
    (goes_cons (goesK_pure (fun _ => .pointer (some ⟨w6.heap.size, 4, none⟩)) rfl (by decide) (by decide) (by kernel_rfl) (fun g => by kernel_rfl) rfl (fun g => by kernel_rfl) (fun g w => by kernel_rfl)) 
    (goes_cons (goesK_cell hst (ahead_none (by decide)) rfl (by decide) (by decide) (by kernel_rfl) (fun g => by kernel_rfl) rfl (fun g => by kernel_rfl) rfl (fun g => by kernel_rfl) (fun W hW => (ls W hW).cell 4) (fun w => by kernel_rfl)) 
    (goes_cons (goesK_pure (fun _ => .pointer (some ⟨w3.heap.size, 1, none⟩)) rfl (by decide) (by decide) (by kernel_rfl) (fun g => by kernel_rfl) rfl (fun g => by kernel_rfl) (fun g w => by kernel_rfl)) 
    (goes_cons (goesK_cell hst (ahead_none (by decide)) rfl (by decide) (by decide) (by kernel_rfl) (fun g => by kernel_rfl) rfl (fun g => by kernel_rfl) rfl (fun g => by kernel_rfl) (fun W hW => (le W hW).cell 1) (fun w => by kernel_rfl)) 
    (goes_cons (goesK_bin (v := .bool true) (xv := .int .u8 F) (yv := .int .u8 F) rfl (by decide) (by decide) (by kernel_rfl) (fun g => by kernel_rfl) rfl (fun g => by kernel_rfl) rfl (fun g => by kernel_rfl) (fun g => by kernel_rfl) (fun w => by go_simp)) 
    (goes_cons (goesK_pure (fun _ => .bool true) rfl (by decide) (by decide) (by kernel_rfl) (fun g => by kernel_rfl) rfl (fun g => by kernel_rfl) (fun g w => by kernel_rfl)) 
    (goes_cons (goesK_pure (fun _ => .bool true) rfl (by decide) (by decide) (by kernel_rfl) (fun g => by kernel_rfl) rfl (fun g => by kernel_rfl) (fun g w => by kernel_rfl)) 
    (goes_cons (goesK_load hst (ahead_none (by decide)) rfl (by decide) (by decide) (by kernel_rfl) (fun g => by kernel_rfl) rfl (fun g => by kernel_rfl) rfl (fun g => by kernel_rfl) ls Tryd.underlying36 rfl (by kernel_rfl)) 
    (goes_cons (goesK_call (args := fun g => #[.agg #[.int .i64 2, .int .u8 0, .slice A6 0 c6, .string ⟨#[]⟩, .int .u8 F, .string ⟨#[]⟩], .int .i64 1, .int .i64 1]) hst (ahead_none (by decide)) rfl (by decide) (by decide) (by kernel_rfl) (fun g => by kernel_rfl) rfl (fun g => by kernel_rfl) (fun g w => by kernel_rfl) (fun g W hW hin => LegF.arg_at H (v := 1) (l := []) (n := 0) rfl (by decide) F0 F1 A6 c6 W (HV.out W hW) (by exact arg_over (by simp)) (by decide) (by decide) (lr W hW))) 
    (goes_cons (goesK_pure (fun _ => .pointer (some ⟨w1.heap.size, 1, none⟩)) rfl (by decide) (by decide) (by kernel_rfl) (fun g => by kernel_rfl) rfl (fun g => by kernel_rfl) (fun g w => by kernel_rfl)) 
    (goes_cons (goesK_cell hst (ahead_none (by decide)) rfl (by decide) (by decide) (by kernel_rfl) (fun g => by kernel_rfl) rfl (fun g => by kernel_rfl) rfl (fun g => by kernel_rfl) (fun W hW => (lk W hW).cell 1) (fun w => by kernel_rfl)) 
    (goes_cons (goesK_bin (v := .int .i64 1) (xv := .int .i64 1) (yv := .int .i64 0) rfl (by decide) (by decide) (by kernel_rfl) (fun g => by kernel_rfl) rfl (fun g => by kernel_rfl) rfl (fun g => by kernel_rfl) (fun g => by kernel_rfl) (fun w => by kernel_rfl)) 
    (goes_cons (goesK_bin (v := .bool true) (xv := .int .i64 1) (yv := .int .i64 1) rfl (by decide) (by decide) (by kernel_rfl) (fun g => by kernel_rfl) rfl (fun g => by kernel_rfl) rfl (fun g => by kernel_rfl) (fun g => by kernel_rfl) (fun w => by go_simp)) 
    (goes_cons (goesK_pure (fun _ => .bool true) rfl (by decide) (by decide) (by kernel_rfl) (fun g => by kernel_rfl) rfl (fun g => by kernel_rfl) (fun g w => by kernel_rfl)) 
    (goes_cons (goesK_pure (fun _ => .bool true) rfl (by decide) (by decide) (by kernel_rfl) (fun g => by kernel_rfl) rfl (fun g => by kernel_rfl) (fun g w => by kernel_rfl)) 
    (goes_cons (goesK_pure (fun _ => .pointer (some ⟨w6.heap.size, 0, none⟩)) rfl (by decide) (by decide) (by kernel_rfl) (fun g => by kernel_rfl) rfl (fun g => by kernel_rfl) (fun g w => by kernel_rfl)) 
    (goes_cons (goesK_cell hst (ahead_none (by decide)) rfl (by decide) (by decide) (by kernel_rfl) (fun g => by kernel_rfl) rfl (fun g => by kernel_rfl) rfl (fun g => by kernel_rfl) (fun W hW => (ls W hW).cell 0) (fun w => by kernel_rfl)) 
    (goes_cons (goesK_bin (v := .bool true) (xv := .int .i64 2) (yv := .int .i64 2) rfl (by decide) (by decide) (by kernel_rfl) (fun g => by kernel_rfl) rfl (fun g => by kernel_rfl) rfl (fun g => by kernel_rfl) (fun g => by kernel_rfl) (fun w => by go_simp)) 
    (goes_cons (goesK_pure (fun _ => .pointer (some ⟨w1.heap.size, 1, none⟩)) rfl (by decide) (by decide) (by kernel_rfl) (fun g => by kernel_rfl) rfl (fun g => by kernel_rfl) (fun g w => by kernel_rfl)) 
    (goes_cons (goesK_cell hst (ahead_none (by decide)) rfl (by decide) (by decide) (by kernel_rfl) (fun g => by kernel_rfl) rfl (fun g => by kernel_rfl) rfl (fun g => by kernel_rfl) (fun W hW => (lk W hW).cell 1) (fun w => by kernel_rfl)) 
    (goes_cons (goesK_bin (v := .bool true) (xv := .int .i64 0) (yv := .int .i64 0) rfl (by decide) (by decide) (by kernel_rfl) (fun g => by kernel_rfl) rfl (fun g => by kernel_rfl) rfl (fun g => by kernel_rfl) (fun g => by kernel_rfl) (fun w => by go_simp)) 
    (goes_cons (goesK_pure (fun _ => .bool true) rfl (by decide) (by decide) (by kernel_rfl) (fun g => by kernel_rfl) rfl (fun g => by kernel_rfl) (fun g w => by kernel_rfl)) 
    (goes_cons (goesK_pure (fun _ => .pointer (some ⟨w.heap.size, 0, none⟩)) rfl (by decide) (by decide) (by kernel_rfl) (fun g => by kernel_rfl) rfl (fun g => by kernel_rfl) (fun g w => by kernel_rfl)) 
    (goes_cons (goesK_cell hst (ahead_none (by decide)) rfl (by decide) (by decide) (by kernel_rfl) (fun g => by kernel_rfl) rfl (fun g => by kernel_rfl) rfl (fun g => by kernel_rfl) (fun W hW => (la W hW).cell 0) (fun w => by kernel_rfl)) 
    (goes_cons (goesK_pure (fun _ => .bool true) rfl (by decide) (by decide) (by kernel_rfl) (fun g => by kernel_rfl) rfl (fun g => by kernel_rfl) (fun g w => by kernel_rfl)) 
    (goes_cons (goesK_off rfl (by decide) (by decide) (by kernel_rfl) (fun g => by kernel_rfl) rfl (fun g => by kernel_rfl)) 
    (goes_cons (goesK_off rfl (by decide) (by decide) (by kernel_rfl) (fun g => by kernel_rfl) rfl (fun g => by kernel_rfl)) 
    (goes_cons (goesK_off rfl (by decide) (by decide) (by kernel_rfl) (fun g => by kernel_rfl) rfl (fun g => by kernel_rfl)) 
    (goes_cons (goesK_pure (fun _ => .bool true) rfl (by decide) (by decide) (by kernel_rfl) (fun g => by kernel_rfl) rfl (fun g => by kernel_rfl) (fun g w => by kernel_rfl)) 
    (goes_cons (goesK_pure (fun _ => .bool true) rfl (by decide) (by decide) (by kernel_rfl) (fun g => by kernel_rfl) rfl (fun g => by kernel_rfl) (fun g w => by kernel_rfl)) 
    (goes_cons (goesK_bin (v := .bool true) (xv := .bool true) (yv := .bool true) rfl (by decide) (by decide) (by kernel_rfl) (fun g => by kernel_rfl) rfl (fun g => by kernel_rfl) rfl (fun g => by kernel_rfl) (fun g => by kernel_rfl) (fun w => by go_simp)) 
    (goes_cons (goesK_pure (fun _ => .bool true) rfl (by decide) (by decide) (by kernel_rfl) (fun g => by kernel_rfl) rfl (fun g => by kernel_rfl) (fun g w => by kernel_rfl)) 
    (goes_cons (goesK_pure (fun _ => .bool true) rfl (by decide) (by decide) (by kernel_rfl) (fun g => by kernel_rfl) rfl (fun g => by kernel_rfl) (fun g w => by kernel_rfl)) goes_nil))))))))))))))))))))))))))))))))))) ?_
  intro g W hW _
  go_wp2_with fail
  go_ret
  exact ⟨rfl, hB7.trans (hW.mono hB7.size)⟩
set_option maxRecDepth 100000 in
set_option maxHeartbeats 16000000 in
theorem legacyForms_lf (H : LegF Inv) (m : Mo) (code mods cd F N C : Int) (B : Bool) (l0 : 0 ≤ code) (_l1 : code ≤ 255) (p0 : 0 ≤ mods) (_p1 : mods ≤ 255) (hcd : 57348 + code % 80 = cd) (ho : mods % 8 = 0) (hE : lookE cd = ⟨3, F, N, C, B⟩) (F0 : 0 ≤ F) (F1 : F < 256) (hm : mayS (sqN 2 F []) = 0) (hL : legL m ⟨cd, 0, 1, 0, 0, ByteArray.empty⟩ = putS (sqN 2 F [])) (hcur : m.cursor = false) (hF : 80 ≤ F) (w : World) (hv : Inv w) :
    Calls Tryd.prog 4 #[moV m, .int .u8 code, .int .u8 mods] w fun e w' => e = .returned (.bool true) ∧ Below w.heap.size w w' := by
  have ic : in10 cd := ⟨by omega, by omega⟩
  have HL : Hid (∀ W, Inv W → Calls Tryd.prog 10 #[.int .i64 cd] W fun e w' => e = .returned (.agg #[.int .i64 3, .int .u8 F, .int .i64 N, .int .i64 C, .bool B]) ∧ Below W.heap.size W w') := Lib.hid fun W hW => H.toLegC.look_at W hW ic hE
  obtain ⟨L, hLL⟩ : ∃ L, putS (sqN 2 F []) = L := ⟨_, rfl⟩
  obtain ⟨q, hq⟩ : ∃ q, L.length = q := ⟨_, rfl⟩
  have hq2 : q ≤ 4294967296 := by rw [← hq, ← hLL]; exact put_small (by decide) hm
  have hts : takeS L = some (sqN 2 F [], q) := by
    have := takeS_put hm []
    rw [List.append_nil, hLL, hq] at this
    exact this
  have HF : Hid (∀ W, Inv W → Calls Tryd.prog 9 #[moV m, kyV ⟨cd, 0, 1, 0, 0, ByteArray.empty⟩] W fun e w' => ∃ A c, e = .returned (.slice A q c) ∧ q ≤ c ∧ Rd w' A (bs L) ∧ Below W.heap.size W w') := Lib.hid fun W hW => by
    have := H.form m cd 0 W hW ic (by rw [hE]; exact .inl rfl) (by omega) (by omega)
    rw [hL, hLL] at this
    refine this.mono ?_
    rintro e w' ⟨A, c, rfl, hc, hr, hb⟩
    rw [hq] at hc
    exact ⟨A, c, by rw [hq], hc, hr, hb⟩
  have HT : Hid (∀ (A : Option Addr) (c : Nat) (W : World), Inv W → q ≤ c → Rd W A (bs L) → Calls Tryd.prog 11 #[.slice A q c] W fun e w' => (∃ A' c', e = .returned (.tuple #[.agg #[.int .i64 2, .int .u8 0, .slice A' 0 c', .string ⟨#[]⟩, .int .u8 F, .string ⟨#[]⟩], .int .i64 (q : Int), .int .i64 0]) ∧ RdP w' A' (([] : List Int).map fun n => [n])) ∧ Below W.heap.size W w') := Lib.hid fun A c W hW hqc hr => by
    refine (H.take A q c L _ q W hW hts hq hqc hq2 hr).mono ?_
    rintro e w' ⟨⟨A', c', rfl, hr'⟩, hb⟩
    exact ⟨⟨A', c', by rw [sqn_v (n := 0) rfl F0 F1], hr'⟩, hb⟩
  have tm1 : Int.tmod code 80 = code % 80 := Int.tmod_eq_emod_of_nonneg l0
  have tm2 : Int.tmod mods 8 = mods % 8 := Int.tmod_eq_emod_of_nonneg p0
  have w1_ : IntKind.u8.wrap (code % 80) = code % 80 := by rw [IntKind.wrap_u8]; omega
  have w2_ : IntKind.u8.wrap (mods % 8) = mods % 8 := by rw [IntKind.wrap_u8]; omega
  clear hE hm hL hLL hq hts ic
  simp only [moV, kyV] at HF ⊢
  obtain ⟨m0, m1, m2, m3, m4, m5, m6, m7, m8, m9⟩ := m
  simp only at HF
  simp only at hcur
  subst hcur
  have hB := (Below.refl w.heap.size w).alloc (Nat.le_refl _) (.cells #[.bool false, .bool m1, .bool m2, .bool m3, .bool m4, .bool m5, .bool m6, .int .i64 m7, .int .i64 m8, .int .i64 m9] 23)
  have a0 := Blk.new w 23 #[.bool false, .bool m1, .bool m2, .bool m3, .bool m4, .bool m5, .bool m6, .int .i64 m7, .int .i64 m8, .int .i64 m9]
  have hv0 := H.invB hv hB
  go_enter Tryd.func4, Tryd.ntmps4
  go_wp2_with fail
  refine (legAwake H.toLegC _ hv0).mono ?_
  rintro e w1 ⟨rfl, hb1⟩
  have a1 := a0.below hb1 a0.lt
  have hB1 := hB.trans (hb1.mono hB.size)
  clear hv0 a0 hB hb1
  go_upto_region 3 with (fail)
  have a2 := a1.alloc (.cells #[.int .i64 cd, .int .i64 0, .int .i64 1, .int .i64 0, .int .i64 0, .string ⟨#[]⟩] 25)
  have k2 := Blk.new w1 25 #[.int .i64 cd, .int .i64 0, .int .i64 1, .int .i64 0, .int .i64 0, .string ⟨#[]⟩]
  have hB2 := hB1.alloc hB1.size (.cells #[.int .i64 cd, .int .i64 0, .int .i64 1, .int .i64 0, .int .i64 0, .string ⟨#[]⟩] 25)
  generalize w1.alloc (.cells #[.int .i64 cd, .int .i64 0, .int .i64 1, .int .i64 0, .int .i64 0, .string ⟨#[]⟩] 25) = W2 at *
  have hv2 := H.invB hv hB2
  obtain ⟨z0, z1, z2, z3, z4, z5⟩ := Blk.cells6 k2
  go_wp2_with fail
  refine (HL.out _ hv2).mono ?_
  rintro e w3 ⟨rfl, hb3⟩
  have a3 := (a2.below hb3 a2.lt).alloc (.cells #[.int .i64 3, .int .u8 F, .int .i64 N, .int .i64 C, .bool B] 32)
  have k3 := (k2.below hb3 k2.lt).alloc (.cells #[.int .i64 3, .int .u8 F, .int .i64 N, .int .i64 C, .bool B] 32)
  have e3 := Blk.new w3 32 #[.int .i64 3, .int .u8 F, .int .i64 N, .int .i64 C, .bool B]
  have hB3 := (hB2.trans (hb3.mono hB2.size)).alloc (hB2.trans (hb3.mono hB2.size)).size (.cells #[.int .i64 3, .int .u8 F, .int .i64 N, .int .i64 C, .bool B] 32)
  clear a1 a2 k2 hB1 hB2 hb3 hv2 z0 z1 z2 z3 z4 z5
  go_upto_region 4 with (fail)
  generalize w3.alloc (.cells #[.int .i64 3, .int .u8 F, .int .i64 N, .int .i64 C, .bool B] 32) = W4 at *
  have hv4 := H.invB hv hB3
  obtain ⟨z0, z1, z2, z3, z4, z5⟩ := Blk.cells6 k3
  obtain ⟨y0, y1, y2, y3, y4⟩ := Blk.cells5 e3
  obtain ⟨x0, x1, x2, x3, x4, x5, x6, x7, x8, x9⟩ := Blk.cells10 a3
  go_wp2_with fail
  refine (HF.out _ hv4).mono ?_
  rintro e w5 ⟨A5, c5, rfl, hc5, hr5, hb5⟩
  have a5 := a3.below hb5 a3.lt
  have k5 := k3.below hb5 k3.lt
  have e5 := e3.below hb5 e3.lt
  have hB5 := hB3.trans (hb5.mono hB3.size)
  have hv5 := H.invB hv hB5
  clear a3 k3 e3 hB3 hb5 hv4 z0 z1 z2 z3 z4 z5 y0 y1 y2 y3 y4 x0 x1 x2 x3 x4 x5 x6 x7 x8 x9
  go_wp2_with fail
  refine (HT.out A5 c5 _ hv5 hc5 hr5).mono ?_
  rintro e w6 ⟨⟨A6, c6, rfl, hr6⟩, hb6⟩
  have a7 := (a5.below hb6 a5.lt).alloc (.cells #[.int .i64 2, .int .u8 0, .slice A6 0 c6, .string ⟨#[]⟩, .int .u8 F, .string ⟨#[]⟩] 36)
  have k7 := (k5.below hb6 k5.lt).alloc (.cells #[.int .i64 2, .int .u8 0, .slice A6 0 c6, .string ⟨#[]⟩, .int .u8 F, .string ⟨#[]⟩] 36)
  have e7 := (e5.below hb6 e5.lt).alloc (.cells #[.int .i64 2, .int .u8 0, .slice A6 0 c6, .string ⟨#[]⟩, .int .u8 F, .string ⟨#[]⟩] 36)
  have s7 := Blk.new w6 36 #[.int .i64 2, .int .u8 0, .slice A6 0 c6, .string ⟨#[]⟩, .int .u8 F, .string ⟨#[]⟩]
  have r7 := hr6.alloc (.cells #[.int .i64 2, .int .u8 0, .slice A6 0 c6, .string ⟨#[]⟩, .int .u8 F, .string ⟨#[]⟩] 36)
  have hB7 := (hB5.trans (hb6.mono hB5.size)).alloc (hB5.trans (hb6.mono hB5.size)).size (.cells #[.int .i64 2, .int .u8 0, .slice A6 0 c6, .string ⟨#[]⟩, .int .u8 F, .string ⟨#[]⟩] 36)
  clear a5 k5 e5 hB5 hb6 hr6 hr5 hv5
  go_upto_region 8 with (fail)
  generalize w6.alloc (.cells #[.int .i64 2, .int .u8 0, .slice A6 0 c6, .string ⟨#[]⟩, .int .u8 F, .string ⟨#[]⟩] 36) = W8 at *
  obtain ⟨y0, y1, y2, y3, y4⟩ := Blk.cells5 e7
  go_upto_region 12 with (fail)
  clear y0 y1 y2 y3 y4
  have la : ∀ W, Below W8.heap.size W8 W → Blk W w.heap.size 23 #[.bool false, .bool m1, .bool m2, .bool m3, .bool m4, .bool m5, .bool m6, .int .i64 m7, .int .i64 m8, .int .i64 m9] := fun W hW => a7.below hW a7.lt
  have lk : ∀ W, Below W8.heap.size W8 W → Blk W w1.heap.size 25 #[.int .i64 cd, .int .i64 0, .int .i64 1, .int .i64 0, .int .i64 0, .string ⟨#[]⟩] := fun W hW => k7.below hW k7.lt
  have le : ∀ W, Below W8.heap.size W8 W → Blk W w3.heap.size 32 #[.int .i64 3, .int .u8 F, .int .i64 N, .int .i64 C, .bool B] := fun W hW => e7.below hW e7.lt
  have ls : ∀ W, Below W8.heap.size W8 W → Blk W w6.heap.size 36 #[.int .i64 2, .int .u8 0, .slice A6 0 c6, .string ⟨#[]⟩, .int .u8 F, .string ⟨#[]⟩] := fun W hW => s7.below hW s7.lt
  have lr : ∀ W, Below W8.heap.size W8 W → RdP W A6 (([] : List Int).map fun n => [n]) := fun W hW => r7.below hW
  have hst : ∀ f ∈ ([] : List Fact), f.ok := fun _ h => by cases h
  have HV : Hid (∀ W, Below W8.heap.size W8 W → Inv W) := Lib.hid fun W hW => H.invB hv (hB7.trans (hW.mono hB7.size))
  refine wp_region_told (w1 := W8) (K := []) (ix := 1000) (R0 := fun _ _ _ => True) (R1 := fun _ _ _ => True) [] (⟨#[.agg #[.bool false, .bool m1, .bool m2, .bool m3, .bool m4, .bool m5, .bool m6, .int .i64 m7, .int .i64 m8, .int .i64 m9], .int .u8 code, .int .u8 mods, .pointer (some ⟨w.heap.size, 0, none⟩), undef, undef, .bool true, .bool true, .pointer (some ⟨w1.heap.size, 0, none⟩), .pointer (some ⟨w3.heap.size, 0, none⟩), .slice A5 q c5, .pointer (some ⟨w6.heap.size, 0, none⟩), .int .i64 (q : Int), .int .i64 0, .bool true, .int .u8 code, .int .u8 (code % 80), .int .i64 (code % 80), .int .i64 cd, .int .u8 mods, .int .u8 0, .int .i64 0, .agg #[.int .i64 cd, .int .i64 0, .int .i64 1, .int .i64 0, .int .i64 0, .string ⟨#[]⟩], .pointer (some ⟨w1.heap.size, 0, none⟩), .int .i64 cd, .agg #[.int .i64 3, .int .u8 F, .int .i64 N, .int .i64 C, .bool B], .pointer (some ⟨w3.heap.size, 0, none⟩), .int .i64 3, .bool false, .bool false, undef, undef, undef, .bool false, undef, .agg #[.bool false, .bool m1, .bool m2, .bool m3, .bool m4, .bool m5, .bool m6, .int .i64 m7, .int .i64 m8, .int .i64 m9], .agg #[.int .i64 cd, .int .i64 0, .int .i64 1, .int .i64 0, .int .i64 0, .string ⟨#[]⟩], .slice A5 q c5, .tuple #[.agg #[.int .i64 2, .int .u8 0, .slice A6 0 c6, .string ⟨#[]⟩, .int .u8 F, .string ⟨#[]⟩], .int .i64 (q : Int), .int .i64 0], .slice A5 q c5, .tuple #[.agg #[.int .i64 2, .int .u8 0, .slice A6 0 c6, .string ⟨#[]⟩, .int .u8 F, .string ⟨#[]⟩], .int .i64 (q : Int), .int .i64 0], .agg #[.int .i64 2, .int .u8 0, .slice A6 0 c6, .string ⟨#[]⟩, .int .u8 F, .string ⟨#[]⟩], .int .i64 (q : Int), .int .i64 0, .int .i64 0, .bool false, .bool false, .int .i64 (q : Int), .slice A5 q c5, .int .i64 (q : Int), .bool false, .bool false, .pointer (some ⟨w3.heap.size, 0, none⟩), .int .i64 3, .bool false, undef, undef, undef, undef, undef, undef, undef, undef, undef, undef, undef, undef, undef, undef, undef, undef, undef, undef, undef, undef, undef, .bool true, .bool true, .pointer (some ⟨w6.heap.size, 4, none⟩), .int .u8 F, .pointer (some ⟨w3.heap.size, 1, none⟩), .int .u8 F, .bool true, .bool true, .bool true, .agg #[.int .i64 2, .int .u8 0, .slice A6 0 c6, .string ⟨#[]⟩, .int .u8 F, .string ⟨#[]⟩], .int .i64 1, .pointer (some ⟨w1.heap.size, 1, none⟩), .int .i64 0, .int .i64 1, .bool true, .bool true, .bool true, .pointer (some ⟨w6.heap.size, 0, none⟩), .int .i64 2, .bool true, .pointer (some ⟨w1.heap.size, 1, none⟩), .int .i64 0, .bool true, .bool true, .pointer (some ⟨w.heap.size, 0, none⟩), .bool false, .bool false, .pointer (some ⟨w3.heap.size, 1, none⟩), .int .u8 F, .bool true, .bool true, .bool true, .bool true, .bool true], []⟩) (fun g => ⟨#[.agg #[.bool false, .bool m1, .bool m2, .bool m3, .bool m4, .bool m5, .bool m6, .int .i64 m7, .int .i64 m8, .int .i64 m9], .int .u8 code, .int .u8 mods, .pointer (some ⟨w.heap.size, 0, none⟩), undef, undef, .bool true, .bool true, .pointer (some ⟨w1.heap.size, 0, none⟩), .pointer (some ⟨w3.heap.size, 0, none⟩), .slice A5 q c5, .pointer (some ⟨w6.heap.size, 0, none⟩), .int .i64 (q : Int), .int .i64 0, .bool true, .int .u8 code, .int .u8 (code % 80), .int .i64 (code % 80), .int .i64 cd, .int .u8 mods, .int .u8 0, .int .i64 0, .agg #[.int .i64 cd, .int .i64 0, .int .i64 1, .int .i64 0, .int .i64 0, .string ⟨#[]⟩], .pointer (some ⟨w1.heap.size, 0, none⟩), .int .i64 cd, .agg #[.int .i64 3, .int .u8 F, .int .i64 N, .int .i64 C, .bool B], .pointer (some ⟨w3.heap.size, 0, none⟩), .int .i64 3, .bool false, .bool false, undef, undef, undef, .bool false, undef, .agg #[.bool false, .bool m1, .bool m2, .bool m3, .bool m4, .bool m5, .bool m6, .int .i64 m7, .int .i64 m8, .int .i64 m9], .agg #[.int .i64 cd, .int .i64 0, .int .i64 1, .int .i64 0, .int .i64 0, .string ⟨#[]⟩], .slice A5 q c5, .tuple #[.agg #[.int .i64 2, .int .u8 0, .slice A6 0 c6, .string ⟨#[]⟩, .int .u8 F, .string ⟨#[]⟩], .int .i64 (q : Int), .int .i64 0], .slice A5 q c5, .tuple #[.agg #[.int .i64 2, .int .u8 0, .slice A6 0 c6, .string ⟨#[]⟩, .int .u8 F, .string ⟨#[]⟩], .int .i64 (q : Int), .int .i64 0], .agg #[.int .i64 2, .int .u8 0, .slice A6 0 c6, .string ⟨#[]⟩, .int .u8 F, .string ⟨#[]⟩], .int .i64 (q : Int), .int .i64 0, .int .i64 0, .bool false, .bool false, .int .i64 (q : Int), .slice A5 q c5, .int .i64 (q : Int), .bool false, .bool false, .pointer (some ⟨w3.heap.size, 0, none⟩), .int .i64 3, .bool false, undef, undef, undef, undef, undef, undef, undef, undef, undef, undef, undef, undef, undef, undef, undef, undef, undef, undef, undef, undef, undef, .bool true, .bool true, .pointer (some ⟨w6.heap.size, 4, none⟩), .int .u8 F, .pointer (some ⟨w3.heap.size, 1, none⟩), .int .u8 F, .bool true, .bool true, .bool true, .agg #[.int .i64 2, .int .u8 0, .slice A6 0 c6, .string ⟨#[]⟩, .int .u8 F, .string ⟨#[]⟩], .int .i64 1, .pointer (some ⟨w1.heap.size, 1, none⟩), .int .i64 0, .int .i64 1, .bool true, .bool true, .bool true, .pointer (some ⟨w6.heap.size, 0, none⟩), .int .i64 2, .bool true, .pointer (some ⟨w1.heap.size, 1, none⟩), .int .i64 0, .bool true, .bool true, .pointer (some ⟨w.heap.size, 0, none⟩), .bool false, .bool false, .pointer (some ⟨w3.heap.size, 1, none⟩), .int .u8 F, .bool true, .bool true, .bool true, .bool true, .bool true], []⟩) [.bool true, .bool true, .pointer (some ⟨w6.heap.size, 4, none⟩), .int .u8 F, .pointer (some ⟨w3.heap.size, 1, none⟩), .int .u8 F, .bool true, .bool true, .bool true, .agg #[.int .i64 2, .int .u8 0, .slice A6 0 c6, .string ⟨#[]⟩, .int .u8 F, .string ⟨#[]⟩], .int .i64 1, .pointer (some ⟨w1.heap.size, 1, none⟩), .int .i64 0, .int .i64 1, .bool true, .bool true, .bool true, .pointer (some ⟨w6.heap.size, 0, none⟩), .int .i64 2, .bool true, .pointer (some ⟨w1.heap.size, 1, none⟩), .int .i64 0, .bool true, .bool true, .pointer (some ⟨w.heap.size, 0, none⟩), .bool false, .bool false, .pointer (some ⟨w3.heap.size, 1, none⟩), .int .u8 F, .bool true, .bool true, .bool true, .bool true, .bool true, .bool true] (by kernel_rfl) (by kernel_rfl) (by kernel_rfl) (fun g => by kernel_rfl) (by kernel_rfl) (Below.refl _ _).drew (by decide) (by kernel_rfl)
    (goes_cons (goesK_pure (fun _ => .bool true) rfl (by decide) (by decide) (by kernel_rfl) (fun g => by kernel_rfl) rfl (fun g => by kernel_rfl) (fun g w => by kernel_rfl)) 
    (goes_cons (goesK_pure (fun _ => .bool true) rfl (by decide) (by decide) (by kernel_rfl) (fun g => by kernel_rfl) rfl (fun g => by kernel_rfl) (fun g w => by kernel_rfl)) 
    (goes_cons (goesK_pure (fun _ => .pointer (some ⟨w6.heap.size, 4, none⟩)) rfl (by decide) (by decide) (by kernel_rfl) (fun g => by kernel_rfl) rfl (fun g => by kernel_rfl) (fun g w => by kernel_rfl)) 
    (goes_cons (goesK_cell hst (ahead_none (by decide)) rfl (by decide) (by decide) (by kernel_rfl) (fun g => by kernel_rfl) rfl (fun g => by kernel_rfl) rfl (fun g => by kernel_rfl) (fun W hW => (ls W hW).cell 4) (fun w => by kernel_rfl)) 
    (goes_cons (goesK_pure (fun _ => .pointer (some ⟨w3.heap.size, 1, none⟩)) rfl (by decide) (by decide) (by kernel_rfl) (fun g => by kernel_rfl) rfl (fun g => by kernel_rfl) (fun g w => by kernel_rfl)) 
    (goes_cons (goesK_cell hst (ahead_none (by decide)) rfl (by decide) (by decide) (by kernel_rfl) (fun g => by kernel_rfl) rfl (fun g => by kernel_rfl) rfl (fun g => by kernel_rfl) (fun W hW => (le W hW).cell 1) (fun w => by kernel_rfl)) 
    (goes_cons (goesK_bin (v := .bool true) (xv := .int .u8 F) (yv := .int .u8 F) rfl (by decide) (by decide) (by kernel_rfl) (fun g => by kernel_rfl) rfl (fun g => by kernel_rfl) rfl (fun g => by kernel_rfl) (fun g => by kernel_rfl) (fun w => by go_simp)) 
    (goes_cons (goesK_pure (fun _ => .bool true) rfl (by decide) (by decide) (by kernel_rfl) (fun g => by kernel_rfl) rfl (fun g => by kernel_rfl) (fun g w => by kernel_rfl)) 
    (goes_cons (goesK_pure (fun _ => .bool true) rfl (by decide) (by decide) (by kernel_rfl) (fun g => by kernel_rfl) rfl (fun g => by kernel_rfl) (fun g w => by kernel_rfl)) 
    (goes_cons (goesK_load hst (ahead_none (by decide)) rfl (by decide) (by decide) (by kernel_rfl) (fun g => by kernel_rfl) rfl (fun g => by kernel_rfl) rfl (fun g => by kernel_rfl) ls Tryd.underlying36 rfl (by kernel_rfl)) 
    (goes_cons (goesK_call (args := fun g => #[.agg #[.int .i64 2, .int .u8 0, .slice A6 0 c6, .string ⟨#[]⟩, .int .u8 F, .string ⟨#[]⟩], .int .i64 1, .int .i64 1]) hst (ahead_none (by decide)) rfl (by decide) (by decide) (by kernel_rfl) (fun g => by kernel_rfl) rfl (fun g => by kernel_rfl) (fun g w => by kernel_rfl) (fun g W hW hin => LegF.arg_at H (v := 1) (l := []) (n := 0) rfl (by decide) F0 F1 A6 c6 W (HV.out W hW) (by exact arg_over (by simp)) (by decide) (by decide) (lr W hW))) 
    (goes_cons (goesK_pure (fun _ => .pointer (some ⟨w1.heap.size, 1, none⟩)) rfl (by decide) (by decide) (by kernel_rfl) (fun g => by kernel_rfl) rfl (fun g => by kernel_rfl) (fun g w => by kernel_rfl)) 
    (goes_cons (goesK_cell hst (ahead_none (by decide)) rfl (by decide) (by decide) (by kernel_rfl) (fun g => by kernel_rfl) rfl (fun g => by kernel_rfl) rfl (fun g => by kernel_rfl) (fun W hW => (lk W hW).cell 1) (fun w => by kernel_rfl)) 
    (goes_cons (goesK_bin (v := .int .i64 1) (xv := .int .i64 1) (yv := .int .i64 0) rfl (by decide) (by decide) (by kernel_rfl) (fun g => by kernel_rfl) rfl (fun g => by kernel_rfl) rfl (fun g => by kernel_rfl) (fun g => by kernel_rfl) (fun w => by kernel_rfl)) 
    (goes_cons (goesK_bin (v := .bool true) (xv := .int .i64 1) (yv := .int .i64 1) rfl (by decide) (by decide) (by kernel_rfl) (fun g => by kernel_rfl) rfl (fun g => by kernel_rfl) rfl (fun g => by kernel_rfl) (fun g => by kernel_rfl) (fun w => by go_simp)) 
    (goes_cons (goesK_pure (fun _ => .bool true) rfl (by decide) (by decide) (by kernel_rfl) (fun g => by kernel_rfl) rfl (fun g => by kernel_rfl) (fun g w => by kernel_rfl)) 
    (goes_cons (goesK_pure (fun _ => .bool true) rfl (by decide) (by decide) (by kernel_rfl) (fun g => by kernel_rfl) rfl (fun g => by kernel_rfl) (fun g w => by kernel_rfl)) 
    (goes_cons (goesK_pure (fun _ => .pointer (some ⟨w6.heap.size, 0, none⟩)) rfl (by decide) (by decide) (by kernel_rfl) (fun g => by kernel_rfl) rfl (fun g => by kernel_rfl) (fun g w => by kernel_rfl)) 
    (goes_cons (goesK_cell hst (ahead_none (by decide)) rfl (by decide) (by decide) (by kernel_rfl) (fun g => by kernel_rfl) rfl (fun g => by kernel_rfl) rfl (fun g => by kernel_rfl) (fun W hW => (ls W hW).cell 0) (fun w => by kernel_rfl)) 
    (goes_cons (goesK_bin (v := .bool true) (xv := .int .i64 2) (yv := .int .i64 2) rfl (by decide) (by decide) (by kernel_rfl) (fun g => by kernel_rfl) rfl (fun g => by kernel_rfl) rfl (fun g => by kernel_rfl) (fun g => by kernel_rfl) (fun w => by go_simp)) 
    (goes_cons (goesK_pure (fun _ => .pointer (some ⟨w1.heap.size, 1, none⟩)) rfl (by decide) (by decide) (by kernel_rfl) (fun g => by kernel_rfl) rfl (fun g => by kernel_rfl) (fun g w => by kernel_rfl)) 
    (goes_cons (goesK_cell hst (ahead_none (by decide)) rfl (by decide) (by decide) (by kernel_rfl) (fun g => by kernel_rfl) rfl (fun g => by kernel_rfl) rfl (fun g => by kernel_rfl) (fun W hW => (lk W hW).cell 1) (fun w => by kernel_rfl)) 
    (goes_cons (goesK_bin (v := .bool true) (xv := .int .i64 0) (yv := .int .i64 0) rfl (by decide) (by decide) (by kernel_rfl) (fun g => by kernel_rfl) rfl (fun g => by kernel_rfl) rfl (fun g => by kernel_rfl) (fun g => by kernel_rfl) (fun w => by go_simp)) 
    (goes_cons (goesK_pure (fun _ => .bool true) rfl (by decide) (by decide) (by kernel_rfl) (fun g => by kernel_rfl) rfl (fun g => by kernel_rfl) (fun g w => by kernel_rfl)) 
    (goes_cons (goesK_pure (fun _ => .pointer (some ⟨w.heap.size, 0, none⟩)) rfl (by decide) (by decide) (by kernel_rfl) (fun g => by kernel_rfl) rfl (fun g => by kernel_rfl) (fun g w => by kernel_rfl)) 
    (goes_cons (goesK_cell hst (ahead_none (by decide)) rfl (by decide) (by decide) (by kernel_rfl) (fun g => by kernel_rfl) rfl (fun g => by kernel_rfl) rfl (fun g => by kernel_rfl) (fun W hW => (la W hW).cell 0) (fun w => by kernel_rfl)) 
    (goes_cons (goesK_pure (fun _ => .bool false) rfl (by decide) (by decide) (by kernel_rfl) (fun g => by kernel_rfl) rfl (fun g => by kernel_rfl) (fun g w => by kernel_rfl)) 
    (goes_cons (goesK_pure (fun _ => .pointer (some ⟨w3.heap.size, 1, none⟩)) rfl (by decide) (by decide) (by kernel_rfl) (fun g => by kernel_rfl) rfl (fun g => by kernel_rfl) (fun g w => by kernel_rfl)) 
    (goes_cons (goesK_cell hst (ahead_none (by decide)) rfl (by decide) (by decide) (by kernel_rfl) (fun g => by kernel_rfl) rfl (fun g => by kernel_rfl) rfl (fun g => by kernel_rfl) (fun W hW => (le W hW).cell 1) (fun w => by kernel_rfl)) 
    (goes_cons (goesK_bin (v := .bool true) (xv := .int .u8 F) (yv := .int .u8 80) rfl (by decide) (by decide) (by kernel_rfl) (fun g => by kernel_rfl) rfl (fun g => by kernel_rfl) rfl (fun g => by kernel_rfl) (fun g => by kernel_rfl) (fun w => by have e : decide (80 ≤ F) = true := decide_eq_true hF; go_simp)) 
    (goes_cons (goesK_pure (fun _ => .bool true) rfl (by decide) (by decide) (by kernel_rfl) (fun g => by kernel_rfl) rfl (fun g => by kernel_rfl) (fun g w => by kernel_rfl)) 
    (goes_cons (goesK_pure (fun _ => .bool true) rfl (by decide) (by decide) (by kernel_rfl) (fun g => by kernel_rfl) rfl (fun g => by kernel_rfl) (fun g w => by kernel_rfl)) 
    (goes_cons (goesK_bin (v := .bool true) (xv := .bool true) (yv := .bool true) rfl (by decide) (by decide) (by kernel_rfl) (fun g => by kernel_rfl) rfl (fun g => by kernel_rfl) rfl (fun g => by kernel_rfl) (fun g => by kernel_rfl) (fun w => by go_simp)) 
    (goes_cons (goesK_pure (fun _ => .bool true) rfl (by decide) (by decide) (by kernel_rfl) (fun g => by kernel_rfl) rfl (fun g => by kernel_rfl) (fun g w => by kernel_rfl)) 
    (goes_cons (goesK_pure (fun _ => .bool true) rfl (by decide) (by decide) (by kernel_rfl) (fun g => by kernel_rfl) rfl (fun g => by kernel_rfl) (fun g w => by kernel_rfl)) goes_nil))))))))))))))))))))))))))))))))))) ?_
  intro g W hW _
  go_wp2_with fail
  go_ret
  exact ⟨rfl, hB7.trans (hW.mono hB7.size)⟩
set_option maxRecDepth 100000 in
set_option maxHeartbeats 16000000 in
theorem legacyForms_ln (H : LegF Inv) (m : Mo) (code mods cd F N C : Int) (B : Bool) (l0 : 0 ≤ code) (_l1 : code ≤ 255) (p0 : 0 ≤ mods) (_p1 : mods ≤ 255) (hcd : 57348 + code % 80 = cd) (ho : mods % 8 = 0) (hE : lookE cd = ⟨3, F, N, C, B⟩) (F0 : 0 ≤ F) (F1 : F < 256) (hm : mayS (sqN 1 F []) = 0) (hL : legL m ⟨cd, 0, 1, 0, 0, ByteArray.empty⟩ = putS (sqN 1 F [])) (hcur : m.cursor = false) (hF : F < 80) (w : World) (hv : Inv w) :
    Calls Tryd.prog 4 #[moV m, .int .u8 code, .int .u8 mods] w fun e w' => e = .returned (.bool true) ∧ Below w.heap.size w w' := by
  have ic : in10 cd := ⟨by omega, by omega⟩
  have HL : Hid (∀ W, Inv W → Calls Tryd.prog 10 #[.int .i64 cd] W fun e w' => e = .returned (.agg #[.int .i64 3, .int .u8 F, .int .i64 N, .int .i64 C, .bool B]) ∧ Below W.heap.size W w') := Lib.hid fun W hW => H.toLegC.look_at W hW ic hE
  obtain ⟨L, hLL⟩ : ∃ L, putS (sqN 1 F []) = L := ⟨_, rfl⟩
  obtain ⟨q, hq⟩ : ∃ q, L.length = q := ⟨_, rfl⟩
  have hq2 : q ≤ 4294967296 := by rw [← hq, ← hLL]; exact put_small (by decide) hm
  have hts : takeS L = some (sqN 1 F [], q) := by
    have := takeS_put hm []
    rw [List.append_nil, hLL, hq] at this
    exact this
  have HF : Hid (∀ W, Inv W → Calls Tryd.prog 9 #[moV m, kyV ⟨cd, 0, 1, 0, 0, ByteArray.empty⟩] W fun e w' => ∃ A c, e = .returned (.slice A q c) ∧ q ≤ c ∧ Rd w' A (bs L) ∧ Below W.heap.size W w') := Lib.hid fun W hW => by
    have := H.form m cd 0 W hW ic (by rw [hE]; exact .inl rfl) (by omega) (by omega)
    rw [hL, hLL] at this
    refine this.mono ?_
    rintro e w' ⟨A, c, rfl, hc, hr, hb⟩
    rw [hq] at hc
    exact ⟨A, c, by rw [hq], hc, hr, hb⟩
  have HT : Hid (∀ (A : Option Addr) (c : Nat) (W : World), Inv W → q ≤ c → Rd W A (bs L) → Calls Tryd.prog 11 #[.slice A q c] W fun e w' => (∃ A' c', e = .returned (.tuple #[.agg #[.int .i64 1, .int .u8 0, .slice A' 0 c', .string ⟨#[]⟩, .int .u8 F, .string ⟨#[]⟩], .int .i64 (q : Int), .int .i64 0]) ∧ RdP w' A' (([] : List Int).map fun n => [n])) ∧ Below W.heap.size W w') := Lib.hid fun A c W hW hqc hr => by
    refine (H.take A q c L _ q W hW hts hq hqc hq2 hr).mono ?_
    rintro e w' ⟨⟨A', c', rfl, hr'⟩, hb⟩
    exact ⟨⟨A', c', by rw [sqn_v (n := 0) rfl F0 F1], hr'⟩, hb⟩
  have tm1 : Int.tmod code 80 = code % 80 := Int.tmod_eq_emod_of_nonneg l0
  have tm2 : Int.tmod mods 8 = mods % 8 := Int.tmod_eq_emod_of_nonneg p0
  have w1_ : IntKind.u8.wrap (code % 80) = code % 80 := by rw [IntKind.wrap_u8]; omega
  have w2_ : IntKind.u8.wrap (mods % 8) = mods % 8 := by rw [IntKind.wrap_u8]; omega
  clear hE hm hL hLL hq hts ic
  simp only [moV, kyV] at HF ⊢
  obtain ⟨m0, m1, m2, m3, m4, m5, m6, m7, m8, m9⟩ := m
  simp only at HF
  simp only at hcur
  subst hcur
  have hB := (Below.refl w.heap.size w).alloc (Nat.le_refl _) (.cells #[.bool false, .bool m1, .bool m2, .bool m3, .bool m4, .bool m5, .bool m6, .int .i64 m7, .int .i64 m8, .int .i64 m9] 23)
  have a0 := Blk.new w 23 #[.bool false, .bool m1, .bool m2, .bool m3, .bool m4, .bool m5, .bool m6, .int .i64 m7, .int .i64 m8, .int .i64 m9]
  have hv0 := H.invB hv hB
  go_enter Tryd.func4, Tryd.ntmps4
  go_wp2_with fail
  refine (legAwake H.toLegC _ hv0).mono ?_
  rintro e w1 ⟨rfl, hb1⟩
  have a1 := a0.below hb1 a0.lt
  have hB1 := hB.trans (hb1.mono hB.size)
  clear hv0 a0 hB hb1
  go_upto_region 3 with (fail)
  have a2 := a1.alloc (.cells #[.int .i64 cd, .int .i64 0, .int .i64 1, .int .i64 0, .int .i64 0, .string ⟨#[]⟩] 25)
  have k2 := Blk.new w1 25 #[.int .i64 cd, .int .i64 0, .int .i64 1, .int .i64 0, .int .i64 0, .string ⟨#[]⟩]
  have hB2 := hB1.alloc hB1.size (.cells #[.int .i64 cd, .int .i64 0, .int .i64 1, .int .i64 0, .int .i64 0, .string ⟨#[]⟩] 25)
  generalize w1.alloc (.cells #[.int .i64 cd, .int .i64 0, .int .i64 1, .int .i64 0, .int .i64 0, .string ⟨#[]⟩] 25) = W2 at *
  have hv2 := H.invB hv hB2
  obtain ⟨z0, z1, z2, z3, z4, z5⟩ := Blk.cells6 k2
  go_wp2_with fail
  refine (HL.out _ hv2).mono ?_
  rintro e w3 ⟨rfl, hb3⟩
  have a3 := (a2.below hb3 a2.lt).alloc (.cells #[.int .i64 3, .int .u8 F, .int .i64 N, .int .i64 C, .bool B] 32)
  have k3 := (k2.below hb3 k2.lt).alloc (.cells #[.int .i64 3, .int .u8 F, .int .i64 N, .int .i64 C, .bool B] 32)
  have e3 := Blk.new w3 32 #[.int .i64 3, .int .u8 F, .int .i64 N, .int .i64 C, .bool B]
  have hB3 := (hB2.trans (hb3.mono hB2.size)).alloc (hB2.trans (hb3.mono hB2.size)).size (.cells #[.int .i64 3, .int .u8 F, .int .i64 N, .int .i64 C, .bool B] 32)
  clear a1 a2 k2 hB1 hB2 hb3 hv2 z0 z1 z2 z3 z4 z5
  go_upto_region 4 with (fail)
  generalize w3.alloc (.cells #[.int .i64 3, .int .u8 F, .int .i64 N, .int .i64 C, .bool B] 32) = W4 at *
  have hv4 := H.invB hv hB3
  obtain ⟨z0, z1, z2, z3, z4, z5⟩ := Blk.cells6 k3
  obtain ⟨y0, y1, y2, y3, y4⟩ := Blk.cells5 e3
  obtain ⟨x0, x1, x2, x3, x4, x5, x6, x7, x8, x9⟩ := Blk.cells10 a3
  go_wp2_with fail
  refine (HF.out _ hv4).mono ?_
  rintro e w5 ⟨A5, c5, rfl, hc5, hr5, hb5⟩
  have a5 := a3.below hb5 a3.lt
  have k5 := k3.below hb5 k3.lt
  have e5 := e3.below hb5 e3.lt
  have hB5 := hB3.trans (hb5.mono hB3.size)
  have hv5 := H.invB hv hB5
  clear a3 k3 e3 hB3 hb5 hv4 z0 z1 z2 z3 z4 z5 y0 y1 y2 y3 y4 x0 x1 x2 x3 x4 x5 x6 x7 x8 x9
  go_wp2_with fail
  refine (HT.out A5 c5 _ hv5 hc5 hr5).mono ?_
  rintro e w6 ⟨⟨A6, c6, rfl, hr6⟩, hb6⟩
  have a7 := (a5.below hb6 a5.lt).alloc (.cells #[.int .i64 1, .int .u8 0, .slice A6 0 c6, .string ⟨#[]⟩, .int .u8 F, .string ⟨#[]⟩] 36)
  have k7 := (k5.below hb6 k5.lt).alloc (.cells #[.int .i64 1, .int .u8 0, .slice A6 0 c6, .string ⟨#[]⟩, .int .u8 F, .string ⟨#[]⟩] 36)
  have e7 := (e5.below hb6 e5.lt).alloc (.cells #[.int .i64 1, .int .u8 0, .slice A6 0 c6, .string ⟨#[]⟩, .int .u8 F, .string ⟨#[]⟩] 36)
  have s7 := Blk.new w6 36 #[.int .i64 1, .int .u8 0, .slice A6 0 c6, .string ⟨#[]⟩, .int .u8 F, .string ⟨#[]⟩]
  have r7 := hr6.alloc (.cells #[.int .i64 1, .int .u8 0, .slice A6 0 c6, .string ⟨#[]⟩, .int .u8 F, .string ⟨#[]⟩] 36)
  have hB7 := (hB5.trans (hb6.mono hB5.size)).alloc (hB5.trans (hb6.mono hB5.size)).size (.cells #[.int .i64 1, .int .u8 0, .slice A6 0 c6, .string ⟨#[]⟩, .int .u8 F, .string ⟨#[]⟩] 36)
  clear a5 k5 e5 hB5 hb6 hr6 hr5 hv5
  go_upto_region 8 with (fail)
  generalize w6.alloc (.cells #[.int .i64 1, .int .u8 0, .slice A6 0 c6, .string ⟨#[]⟩, .int .u8 F, .string ⟨#[]⟩] 36) = W8 at *
  obtain ⟨y0, y1, y2, y3, y4⟩ := Blk.cells5 e7
  go_upto_region 12 with (fail)
  clear y0 y1 y2 y3 y4
  have la : ∀ W, Below W8.heap.size W8 W → Blk W w.heap.size 23 #[.bool false, .bool m1, .bool m2, .bool m3, .bool m4, .bool m5, .bool m6, .int .i64 m7, .int .i64 m8, .int .i64 m9] := fun W hW => a7.below hW a7.lt
  have lk : ∀ W, Below W8.heap.size W8 W → Blk W w1.heap.size 25 #[.int .i64 cd, .int .i64 0, .int .i64 1, .int .i64 0, .int .i64 0, .string ⟨#[]⟩] := fun W hW => k7.below hW k7.lt
  have le : ∀ W, Below W8.heap.size W8 W → Blk W w3.heap.size 32 #[.int .i64 3, .int .u8 F, .int .i64 N, .int .i64 C, .bool B] := fun W hW => e7.below hW e7.lt
  have ls : ∀ W, Below W8.heap.size W8 W → Blk W w6.heap.size 36 #[.int .i64 1, .int .u8 0, .slice A6 0 c6, .string ⟨#[]⟩, .int .u8 F, .string ⟨#[]⟩] := fun W hW => s7.below hW s7.lt
  have lr : ∀ W, Below W8.heap.size W8 W → RdP W A6 (([] : List Int).map fun n => [n]) := fun W hW => r7.below hW
  have hst : ∀ f ∈ ([] : List Fact), f.ok := fun _ h => by cases h
  have HV : Hid (∀ W, Below W8.heap.size W8 W → Inv W) := Lib.hid fun W hW => H.invB hv (hB7.trans (hW.mono hB7.size))
  refine wp_region_told (w1 := W8) (K := []) (ix := 1000) (R0 := fun _ _ _ => True) (R1 := fun _ _ _ => True) [] (⟨#[.agg #[.bool false, .bool m1, .bool m2, .bool m3, .bool m4, .bool m5, .bool m6, .int .i64 m7, .int .i64 m8, .int .i64 m9], .int .u8 code, .int .u8 mods, .pointer (some ⟨w.heap.size, 0, none⟩), undef, undef, .bool true, .bool true, .pointer (some ⟨w1.heap.size, 0, none⟩), .pointer (some ⟨w3.heap.size, 0, none⟩), .slice A5 q c5, .pointer (some ⟨w6.heap.size, 0, none⟩), .int .i64 (q : Int), .int .i64 0, .bool true, .int .u8 code, .int .u8 (code % 80), .int .i64 (code % 80), .int .i64 cd, .int .u8 mods, .int .u8 0, .int .i64 0, .agg #[.int .i64 cd, .int .i64 0, .int .i64 1, .int .i64 0, .int .i64 0, .string ⟨#[]⟩], .pointer (some ⟨w1.heap.size, 0, none⟩), .int .i64 cd, .agg #[.int .i64 3, .int .u8 F, .int .i64 N, .int .i64 C, .bool B], .pointer (some ⟨w3.heap.size, 0, none⟩), .int .i64 3, .bool false, .bool false, undef, undef, undef, .bool false, undef, .agg #[.bool false, .bool m1, .bool m2, .bool m3, .bool m4, .bool m5, .bool m6, .int .i64 m7, .int .i64 m8, .int .i64 m9], .agg #[.int .i64 cd, .int .i64 0, .int .i64 1, .int .i64 0, .int .i64 0, .string ⟨#[]⟩], .slice A5 q c5, .tuple #[.agg #[.int .i64 1, .int .u8 0, .slice A6 0 c6, .string ⟨#[]⟩, .int .u8 F, .string ⟨#[]⟩], .int .i64 (q : Int), .int .i64 0], .slice A5 q c5, .tuple #[.agg #[.int .i64 1, .int .u8 0, .slice A6 0 c6, .string ⟨#[]⟩, .int .u8 F, .string ⟨#[]⟩], .int .i64 (q : Int), .int .i64 0], .agg #[.int .i64 1, .int .u8 0, .slice A6 0 c6, .string ⟨#[]⟩, .int .u8 F, .string ⟨#[]⟩], .int .i64 (q : Int), .int .i64 0, .int .i64 0, .bool false, .bool false, .int .i64 (q : Int), .slice A5 q c5, .int .i64 (q : Int), .bool false, .bool false, .pointer (some ⟨w3.heap.size, 0, none⟩), .int .i64 3, .bool false, undef, undef, undef, undef, undef, undef, undef, undef, undef, undef, undef, undef, undef, undef, undef, undef, undef, undef, undef, undef, undef, .bool true, .bool true, .pointer (some ⟨w6.heap.size, 4, none⟩), .int .u8 F, .pointer (some ⟨w3.heap.size, 1, none⟩), .int .u8 F, .bool true, .bool true, .bool true, .agg #[.int .i64 1, .int .u8 0, .slice A6 0 c6, .string ⟨#[]⟩, .int .u8 F, .string ⟨#[]⟩], .int .i64 1, .pointer (some ⟨w1.heap.size, 1, none⟩), .int .i64 0, .int .i64 1, .bool true, .bool true, .bool true, .pointer (some ⟨w6.heap.size, 0, none⟩), .int .i64 1, .bool false, .pointer (some ⟨w1.heap.size, 1, none⟩), .int .i64 0, .bool true, .bool true, .pointer (some ⟨w.heap.size, 0, none⟩), .bool false, .bool false, .pointer (some ⟨w3.heap.size, 1, none⟩), .int .u8 F, .bool false, .bool false, .bool false, .bool true, .bool true], []⟩) (fun g => ⟨#[.agg #[.bool false, .bool m1, .bool m2, .bool m3, .bool m4, .bool m5, .bool m6, .int .i64 m7, .int .i64 m8, .int .i64 m9], .int .u8 code, .int .u8 mods, .pointer (some ⟨w.heap.size, 0, none⟩), undef, undef, .bool true, .bool true, .pointer (some ⟨w1.heap.size, 0, none⟩), .pointer (some ⟨w3.heap.size, 0, none⟩), .slice A5 q c5, .pointer (some ⟨w6.heap.size, 0, none⟩), .int .i64 (q : Int), .int .i64 0, .bool true, .int .u8 code, .int .u8 (code % 80), .int .i64 (code % 80), .int .i64 cd, .int .u8 mods, .int .u8 0, .int .i64 0, .agg #[.int .i64 cd, .int .i64 0, .int .i64 1, .int .i64 0, .int .i64 0, .string ⟨#[]⟩], .pointer (some ⟨w1.heap.size, 0, none⟩), .int .i64 cd, .agg #[.int .i64 3, .int .u8 F, .int .i64 N, .int .i64 C, .bool B], .pointer (some ⟨w3.heap.size, 0, none⟩), .int .i64 3, .bool false, .bool false, undef, undef, undef, .bool false, undef, .agg #[.bool false, .bool m1, .bool m2, .bool m3, .bool m4, .bool m5, .bool m6, .int .i64 m7, .int .i64 m8, .int .i64 m9], .agg #[.int .i64 cd, .int .i64 0, .int .i64 1, .int .i64 0, .int .i64 0, .string ⟨#[]⟩], .slice A5 q c5, .tuple #[.agg #[.int .i64 1, .int .u8 0, .slice A6 0 c6, .string ⟨#[]⟩, .int .u8 F, .string ⟨#[]⟩], .int .i64 (q : Int), .int .i64 0], .slice A5 q c5, .tuple #[.agg #[.int .i64 1, .int .u8 0, .slice A6 0 c6, .string ⟨#[]⟩, .int .u8 F, .string ⟨#[]⟩], .int .i64 (q : Int), .int .i64 0], .agg #[.int .i64 1, .int .u8 0, .slice A6 0 c6, .string ⟨#[]⟩, .int .u8 F, .string ⟨#[]⟩], .int .i64 (q : Int), .int .i64 0, .int .i64 0, .bool false, .bool false, .int .i64 (q : Int), .slice A5 q c5, .int .i64 (q : Int), .bool false, .bool false, .pointer (some ⟨w3.heap.size, 0, none⟩), .int .i64 3, .bool false, undef, undef, undef, undef, undef, undef, undef, undef, undef, undef, undef, undef, undef, undef, undef, undef, undef, undef, undef, undef, undef, .bool true, .bool true, .pointer (some ⟨w6.heap.size, 4, none⟩), .int .u8 F, .pointer (some ⟨w3.heap.size, 1, none⟩), .int .u8 F, .bool true, .bool true, .bool true, .agg #[.int .i64 1, .int .u8 0, .slice A6 0 c6, .string ⟨#[]⟩, .int .u8 F, .string ⟨#[]⟩], .int .i64 1, .pointer (some ⟨w1.heap.size, 1, none⟩), .int .i64 0, .int .i64 1, .bool true, .bool true, .bool true, .pointer (some ⟨w6.heap.size, 0, none⟩), .int .i64 1, .bool false, .pointer (some ⟨w1.heap.size, 1, none⟩), .int .i64 0, .bool true, .bool true, .pointer (some ⟨w.heap.size, 0, none⟩), .bool false, .bool false, .pointer (some ⟨w3.heap.size, 1, none⟩), .int .u8 F, .bool false, .bool false, .bool false, .bool true, .bool true], []⟩) [.bool true, .bool true, .pointer (some ⟨w6.heap.size, 4, none⟩), .int .u8 F, .pointer (some ⟨w3.heap.size, 1, none⟩), .int .u8 F, .bool true, .bool true, .bool true, .agg #[.int .i64 1, .int .u8 0, .slice A6 0 c6, .string ⟨#[]⟩, .int .u8 F, .string ⟨#[]⟩], .int .i64 1, .pointer (some ⟨w1.heap.size, 1, none⟩), .int .i64 0, .int .i64 1, .bool true, .bool true, .bool true, .pointer (some ⟨w6.heap.size, 0, none⟩), .int .i64 1, .bool false, .pointer (some ⟨w1.heap.size, 1, none⟩), .int .i64 0, .bool true, .bool true, .pointer (some ⟨w.heap.size, 0, none⟩), .bool false, .bool false, .pointer (some ⟨w3.heap.size, 1, none⟩), .int .u8 F, .bool false, .bool false, .bool false, .bool true, .bool true, .bool true] (by kernel_rfl) (by kernel_rfl) (by kernel_rfl) (fun g => by kernel_rfl) (by kernel_rfl) (Below.refl _ _).drew (by decide) (by kernel_rfl)
    (goes_cons (goesK_pure (fun _ => .bool true) rfl (by decide) (by decide) (by kernel_rfl) (fun g => by kernel_rfl) rfl (fun g => by kernel_rfl) (fun g w => by kernel_rfl)) 
    (goes_cons (goesK_pure (fun _ => .bool true) rfl (by decide) (by decide) (by kernel_rfl) (fun g => by kernel_rfl) rfl (fun g => by kernel_rfl) (fun g w => by kernel_rfl)) 
    (goes_cons (goesK_pure (fun _ => .pointer (some ⟨w6.heap.size, 4, none⟩)) rfl (by decide) (by decide) (by kernel_rfl) (fun g => by kernel_rfl) rfl (fun g => by kernel_rfl) (fun g w => by kernel_rfl)) 
    (goes_cons (goesK_cell hst (ahead_none (by decide)) rfl (by decide) (by decide) (by kernel_rfl) (fun g => by kernel_rfl) rfl (fun g => by kernel_rfl) rfl (fun g => by kernel_rfl) (fun W hW => (ls W hW).cell 4) (fun w => by kernel_rfl)) 
    (goes_cons (goesK_pure (fun _ => .pointer (some ⟨w3.heap.size, 1, none⟩)) rfl (by decide) (by decide) (by kernel_rfl) (fun g => by kernel_rfl) rfl (fun g => by kernel_rfl) (fun g w => by kernel_rfl)) 
    (goes_cons (goesK_cell hst (ahead_none (by decide)) rfl (by decide) (by decide) (by kernel_rfl) (fun g => by kernel_rfl) rfl (fun g => by kernel_rfl) rfl (fun g => by kernel_rfl) (fun W hW => (le W hW).cell 1) (fun w => by kernel_rfl)) 
    (goes_cons (goesK_bin (v := .bool true) (xv := .int .u8 F) (yv := .int .u8 F) rfl (by decide) (by decide) (by kernel_rfl) (fun g => by kernel_rfl) rfl (fun g => by kernel_rfl) rfl (fun g => by kernel_rfl) (fun g => by kernel_rfl) (fun w => by go_simp)) 
    (goes_cons (goesK_pure (fun _ => .bool true) rfl (by decide) (by decide) (by kernel_rfl) (fun g => by kernel_rfl) rfl (fun g => by kernel_rfl) (fun g w => by kernel_rfl)) 
    (goes_cons (goesK_pure (fun _ => .bool true) rfl (by decide) (by decide) (by kernel_rfl) (fun g => by kernel_rfl) rfl (fun g => by kernel_rfl) (fun g w => by kernel_rfl)) 
    (goes_cons (goesK_load hst (ahead_none (by decide)) rfl (by decide) (by decide) (by kernel_rfl) (fun g => by kernel_rfl) rfl (fun g => by kernel_rfl) rfl (fun g => by kernel_rfl) ls Tryd.underlying36 rfl (by kernel_rfl)) 
    (goes_cons (goesK_call (args := fun g => #[.agg #[.int .i64 1, .int .u8 0, .slice A6 0 c6, .string ⟨#[]⟩, .int .u8 F, .string ⟨#[]⟩], .int .i64 1, .int .i64 1]) hst (ahead_none (by decide)) rfl (by decide) (by decide) (by kernel_rfl) (fun g => by kernel_rfl) rfl (fun g => by kernel_rfl) (fun g w => by kernel_rfl) (fun g W hW hin => LegF.arg_at H (v := 1) (l := []) (n := 0) rfl (by decide) F0 F1 A6 c6 W (HV.out W hW) (by exact arg_over (by simp)) (by decide) (by decide) (lr W hW))) 
    (goes_cons (goesK_pure (fun _ => .pointer (some ⟨w1.heap.size, 1, none⟩)) rfl (by decide) (by decide) (by kernel_rfl) (fun g => by kernel_rfl) rfl (fun g => by kernel_rfl) (fun g w => by kernel_rfl)) 
    (goes_cons (goesK_cell hst (ahead_none (by decide)) rfl (by decide) (by decide) (by kernel_rfl) (fun g => by kernel_rfl) rfl (fun g => by kernel_rfl) rfl (fun g => by kernel_rfl) (fun W hW => (lk W hW).cell 1) (fun w => by kernel_rfl)) 
    (goes_cons (goesK_bin (v := .int .i64 1) (xv := .int .i64 1) (yv := .int .i64 0) rfl (by decide) (by decide) (by kernel_rfl) (fun g => by kernel_rfl) rfl (fun g => by kernel_rfl) rfl (fun g => by kernel_rfl) (fun g => by kernel_rfl) (fun w => by kernel_rfl)) 
    (goes_cons (goesK_bin (v := .bool true) (xv := .int .i64 1) (yv := .int .i64 1) rfl (by decide) (by decide) (by kernel_rfl) (fun g => by kernel_rfl) rfl (fun g => by kernel_rfl) rfl (fun g => by kernel_rfl) (fun g => by kernel_rfl) (fun w => by go_simp)) 
    (goes_cons (goesK_pure (fun _ => .bool true) rfl (by decide) (by decide) (by kernel_rfl) (fun g => by kernel_rfl) rfl (fun g => by kernel_rfl) (fun g w => by kernel_rfl)) 
    (goes_cons (goesK_pure (fun _ => .bool true) rfl (by decide) (by decide) (by kernel_rfl) (fun g => by kernel_rfl) rfl (fun g => by kernel_rfl) (fun g w => by kernel_rfl)) 
    (goes_cons (goesK_pure (fun _ => .pointer (some ⟨w6.heap.size, 0, none⟩)) rfl (by decide) (by decide) (by kernel_rfl) (fun g => by kernel_rfl) rfl (fun g => by kernel_rfl) (fun g w => by kernel_rfl)) 
    (goes_cons (goesK_cell hst (ahead_none (by decide)) rfl (by decide) (by decide) (by kernel_rfl) (fun g => by kernel_rfl) rfl (fun g => by kernel_rfl) rfl (fun g => by kernel_rfl) (fun W hW => (ls W hW).cell 0) (fun w => by kernel_rfl)) 
    (goes_cons (goesK_bin (v := .bool false) (xv := .int .i64 1) (yv := .int .i64 2) rfl (by decide) (by decide) (by kernel_rfl) (fun g => by kernel_rfl) rfl (fun g => by kernel_rfl) rfl (fun g => by kernel_rfl) (fun g => by kernel_rfl) (fun w => by go_simp)) 
    (goes_cons (goesK_pure (fun _ => .pointer (some ⟨w1.heap.size, 1, none⟩)) rfl (by decide) (by decide) (by kernel_rfl) (fun g => by kernel_rfl) rfl (fun g => by kernel_rfl) (fun g w => by kernel_rfl)) 
    (goes_cons (goesK_cell hst (ahead_none (by decide)) rfl (by decide) (by decide) (by kernel_rfl) (fun g => by kernel_rfl) rfl (fun g => by kernel_rfl) rfl (fun g => by kernel_rfl) (fun W hW => (lk W hW).cell 1) (fun w => by kernel_rfl)) 
    (goes_cons (goesK_bin (v := .bool true) (xv := .int .i64 0) (yv := .int .i64 0) rfl (by decide) (by decide) (by kernel_rfl) (fun g => by kernel_rfl) rfl (fun g => by kernel_rfl) rfl (fun g => by kernel_rfl) (fun g => by kernel_rfl) (fun w => by go_simp)) 
    (goes_cons (goesK_pure (fun _ => .bool true) rfl (by decide) (by decide) (by kernel_rfl) (fun g => by kernel_rfl) rfl (fun g => by kernel_rfl) (fun g w => by kernel_rfl)) 
    (goes_cons (goesK_pure (fun _ => .pointer (some ⟨w.heap.size, 0, none⟩)) rfl (by decide) (by decide) (by kernel_rfl) (fun g => by kernel_rfl) rfl (fun g => by kernel_rfl) (fun g w => by kernel_rfl)) 
    (goes_cons (goesK_cell hst (ahead_none (by decide)) rfl (by decide) (by decide) (by kernel_rfl) (fun g => by kernel_rfl) rfl (fun g => by kernel_rfl) rfl (fun g => by kernel_rfl) (fun W hW => (la W hW).cell 0) (fun w => by kernel_rfl)) 
    (goes_cons (goesK_pure (fun _ => .bool false) rfl (by decide) (by decide) (by kernel_rfl) (fun g => by kernel_rfl) rfl (fun g => by kernel_rfl) (fun g w => by kernel_rfl)) 
    (goes_cons (goesK_pure (fun _ => .pointer (some ⟨w3.heap.size, 1, none⟩)) rfl (by decide) (by decide) (by kernel_rfl) (fun g => by kernel_rfl) rfl (fun g => by kernel_rfl) (fun g w => by kernel_rfl)) 
    (goes_cons (goesK_cell hst (ahead_none (by decide)) rfl (by decide) (by decide) (by kernel_rfl) (fun g => by kernel_rfl) rfl (fun g => by kernel_rfl) rfl (fun g => by kernel_rfl) (fun W hW => (le W hW).cell 1) (fun w => by kernel_rfl)) 
    (goes_cons (goesK_bin (v := .bool false) (xv := .int .u8 F) (yv := .int .u8 80) rfl (by decide) (by decide) (by kernel_rfl) (fun g => by kernel_rfl) rfl (fun g => by kernel_rfl) rfl (fun g => by kernel_rfl) (fun g => by kernel_rfl) (fun w => by have e : decide (80 ≤ F) = false := decide_eq_false (by omega); go_simp)) 
    (goes_cons (goesK_pure (fun _ => .bool false) rfl (by decide) (by decide) (by kernel_rfl) (fun g => by kernel_rfl) rfl (fun g => by kernel_rfl) (fun g w => by kernel_rfl)) 
    (goes_cons (goesK_pure (fun _ => .bool false) rfl (by decide) (by decide) (by kernel_rfl) (fun g => by kernel_rfl) rfl (fun g => by kernel_rfl) (fun g w => by kernel_rfl)) 
    (goes_cons (goesK_bin (v := .bool true) (xv := .bool false) (yv := .bool false) rfl (by decide) (by decide) (by kernel_rfl) (fun g => by kernel_rfl) rfl (fun g => by kernel_rfl) rfl (fun g => by kernel_rfl) (fun g => by kernel_rfl) (fun w => by go_simp)) 
    (goes_cons (goesK_pure (fun _ => .bool true) rfl (by decide) (by decide) (by kernel_rfl) (fun g => by kernel_rfl) rfl (fun g => by kernel_rfl) (fun g w => by kernel_rfl)) 
    (goes_cons (goesK_pure (fun _ => .bool true) rfl (by decide) (by decide) (by kernel_rfl) (fun g => by kernel_rfl) rfl (fun g => by kernel_rfl) (fun g w => by kernel_rfl)) goes_nil))))))))))))))))))))))))))))))))))) ?_
  intro g W hW _
  go_wp2_with fail
  go_ret
  exact ⟨rfl, hB7.trans (hW.mono hB7.size)⟩
set_option maxRecDepth 100000 in
set_option maxHeartbeats 16000000 in
theorem legacyForms_kind (H : LegF Inv) (m : Mo) (code mods cd o K F N C : Int) (B : Bool) (l0 : 0 ≤ code) (p0 : 0 ≤ mods) (hcd : 57348 + code % 80 = cd) (ho : mods % 8 = o) (hE : lookE cd = ⟨K, F, N, C, B⟩) (h3 : K ≠ 3) (h4 : K ≠ 4) (w : World) (hv : Inv w) :
    Calls Tryd.prog 4 #[moV m, .int .u8 code, .int .u8 mods] w fun e w' => e = .returned (.bool true) ∧ Below w.heap.size w w' := by
  have ic : in10 cd := ⟨by omega, by omega⟩
  have HL : Hid (∀ W, Inv W → Calls Tryd.prog 10 #[.int .i64 cd] W fun e w' => e = .returned (.agg #[.int .i64 K, .int .u8 F, .int .i64 N, .int .i64 C, .bool B]) ∧ Below W.heap.size W w') := Lib.hid fun W hW => H.toLegC.look_at W hW ic hE
  have tm1 : Int.tmod code 80 = code % 80 := Int.tmod_eq_emod_of_nonneg l0
  have tm2 : Int.tmod mods 8 = mods % 8 := Int.tmod_eq_emod_of_nonneg p0
  have w1_ : IntKind.u8.wrap (code % 80) = code % 80 := by rw [IntKind.wrap_u8]; omega
  have w2_ : IntKind.u8.wrap (mods % 8) = mods % 8 := by rw [IntKind.wrap_u8]; omega
  have o0 : 0 ≤ o ∧ o < 8 := by omega
  have u3 : (K == 3) = false := beq_false_of_ne h3
  have u4 : (K == 4) = false := beq_false_of_ne h4
  have v3 : (K != 3) = true := by simp [bne, u3]
  have v4 : (K != 4) = true := by simp [bne, u4]
  clear hE ic h3 h4
  simp only [moV]
  obtain ⟨m0, m1, m2, m3, m4, m5, m6, m7, m8, m9⟩ := m
  have hB := (Below.refl w.heap.size w).alloc (Nat.le_refl _) (.cells #[.bool m0, .bool m1, .bool m2, .bool m3, .bool m4, .bool m5, .bool m6, .int .i64 m7, .int .i64 m8, .int .i64 m9] 23)
  have hv0 := H.invB hv hB
  go_enter Tryd.func4, Tryd.ntmps4
  go_wp2_with fail
  refine (legAwake H.toLegC _ hv0).mono ?_
  rintro e w1 ⟨rfl, hb1⟩
  have hB1 := hB.trans (hb1.mono hB.size)
  clear hv0 hB hb1
  go_upto_region 3 with (fail)
  have k2 := Blk.new w1 25 #[.int .i64 cd, .int .i64 o, .int .i64 1, .int .i64 0, .int .i64 0, .string ⟨#[]⟩]
  have hB2 := hB1.alloc hB1.size (.cells #[.int .i64 cd, .int .i64 o, .int .i64 1, .int .i64 0, .int .i64 0, .string ⟨#[]⟩] 25)
  generalize w1.alloc (.cells #[.int .i64 cd, .int .i64 o, .int .i64 1, .int .i64 0, .int .i64 0, .string ⟨#[]⟩] 25) = W2 at *
  have hv2 := H.invB hv hB2
  obtain ⟨z0, z1, z2, z3, z4, z5⟩ := Blk.cells6 k2
  go_wp2_with fail
  refine (HL.out _ hv2).mono ?_
  rintro e w3 ⟨rfl, hb3⟩
  have hB3 := (hB2.trans (hb3.mono hB2.size)).alloc (hB2.trans (hb3.mono hB2.size)).size (.cells #[.int .i64 K, .int .u8 F, .int .i64 N, .int .i64 C, .bool B] 32)
  go_wp2_with fail
  go_ret
  exact ⟨rfl, hB3⟩
theorem legacyForms_walk (H : LegF Inv) (m : Mo) (_ : okM m) (code : Int) (l0 : 0 ≤ code) (l1 : code ≤ 255) (mods : Int) (p0 : 0 ≤ mods) (p1 : mods ≤ 255) (w : World) (hv : Inv w) :
    Calls Tryd.prog 4 #[moV m, .int .u8 code, .int .u8 mods] w fun e w' => e = .returned (.bool true) ∧ Below w.heap.size w w' := by
  obtain ⟨cd, hcd⟩ : ∃ cd, 57348 + code % 80 = cd := ⟨_, rfl⟩
  obtain ⟨o, ho⟩ : ∃ o, mods % 8 = o := ⟨_, rfl⟩
  have o0 : 0 ≤ o ∧ o < 8 := by omega
  obtain ⟨⟨K, F, N, C, B⟩, hE⟩ : ∃ E, lookE cd = E := ⟨_, rfl⟩
  have hf := form_e cd
  have hc := (char_e cd).2
  rw [hE] at hf hc
  obtain ⟨f4, f3, _⟩ := hf
  simp only at f4 f3 hc
  by_cases h4 : K = 4
  · subst h4
    have hQ := func_put m (c := cd) (o := o) (by rw [hE]; exact .inr rfl) o0.1 o0.2
    have hL := leg_func m (c := cd) (o := o) (by rw [hE]; exact .inr rfl) o0.1 o0.2
    have hb := f4 rfl
    unfold funcQ at hQ hL
    rw [hE, if_pos (show (4 : Int) = 4 from rfl)] at hQ hL
    by_cases hz : o = 0
    · subst hz
      rw [if_pos rfl] at hQ hL
      exact legacyForms_n0 H m code mods cd F N C B l0 l1 p0 p1 hcd ho hE hc.1 (by omega) hQ.1 hL hb.1 w hv
    · rw [if_neg hz] at hQ hL
      exact legacyForms_n1 H m code mods cd o F N C B l0 l1 p0 p1 hcd ho hE hc.1 (by omega) hQ.1 hL hb.1 (by omega) w hv
  · by_cases h3 : K = 3
    · subst h3
      have hQ := func_put m (c := cd) (o := o) (by rw [hE]; exact .inl rfl) o0.1 o0.2
      have hL := leg_func m (c := cd) (o := o) (by rw [hE]; exact .inl rfl) o0.1 o0.2
      unfold funcQ at hQ hL
      rw [hE, if_neg (show ¬ (3 : Int) = 4 by decide)] at hQ hL
      by_cases hz : 0 < o
      · rw [if_pos hz] at hQ hL
        exact legacyForms_l1 H m code mods cd o F N C B l0 l1 p0 p1 hcd ho hE hc.1 (by omega) hQ.1 hL hz w hv
      · obtain rfl : o = 0 := by omega
        rw [if_neg hz] at hQ hL
        cases hm : m.cursor with
        | true =>
          rw [hm] at hQ hL
          rw [if_pos (by simp)] at hQ hL
          exact legacyForms_lc H m code mods cd F N C B l0 l1 p0 p1 hcd ho hE hc.1 (by omega) hQ.1 hL hm w hv
        | false =>
          rw [hm] at hQ hL
          by_cases hF : 80 ≤ F
          · rw [if_pos (by simp [hF])] at hQ hL
            exact legacyForms_lf H m code mods cd F N C B l0 l1 p0 p1 hcd ho hE hc.1 (by omega) hQ.1 hL hm hF w hv
          · rw [if_neg (by simp; omega)] at hQ hL
            exact legacyForms_ln H m code mods cd F N C B l0 l1 p0 p1 hcd ho hE hc.1 (by omega) hQ.1 hL hm (by omega) w hv
    · exact legacyForms_kind H m code mods cd o K F N C B l0 p0 hcd ho hE h3 h4 w hv
end Go.Proofs.YtbjmfhcgkpjcfaaDoor
