/-
  Layer 10: what a law needs of the program's mods; and the example that each statement asks.
-/
import Derived.Test.YtdhpbihooeckoaaDoorMdsO
namespace Go.Proofs.YtdhpbihooeckoaaDoor
open Go.RowKit

structure MdsC (Inv : World → Prop) : Prop where
  invB : ∀ {w w' : World}, Inv w → Below w.heap.size w w' → Inv w'
  may : ∀ (k : Ky) (w : World), Inv w → okK k → k.text.size ≤ 4294967296 → Calls Tryd.prog 10 #[kyV k] w fun e w' => e = .returned (.bool (mayK k)) ∧ Below w.heap.size w w'
  old : ∀ (n : Int) (w : World), Inv w → in10 n → Calls Tryd.prog 16 #[.int .i64 n] w fun e w' => e = .returned (.int .i64 (oldN n)) ∧ Below w.heap.size w w'
  param : ∀ (n : Int) (w : World), Inv w → in10 n → Calls Tryd.prog 18 #[.int .i64 n] w fun e w' => e = .returned (.int .i64 (paramN n)) ∧ Below w.heap.size w w'
  of : ∀ (n : Int) (w : World), Inv w → in10 n → Calls Tryd.prog 14 #[.int .i64 n] w fun e w' => e = .returned (.tuple #[.int .i64 (ofN n).1, .bool (ofN n).2]) ∧ Below w.heap.size w w'
  shown : ∀ (k : Ky) (w : World), Inv w → okK k → Calls Tryd.prog 12 #[kyV k] w fun e w' => e = .returned (.int .i64 (shownK k)) ∧ Below w.heap.size w w'
  fold : ∀ (c : Int) (w : World), Inv w → in10 c → Calls Tryd.prog 20 #[.int .i64 c] w fun e w' => e = .returned (.tuple #[.int .i64 (foldN c).1, .bool (foldN c).2]) ∧ Below w.heap.size w w'
variable {Inv : World → Prop}
theorem MdsC.fold_at (H : MdsC Inv) {c x : Int} {b : Bool} (w : World) (hi : Inv w) (hc : in10 c) (h : foldN c = (x, b)) : Calls Tryd.prog 20 #[.int .i64 c] w fun e w' => e = .returned (.tuple #[.int .i64 x, .bool b]) ∧ Below w.heap.size w w' := by
  have := H.fold c w hi hc
  rwa [h] at this
theorem MdsC.of_at (H : MdsC Inv) {c x : Int} {b : Bool} (w : World) (hi : Inv w) (hc : in10 c) (h : ofN c = (x, b)) : Calls Tryd.prog 14 #[.int .i64 c] w fun e w' => e = .returned (.tuple #[.int .i64 x, .bool b]) ∧ Below w.heap.size w w' := by
  have := H.of c w hi hc
  rwa [h] at this
theorem rfold_at {c x : Int} {b : Bool} (w : World) (h : foldN c = (x, b)) : Calls Tryd.prog 21 #[.int .i64 c] w fun e w' => e = .returned (.tuple #[.int .i64 x, .bool b]) ∧ Below w.heap.size w w' := by
  have := rfold_any c w
  rwa [h] at this
theorem rof_at {c x : Int} {b : Bool} (w : World) (h : ofN c = (x, b)) : Calls Tryd.prog 15 #[.int .i64 c] w fun e w' => e = .returned (.tuple #[.int .i64 x, .bool b]) ∧ Below w.heap.size w w' := by
  have := rof_any c w
  rwa [h] at this
theorem MdsC.param_at (H : MdsC Inv) {c x : Int} (w : World) (hi : Inv w) (hc : in10 c) (h : paramN c = x) : Calls Tryd.prog 18 #[.int .i64 c] w fun e w' => e = .returned (.int .i64 x) ∧ Below w.heap.size w w' := by
  have := H.param c w hi hc
  rwa [h] at this
theorem MdsC.old_at (H : MdsC Inv) {c x : Int} (w : World) (hi : Inv w) (hc : in10 c) (h : oldN c = x) : Calls Tryd.prog 16 #[.int .i64 c] w fun e w' => e = .returned (.int .i64 x) ∧ Below w.heap.size w w' := by
  have := H.old c w hi hc
  rwa [h] at this
theorem MdsC.may_at (H : MdsC Inv) {v : Bool} {code mods typ shift base : Int} {text : ByteArray} (w : World) (hi : Inv w) (hk : okK ⟨code, mods, typ, shift, base, text⟩) (hs : text.size ≤ 4294967296) (h : mayK ⟨code, mods, typ, shift, base, text⟩ = v) :
    Calls Tryd.prog 10 #[.agg #[.int .i64 code, .int .i64 mods, .int .i64 typ, .int .i64 shift, .int .i64 base, .string text]] w fun e w' => e = .returned (.bool v) ∧ Below w.heap.size w w' := by
  have := H.may ⟨code, mods, typ, shift, base, text⟩ w hi hk hs
  rwa [h] at this
theorem MdsC.shown_at (H : MdsC Inv) {v : Int} {code mods typ shift base : Int} {text : ByteArray} (w : World) (hi : Inv w) (hk : okK ⟨code, mods, typ, shift, base, text⟩) (h : shownK ⟨code, mods, typ, shift, base, text⟩ = v) :
    Calls Tryd.prog 12 #[.agg #[.int .i64 code, .int .i64 mods, .int .i64 typ, .int .i64 shift, .int .i64 base, .string text]] w fun e w' => e = .returned (.int .i64 v) ∧ Below w.heap.size w w' := by
  have := H.shown ⟨code, mods, typ, shift, base, text⟩ w hi hk
  rwa [h] at this
theorem rmay_at10 {v : Bool} {code mods typ shift base : Int} {text : ByteArray} (w : World) (hs : text.size ≤ 4294967296) (h : mayK ⟨code, mods, typ, shift, base, text⟩ = v) :
    Calls Tryd.prog 11 #[.agg #[.int .i64 code, .int .i64 mods, .int .i64 typ, .int .i64 shift, .int .i64 base, .string text]] w fun e w' => e = .returned (.bool v) ∧ Below w.heap.size w w' := by
  have := rmay10_any ⟨code, mods, typ, shift, base, text⟩ hs w
  rwa [h] at this
theorem rshown_at10 {v : Int} {code mods typ shift base : Int} {text : ByteArray} (w : World) (hk : okK ⟨code, mods, typ, shift, base, text⟩) (h : shownK ⟨code, mods, typ, shift, base, text⟩ = v) :
    Calls Tryd.prog 13 #[.agg #[.int .i64 code, .int .i64 mods, .int .i64 typ, .int .i64 shift, .int .i64 base, .string text]] w fun e w' => e = .returned (.int .i64 v) ∧ Below w.heap.size w w' := by
  have := rshown_any ⟨code, mods, typ, shift, base, text⟩ hk w
  rwa [h] at this
theorem in_lit {c : Int} (h : (decide (-9223372036854775808 ≤ c) && decide (c ≤ 9223372036854775807)) = true) : in10 c := by
  simpa [in10] using h
theorem ok_lit (code mods typ : Int) (h1 : in10 code) (h2 : in10 mods) (h3 : in10 typ) (text : ByteArray) : okK ⟨code, mods, typ, 0, 0, text⟩ := ⟨h1, h2, h3, in_lit (c := 0) (by decide), in_lit (c := 0) (by decide)⟩
set_option maxRecDepth 100000 in
set_option maxHeartbeats 8000000 in
theorem mdsAwake (H : MdsC Inv) (w0 : World) (hv0 : Inv w0) : Calls Tryd.prog 9 #[] w0 fun e w' => e = .returned (.bool true) ∧ Below w0.heap.size w0 w' := by
  have hB0 : Below w0.heap.size w0 w0 := Below.refl _ _
  go_enter Tryd.func9, Tryd.ntmps9
  go_wp2_with fail
  refine (H.fold_at (c := 99) (x := 3) (b := true) _ hv0 (in_lit (by decide)) (by decide)).mono ?_
  rintro e w1 ⟨rfl, hb1⟩
  have hv1 := H.invB hv0 hb1
  have hB1 := hB0.trans (hb1.mono hB0.size)
  clear hv0 hB0 hb1
  go_wp2_with fail
  refine (H.fold_at (c := 49) (x := 0) (b := false) _ hv1 (in_lit (by decide)) (by decide)).mono ?_
  rintro e w2 ⟨rfl, hb2⟩
  have hv2 := H.invB hv1 hb2
  have hB2 := hB1.trans (hb2.mono hB1.size)
  clear hv1 hB1 hb2
  go_wp2_with fail
  refine (H.param_at (c := 5) (x := 6) _ hv2 (in_lit (by decide)) (by decide)).mono ?_
  rintro e w3 ⟨rfl, hb3⟩
  have hv3 := H.invB hv2 hb3
  have hB3 := hB2.trans (hb3.mono hB2.size)
  clear hv2 hB2 hb3
  go_wp2_with fail
  refine (H.shown_at (v := 65) (code := 97) (mods := 1) (typ := 0) (shift := 0) (base := 0) (text := ByteArray.empty) _ hv3 (ok_lit _ _ _ (in_lit (by decide)) (in_lit (by decide)) (in_lit (by decide)) _) (by decide)).mono ?_
  rintro e w4 ⟨rfl, hb4⟩
  have hv4 := H.invB hv3 hb4
  have hB4 := hB3.trans (hb4.mono hB3.size)
  clear hv3 hB3 hb4
  go_wp2_with fail
  refine (H.may_at (v := true) (code := 97) (mods := 0) (typ := 1) (shift := 0) (base := 0) (text := ByteArray.empty) _ hv4 (ok_lit _ _ _ (in_lit (by decide)) (in_lit (by decide)) (in_lit (by decide)) _) (by decide) (by decide +kernel)).mono ?_
  rintro e w5 ⟨rfl, hb5⟩
  have hv5 := H.invB hv4 hb5
  have hB5 := hB4.trans (hb5.mono hB4.size)
  clear hv4 hB4 hb5
  go_wp2_with fail
  refine (H.may_at (v := false) (code := 97) (mods := 0) (typ := 0) (shift := 0) (base := 0) (text := ByteArray.empty) _ hv5 (ok_lit _ _ _ (in_lit (by decide)) (in_lit (by decide)) (in_lit (by decide)) _) (by decide) (by decide +kernel)).mono ?_
  rintro e w6 ⟨rfl, hb6⟩
  have hv6 := H.invB hv5 hb6
  have hB6 := hB5.trans (hb6.mono hB5.size)
  clear hv5 hB5 hb6
  go_wp2_with fail
  go_ret
  exact ⟨rfl, hB6⟩
end Go.Proofs.YtdhpbihooeckoaaDoor
