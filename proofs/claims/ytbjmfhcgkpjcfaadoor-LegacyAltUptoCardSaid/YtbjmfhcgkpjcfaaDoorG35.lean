/-
  Layer 11: what a law needs of the program; and the example that each statement asks. Stage 11, the landed legacy: a key of the pad. From what a row lists to memory: the array of sizes.
-/
import Derived.Test.YtbjmfhcgkpjcfaaDoorG03
import Derived.Test.YtbjmfhcgkpjcfaaDoorG06
import Derived.Test.YtbjmfhcgkpjcfaaDoorG09
import Derived.Test.YtbjmfhcgkpjcfaaDoorG15
import Derived.Test.YtbjmfhcgkpjcfaaDoorG16
import Derived.Test.YtbjmfhcgkpjcfaaDoorG17
import Derived.Test.YtbjmfhcgkpjcfaaDoorG27
import Derived.Test.YtbjmfhcgkpjcfaaDoorG31
import Derived.Test.YtbjmfhcgkpjcfaaDoorG34
import Derived.Test.YtbjmfhcgkpjcfaaDoorRows
import Derived.OpenShut
namespace Go.Proofs.YtbjmfhcgkpjcfaaDoor
open Go.RowKit

structure LegC (Inv : World → Prop) : Prop where
  invB : ∀ {w w' : World}, Inv w → Below w.heap.size w w' → Inv w'
  key : ∀ (m : Mo) (k : Ky) (w : World), Inv w → okK k → k.text.size ≤ 4294967296 → Calls Tryd.prog 9 #[moV m, kyV k] w (Out (legL m k) w)
  look : ∀ (c : Int) (w : World), Inv w → in10 c → Calls Tryd.prog 10 #[.int .i64 c] w fun e w' => e = .returned (enV (lookE c)) ∧ Below w.heap.size w w'
variable {Inv : World → Prop}
/-- What a call that tells bytes leaves. -/
def KeyE (L : List UInt8) (n : Nat) (w : World) (e : Ending) (w' : World) : Prop := ∃ A c, e = .returned (.slice A n c) ∧ Rd w' A (bs L) ∧ Below w.heap.size w w'
theorem keyE {L : List UInt8} {n : Nat} (hn : L.length = n) {w w' : World} {e : Ending} (h : Out L w e w') : KeyE L n w e w' := by subst hn; exact h
theorem LegC.key_at (H : LegC Inv) (m : Mo) (k : Ky) {L : List UInt8} (hL : legL m k = L) (n : Nat) (hn : L.length = n) (hk : okK k) (hs : k.text.size ≤ 4294967296) (w : World) (hi : Inv w) :
    Calls Tryd.prog 9 #[moV m, kyV k] w (KeyE L n w) := by
  subst hL
  exact (H.key m k w hi hk hs).mono fun e w' h => keyE hn h
theorem LegC.look_at (H : LegC Inv) {c K F N C : Int} {B : Bool} (w : World) (hi : Inv w) (hc : in10 c) (h : lookE c = ⟨K, F, N, C, B⟩) : Calls Tryd.prog 10 #[.int .i64 c] w fun e w' => e = .returned (.agg #[.int .i64 K, .int .u8 F, .int .i64 N, .int .i64 C, .bool B]) ∧ Below w.heap.size w w' := by
  have := H.look c w hi hc
  rwa [h] at this
theorem in_lit11 {c : Int} (h : (decide (-9223372036854775808 ≤ c) && decide (c ≤ 9223372036854775807)) = true) : in10 c := by
  simpa [in10] using h
theorem ok_lit11 {code mods typ : Int} (h1 : in10 code) (h2 : in10 mods) (h3 : in10 typ) (text : ByteArray) : okK ⟨code, mods, typ, 0, 0, text⟩ := ⟨h1, h2, h3, in_lit11 (c := 0) (by decide), in_lit11 (c := 0) (by decide)⟩
theorem str_lit {w : World} {A : Option Addr} {L : List UInt8} {n c : Nat} (hn : L.length = n) (h : Rd w A (bs L)) : (convert 28 9 (.slice A n c)).run Tryd.prog w = .ok (.string ⟨L.toArray⟩) w :=
  conv_str (P := Tryd.prog) Tryd.underlying28 Tryd.underlying5 hn h _ Tryd.underlying9
set_option maxRecDepth 100000 in
set_option maxHeartbeats 8000000 in
theorem legAwake (H : LegC Inv) (w0 : World) (hv0 : Inv w0) : Calls Tryd.prog 7 #[] w0 fun e w' => e = .returned (.bool true) ∧ Below w0.heap.size w0 w' := by
  go_enter Tryd.func7, Tryd.ntmps7
  go_wp2_with fail
  refine (H.key_at mo0 ⟨99, 4, 1, 0, 0, ByteArray.empty⟩ (L := [3]) (by decide +kernel) 1 rfl (ok_lit11 (in_lit11 (by decide)) (in_lit11 (by decide)) (in_lit11 (by decide)) _) (by decide) _ hv0).mono ?_
  rintro e w1 ⟨A1, c1, rfl, hr1, hb1⟩
  have hv1 := H.invB hv0 hb1
  go_wp2_with fail
  refine (H.key_at { mo0 with cursor := true } ⟨57352, 0, 1, 0, 0, ByteArray.empty⟩ (L := [27, 79, 65]) (by decide +kernel) 3 rfl (ok_lit11 (in_lit11 (by decide)) (in_lit11 (by decide)) (in_lit11 (by decide)) _) (by decide) _ hv1).mono ?_
  rintro e w2 ⟨A2, c2, rfl, hr2, hb2⟩
  have hr1b := hr1.below hb2
  have hv2 := H.invB hv1 hb2
  have hB2 := hb1.trans (hb2.mono hb1.size)
  clear hr1 hb1 hb2 hv1
  go_wp2_with fail
  refine (H.key_at { mo0 with cursor := true } ⟨57352, 1, 1, 0, 0, ByteArray.empty⟩ (L := [27, 91, 49, 59, 50, 65]) (by decide +kernel) 6 rfl (ok_lit11 (in_lit11 (by decide)) (in_lit11 (by decide)) (in_lit11 (by decide)) _) (by decide) _ hv2).mono ?_
  rintro e w3 ⟨A3, c3, rfl, hr3, hb3⟩
  have s1 := str_lit (n := 1) (c := c1) rfl (hr1b.below hb3)
  have s2 := str_lit (n := 3) (c := c2) rfl (hr2.below hb3)
  have s3 := str_lit (n := 6) (c := c3) rfl hr3
  have hB3 := hB2.trans (hb3.mono hB2.size)
  clear hr1b hr2 hr3 hb3 hB2 hv2
  go_wp2_with fail
  go_ret
  exact ⟨rfl, hB3⟩
end Go.Proofs.YtbjmfhcgkpjcfaaDoor
namespace Go.Proofs.YtbjmfhcgkpjcfaaDoor
open Go.RowKit

set_option maxRecDepth 100000 in
set_option maxHeartbeats 8000000 in
theorem lpad_seq (m : Mo) (k : Ky) (e : En) (o : Int) (f0 : 64 ≤ e.fin) (f1 : e.fin ≤ 126) (hq : m.keypad = true ∧ o = 0) (L : List UInt8) (n : Nat) (hL : putS (sqN 2 e.fin []) = L) (hn : L.length = n) (w : World) (hT : Tab w) :
    Calls Tryd.prog 43 #[.agg (evC m k e o)] w (OutR false L n w) := by
  obtain ⟨hk, rfl⟩ := hq
  have hB : Below w.heap.size w (w.alloc (.cells (evC m k e 0) 52)) := (Below.refl _ _).alloc (Nat.le_refl _) _
  have k0 := Blk.new w 52 (evC m k e 0)
  obtain ⟨a16, a17, a18, a19, a20⟩ := ev_ent k0
  have a21 := ev_old k0
  obtain ⟨a10, a11, a12, a13, a14, a15⟩ := ev_key k0
  obtain ⟨c0, c1, c2, c3, c4, c5, c6, c7, c8, c9⟩ := ev_mo k0
  have HG : Hid (∀ W, Tab W → Calls Tryd.prog 63 #[.int .u8 e.fin] W (OutC L W)) := Lib.hid fun W hW => by rw [← hL]; exact lsingle_any e.fin f0 f1 W hW
  have HT := Lib.hid hT
  have HN := Lib.hid hn
  clear f0 f1 hL hT hn
  rw [hk] at c1
  clear hk
  go_enter Tryd.func43, Tryd.ntmps43
  go_wp2_with fail
  refine (HG.out _ (HT.out.below hB)).mono ?_
  rintro x w1 ⟨A1, d1, rfl, _, hr1, hb1⟩
  go_wp2_with fail
  go_ret
  exact ⟨A1, d1, by rw [← HN.out]; rfl, (fun h => by cases h), hr1, hB.trans (hb1.mono hB.size)⟩
set_option maxRecDepth 100000 in
set_option maxHeartbeats 8000000 in
theorem lpad_key (m : Mo) (k : Ky) (e : En) (o : Int) (hq : ¬ (o = 0 ∧ m.keypad = true)) (L : List UInt8) (n : Nat) (w : World) {Inv : World → Prop} (hI : ∀ W, Below w.heap.size w W → Inv W)
    (hS : ∀ W, Inv W → Calls Tryd.prog 9 #[moV m, kyV ⟨e.char, k.mods, k.typ, 0, k.base, k.text⟩] W (OutR false L n W)) :
    Calls Tryd.prog 43 #[.agg (evC m k e o)] w (OutR false L n w) := by
  have hB : Below w.heap.size w (w.alloc (.cells (evC m k e o) 52)) := (Below.refl _ _).alloc (Nat.le_refl _) _
  have k0 := Blk.new w 52 (evC m k e o)
  obtain ⟨a16, a17, a18, a19, a20⟩ := ev_ent k0
  have a21 := ev_old k0
  obtain ⟨a10, a11, a12, a13, a14, a15⟩ := ev_key k0
  obtain ⟨c0, c1, c2, c3, c4, c5, c6, c7, c8, c9⟩ := ev_mo k0
  have HS : Hid (∀ W, Inv W → Calls Tryd.prog 9 #[.agg #[.bool m.cursor, .bool m.keypad, .bool m.back, .bool m.focus, .bool m.paste, .bool m.lock, .bool m.line, .int .i64 m.mouse, .int .i64 m.coding, .int .i64 m.other], .agg #[.int .i64 e.char, .int .i64 k.mods, .int .i64 k.typ, .int .i64 0, .int .i64 k.base, .string k.text]] W (OutR false L n W)) := Lib.hid hS
  have HI := Lib.hid hI
  clear hS hI
  by_cases ho : o = 0
  · have hk : m.keypad = false := by cases h : m.keypad with | true => exact absurd ⟨ho, h⟩ hq | false => rfl
    subst ho
    rw [hk] at c1
    clear hk hq
    go_enter Tryd.func43, Tryd.ntmps43
    go_upto_region 4 with (fail)
    have hB1 := hB.alloc hB.size (.cells #[.int .i64 k.code, .int .i64 k.mods, .int .i64 k.typ, .int .i64 k.shift, .int .i64 k.base, .string k.text] 25)
    have k1 := k0.alloc (.cells #[.int .i64 k.code, .int .i64 k.mods, .int .i64 k.typ, .int .i64 k.shift, .int .i64 k.base, .string k.text] 25)
    have kk := Blk.new (w.alloc (.cells (evC m k e 0) 52)) 25 #[.int .i64 k.code, .int .i64 k.mods, .int .i64 k.typ, .int .i64 k.shift, .int .i64 k.base, .string k.text]
    rw [World.size_alloc] at kk
    obtain ⟨W1, hW1⟩ : ∃ W1, ((w.alloc (.cells (evC m k e 0) 52)).alloc (.cells #[.int .i64 k.code, .int .i64 k.mods, .int .i64 k.typ, .int .i64 k.shift, .int .i64 k.base, .string k.text] 25)) = W1 := ⟨_, rfl⟩
    rw [hW1] at hB1 k1 kk ⊢
    clear hW1 k0 hB a16 a17 a18 a19 a20 a21 a10 a11 a12 a13 a14 a15 c0 c1 c2 c3 c4 c5 c6 c7 c8 c9
    obtain ⟨_, _, _, a19, _⟩ := ev_ent k1
    obtain ⟨b0, b1, b2, b3, b4, b5⟩ := Blk.cells6 kk
    have fz0 := kk.frozen 0
    have q1 : Blk (W1.setCell ⟨w.heap.size + 1, 0, none⟩ (.int .i64 e.char)) (w.heap.size + 1) 25 #[.int .i64 e.char, .int .i64 k.mods, .int .i64 k.typ, .int .i64 k.shift, .int .i64 k.base, .string k.text] := kk.set 0 _
    have fz3 := q1.frozen 3
    have b3' := (Blk.cells6 q1).2.2.2.1
    have q2 : Blk ((W1.setCell ⟨w.heap.size + 1, 0, none⟩ (.int .i64 e.char)).setCell ⟨w.heap.size + 1, 3, none⟩ (.int .i64 0)) (w.heap.size + 1) 25 #[.int .i64 e.char, .int .i64 k.mods, .int .i64 k.typ, .int .i64 0, .int .i64 k.base, .string k.text] := q1.set 3 _
    have e2 := (k1.far (a := ⟨w.heap.size + 1, 0, none⟩) (by show w.heap.size ≠ w.heap.size + 1; omega) (.int .i64 e.char)).far (a := ⟨w.heap.size + 1, 3, none⟩) (by show w.heap.size ≠ w.heap.size + 1; omega) (.int .i64 0)
    have hB2 := (hB1.setCell (p := ⟨w.heap.size + 1, 0, none⟩) (Nat.le_succ _) (.int .i64 e.char)).setCell (p := ⟨w.heap.size + 1, 3, none⟩) (Nat.le_succ _) (.int .i64 0)
    go_upto_region 5 with (fail)
    obtain ⟨W2, hW2⟩ : ∃ W2, (W1.setCell ⟨w.heap.size + 1, 0, none⟩ (.int .i64 e.char)).setCell ⟨w.heap.size + 1, 3, none⟩ (.int .i64 0) = W2 := ⟨_, rfl⟩
    rw [hW2] at q2 e2 hB2 ⊢
    clear hW2 q1 fz0 fz3 b3' k1 kk hB1 a19 b0 b1 b2 b3 b4 b5
    obtain ⟨b0, b1, b2, b3, b4, b5⟩ := Blk.cells6 q2
    obtain ⟨c0, c1, c2, c3, c4, c5, c6, c7, c8, c9⟩ := ev_mo e2
    go_wp2_with fail
    refine (HS.out _ (HI.out _ hB2)).mono ?_
    rintro x w3 ⟨A3, d3, rfl, _, hr3, hb3⟩
    go_wp2_with fail
    go_ret
    exact ⟨A3, d3, rfl, (fun h => by cases h), hr3, hB2.trans (hb3.mono hB2.size)⟩
  · have tn : (o == 0) = false := beq_false_of_ne ho
    clear hq ho
    go_enter Tryd.func43, Tryd.ntmps43
    go_upto_region 4 with (fail)
    have hB1 := hB.alloc hB.size (.cells #[.int .i64 k.code, .int .i64 k.mods, .int .i64 k.typ, .int .i64 k.shift, .int .i64 k.base, .string k.text] 25)
    have k1 := k0.alloc (.cells #[.int .i64 k.code, .int .i64 k.mods, .int .i64 k.typ, .int .i64 k.shift, .int .i64 k.base, .string k.text] 25)
    have kk := Blk.new (w.alloc (.cells (evC m k e o) 52)) 25 #[.int .i64 k.code, .int .i64 k.mods, .int .i64 k.typ, .int .i64 k.shift, .int .i64 k.base, .string k.text]
    rw [World.size_alloc] at kk
    obtain ⟨W1, hW1⟩ : ∃ W1, ((w.alloc (.cells (evC m k e o) 52)).alloc (.cells #[.int .i64 k.code, .int .i64 k.mods, .int .i64 k.typ, .int .i64 k.shift, .int .i64 k.base, .string k.text] 25)) = W1 := ⟨_, rfl⟩
    rw [hW1] at hB1 k1 kk ⊢
    clear hW1 k0 hB a16 a17 a18 a19 a20 a21 a10 a11 a12 a13 a14 a15 c0 c1 c2 c3 c4 c5 c6 c7 c8 c9
    obtain ⟨_, _, _, a19, _⟩ := ev_ent k1
    obtain ⟨b0, b1, b2, b3, b4, b5⟩ := Blk.cells6 kk
    have fz0 := kk.frozen 0
    have q1 : Blk (W1.setCell ⟨w.heap.size + 1, 0, none⟩ (.int .i64 e.char)) (w.heap.size + 1) 25 #[.int .i64 e.char, .int .i64 k.mods, .int .i64 k.typ, .int .i64 k.shift, .int .i64 k.base, .string k.text] := kk.set 0 _
    have fz3 := q1.frozen 3
    have b3' := (Blk.cells6 q1).2.2.2.1
    have q2 : Blk ((W1.setCell ⟨w.heap.size + 1, 0, none⟩ (.int .i64 e.char)).setCell ⟨w.heap.size + 1, 3, none⟩ (.int .i64 0)) (w.heap.size + 1) 25 #[.int .i64 e.char, .int .i64 k.mods, .int .i64 k.typ, .int .i64 0, .int .i64 k.base, .string k.text] := q1.set 3 _
    have e2 := (k1.far (a := ⟨w.heap.size + 1, 0, none⟩) (by show w.heap.size ≠ w.heap.size + 1; omega) (.int .i64 e.char)).far (a := ⟨w.heap.size + 1, 3, none⟩) (by show w.heap.size ≠ w.heap.size + 1; omega) (.int .i64 0)
    have hB2 := (hB1.setCell (p := ⟨w.heap.size + 1, 0, none⟩) (Nat.le_succ _) (.int .i64 e.char)).setCell (p := ⟨w.heap.size + 1, 3, none⟩) (Nat.le_succ _) (.int .i64 0)
    go_upto_region 5 with (fail)
    obtain ⟨W2, hW2⟩ : ∃ W2, (W1.setCell ⟨w.heap.size + 1, 0, none⟩ (.int .i64 e.char)).setCell ⟨w.heap.size + 1, 3, none⟩ (.int .i64 0) = W2 := ⟨_, rfl⟩
    rw [hW2] at q2 e2 hB2 ⊢
    clear hW2 q1 fz0 fz3 b3' k1 kk hB1 a19 b0 b1 b2 b3 b4 b5
    obtain ⟨b0, b1, b2, b3, b4, b5⟩ := Blk.cells6 q2
    obtain ⟨c0, c1, c2, c3, c4, c5, c6, c7, c8, c9⟩ := ev_mo e2
    go_wp2_with fail
    refine (HS.out _ (HI.out _ hB2)).mono ?_
    rintro x w3 ⟨A3, d3, rfl, _, hr3, hb3⟩
    go_wp2_with fail
    go_ret
    exact ⟨A3, d3, rfl, (fun h => by cases h), hr3, hB2.trans (hb3.mono hB2.size)⟩
end Go.Proofs.YtbjmfhcgkpjcfaaDoor
namespace Go.Proofs.YtbjmfhcgkpjcfaaDoor
open Go.RowKit Go.WideShapes Go.ChangeShapes Go.ChangeAt Go.ChangeMaps

section
variable {H : Type} {enc : TypeId × Value → H} {P : Program}
/-- A struct of three integers that reads so. -/
theorem row_three {w : World} {base : Nat} {sp : Nat → Bool} {held : Bool} {fuel : Nat} {t e : TypeId} {f0 f1 f2 : Field} {cs : List Value} {a b c : Int} {p : List MemPlace}
    (ht : P.underlying t = some (.struct #[f0, f1, f2])) (e0 : f0.type = e) (e1 : f1.type = e) (e2 : f2.type = e) (o0 : f0.offset = 0) (o1 : f1.offset = 1) (o2 : f2.offset = 2) (he : P.underlying e = some (.int .i64)) (hce : P.cellsOf e = 1) (hct : P.cellsOf t = 3)
    (h : DataW.trod enc P w base sp held fuel t cs = some (.agg [.lit (.int .i64 a), .lit (.int .i64 b), .lit (.int .i64 c)], p)) : cs = [.int .i64 a, .int .i64 b, .int .i64 c] := by
  obtain ⟨xs, n, _, hx, hlen, hxl, hf⟩ := DataW.trod_struct ht h
  rw [hct] at hlen
  simp only [Prod.mk.injEq, DataW.agg.injEq] at hx
  match cs, hlen with
  | [u, v, y], _ =>
    match xs, hxl with
    | [x0, x1, x2], _ =>
      simp only [List.map_cons, List.map_nil, List.cons.injEq, and_true] at hx
      obtain ⟨⟨h0, h1, h2⟩, _⟩ := hx
      have g0 := hf 0 f0 rfl
      have g1 := hf 1 f1 rfl
      have g2 := hf 2 f2 rfl
      rw [e0, o0, hce] at g0
      rw [e1, o1, hce] at g1
      rw [e2, o2, hce] at g2
      obtain ⟨z0, k0, m0, _⟩ := DataW.trod_int he g0
      obtain ⟨z1, k1, m1, _⟩ := DataW.trod_int he g1
      obtain ⟨z2, k2, m2, _⟩ := DataW.trod_int he g2
      simp at k0 k1 k2
      subst k0 k1 k2
      rw [m0] at h0
      rw [m1] at h1
      rw [m2] at h2
      simp at h0 h1 h2
      rw [h0, h1, h2]
end

theorem siz_of {W : World} {rest : List (String × DataW Unit)} (h : laidMet Tryd.prog (("clavier/utf.sizes", Rows.laid_clavier_utf_sizes) :: rest) W) : Siz W := by
  obtain ⟨ps, ⟨g, t, cs, fuel, p, q, hg, ht, hvar, hd, _, _⟩, _⟩ := h
  obtain rfl := Option.some.inj ((show Tryd.prog.globalNamed "clavier/utf.sizes" = some 1 by kernel_rfl).symm.trans hg)
  obtain rfl := Option.some.inj ((show (Tryd.prog.globals[1]?).map (·.type) = some 115 by kernel_rfl).symm.trans ht)
  obtain ⟨xs, m, _, hx, hlen, hxl, hel⟩ := DataW.trod_array Tryd.underlying115 hd
  rw [show Tryd.prog.cellsOf 115 = 12 by kernel_rfl] at hlen
  rw [show Tryd.prog.cellsOf 108 = 3 by kernel_rfl] at hel
  have row : ∀ (cs3 : List Value) (a b c : Int) (x : DataW Unit × List MemPlace), x.1 = .agg [.lit (.int .i64 a), .lit (.int .i64 b), .lit (.int .i64 c)] → DataW.trod (fun _ => ()) Tryd.prog W 0 (fun _ => true) false m 108 cs3 = some x → cs3 = [.int .i64 a, .int .i64 b, .int .i64 c] := fun cs3 a b c x hx h3 => by
    obtain ⟨x1, x2⟩ := x
    subst hx
    exact row_three Tryd.underlying108 (e := 3) rfl rfl rfl rfl rfl rfl Tryd.underlying3 (by kernel_rfl) (by kernel_rfl) h3
  match xs, hxl with
  | [x0, x1, x2, x3], _ =>
    simp only [Prod.mk.injEq, Rows.laid_clavier_utf_sizes, DataW.agg.injEq, List.map_cons, List.map_nil, List.cons.injEq, and_true] at hx
    obtain ⟨⟨d0, d1, d2, d3⟩, _⟩ := hx
    have r0 := row _ _ _ _ x0 d0.symm (hel 0 (by omega))
    have r1 := row _ _ _ _ x1 d1.symm (hel 1 (by omega))
    have r2 := row _ _ _ _ x2 d2.symm (hel 2 (by omega))
    have r3 := row _ _ _ _ x3 d3.symm (hel 3 (by omega))
    have e : cs = sizC := by
      apply Array.ext'
      generalize cs.toList = l at *
      match l, hlen with
      | [a0, a1, a2, a3, a4, a5, a6, a7, a8, a9, b0, b1], _ =>
        simp at r0 r1 r2 r3
        obtain ⟨rfl, rfl, rfl⟩ := r0
        obtain ⟨rfl, rfl, rfl⟩ := r1
        obtain ⟨rfl, rfl, rfl⟩ := r2
        obtain ⟨rfl, rfl, rfl⟩ := r3
        rfl
    subst e
    simp only [World.var?, hg, Option.bind_some] at hvar
    split at hvar
    · rename_i c t' fr hb
      cases hvar
      exact ⟨t', fr, hb⟩
    · cases hvar
end Go.Proofs.YtbjmfhcgkpjcfaaDoor
