/-
  Stage 11, the landed legacy: a key of the pad. From what a row lists to memory: the table of keys' rows.
-/
import Derived.Test.YtbjmfhcgkpjcfaaGreatDoorG32
import Derived.Test.YtbjmfhcgkpjcfaaGreatDoorG34
import Derived.Test.YtbjmfhcgkpjcfaaGreatDoorG42
import Derived.LaidMore
import Derived.Stop.LaidErr
import Derived.Deep.Slices
namespace Go.Proofs.YtbjmfhcgkpjcfaaGreatDoor
open Go.RowKit

set_option maxRecDepth 100000 in
set_option maxHeartbeats 8000000 in
theorem lpad_seq (m : Mo) (k : Ky) (e : En) (o : Int) (f0 : 64 ≤ e.fin) (f1 : e.fin ≤ 126) (hq : m.keypad = true ∧ o = 0) (L : List UInt8) (n : Nat) (hL : putS (sqN 2 e.fin []) = L) (hn : L.length = n) (w : World) (hT : Tab w) :
    Calls Tryz.prog 32 #[.agg (evC m k e o)] w (OutR false L n w) := by
  obtain ⟨hk, rfl⟩ := hq
  have hB : Below w.heap.size w (w.alloc (.cells (evC m k e 0) 37)) := (Below.refl _ _).alloc (Nat.le_refl _) _
  have k0 := Blk.new w 37 (evC m k e 0)
  obtain ⟨a16, a17, a18, a19, a20⟩ := ev_ent k0
  have a21 := ev_old k0
  obtain ⟨a10, a11, a12, a13, a14, a15⟩ := ev_key k0
  obtain ⟨c0, c1, c2, c3, c4, c5, c6, c7, c8, c9⟩ := ev_mo k0
  have HG : Hid (∀ W, Tab W → Calls Tryz.prog 53 #[.int .u8 e.fin] W (OutC L W)) := Lib.hid fun W hW => by rw [← hL]; exact lsingle_any e.fin f0 f1 W hW
  have HT := Lib.hid hT
  have HN := Lib.hid hn
  clear f0 f1 hL hT hn
  rw [hk] at c1
  clear hk
  go_enter Tryz.func32, Tryz.ntmps32
  go_wp2_with fail
  refine (HG.out _ (HT.out.below hB)).mono ?_
  rintro x w1 ⟨A1, d1, rfl, _, hr1, hb1⟩
  go_wp2_with fail
  go_ret
  exact ⟨A1, d1, by rw [← HN.out]; rfl, (fun h => by cases h), hr1, hB.trans (hb1.mono hB.size)⟩
set_option maxRecDepth 100000 in
set_option maxHeartbeats 8000000 in
theorem lpad_key (m : Mo) (k : Ky) (e : En) (o : Int) (hq : ¬ (o = 0 ∧ m.keypad = true)) (L : List UInt8) (n : Nat) (w : World) {Inv : World → Prop} (hI : ∀ W, Below w.heap.size w W → Inv W)
    (hS : ∀ W, Inv W → Calls Tryz.prog 6 #[moV m, kyV ⟨e.char, k.mods, k.typ, 0, k.base, k.text⟩] W (OutR false L n W)) :
    Calls Tryz.prog 32 #[.agg (evC m k e o)] w (OutR false L n w) := by
  have hB : Below w.heap.size w (w.alloc (.cells (evC m k e o) 37)) := (Below.refl _ _).alloc (Nat.le_refl _) _
  have k0 := Blk.new w 37 (evC m k e o)
  obtain ⟨a16, a17, a18, a19, a20⟩ := ev_ent k0
  have a21 := ev_old k0
  obtain ⟨a10, a11, a12, a13, a14, a15⟩ := ev_key k0
  obtain ⟨c0, c1, c2, c3, c4, c5, c6, c7, c8, c9⟩ := ev_mo k0
  have HS : Hid (∀ W, Inv W → Calls Tryz.prog 6 #[.agg #[.bool m.cursor, .bool m.keypad, .bool m.back, .bool m.focus, .bool m.paste, .bool m.lock, .bool m.line, .int .i64 m.mouse, .int .i64 m.coding, .int .i64 m.other], .agg #[.int .i64 e.char, .int .i64 k.mods, .int .i64 k.typ, .int .i64 0, .int .i64 k.base, .string k.text]] W (OutR false L n W)) := Lib.hid hS
  have HI := Lib.hid hI
  clear hS hI
  by_cases ho : o = 0
  · have hk : m.keypad = false := by cases h : m.keypad with | true => exact absurd ⟨ho, h⟩ hq | false => rfl
    subst ho
    rw [hk] at c1
    clear hk hq
    go_enter Tryz.func32, Tryz.ntmps32
    go_upto_region 4 with (fail)
    have hB1 := hB.alloc hB.size (.cells #[.int .i64 k.code, .int .i64 k.mods, .int .i64 k.typ, .int .i64 k.shift, .int .i64 k.base, .string k.text] 25)
    have k1 := k0.alloc (.cells #[.int .i64 k.code, .int .i64 k.mods, .int .i64 k.typ, .int .i64 k.shift, .int .i64 k.base, .string k.text] 25)
    have kk := Blk.new (w.alloc (.cells (evC m k e 0) 37)) 25 #[.int .i64 k.code, .int .i64 k.mods, .int .i64 k.typ, .int .i64 k.shift, .int .i64 k.base, .string k.text]
    rw [World.size_alloc] at kk
    obtain ⟨W1, hW1⟩ : ∃ W1, ((w.alloc (.cells (evC m k e 0) 37)).alloc (.cells #[.int .i64 k.code, .int .i64 k.mods, .int .i64 k.typ, .int .i64 k.shift, .int .i64 k.base, .string k.text] 25)) = W1 := ⟨_, rfl⟩
    rw [hW1] at hB1 k1 kk ⊢
    clear hW1 k0 hB a16 a17 a18 a19 a20 a21 a10 a11 a12 a13 a14 a15 c0 c1 c2 c3 c4 c5 c6 c7 c8 c9
    obtain ⟨_, _, _, a19, _⟩ := ev_ent k1
    obtain ⟨b0, b1, b2, b3, b4, b5⟩ := Blk.cells6 kk
    have fz0 := kk.frozen 0
    have q1 : Blk (W1.setCell ⟨w.heap.size + 1, 0, none⟩ (.int .i64 e.char)) (w.heap.size + 1) 25 #[.int .i64 e.char, .int .i64 k.mods, .int .i64 k.typ, .int .i64 k.shift, .int .i64 k.base, .string k.text] := kk.set 0 _
    have fz3 := q1.frozen 3
    have b3' := (Blk.cells6 q1).2.2.2.1
    have q2 : Blk ((W1.setCell ⟨w.heap.size + 1, 0, none⟩ (.int .i64 e.char)).setCell ⟨w.heap.size + 1, 3, none⟩ (.int .i64 0)) (w.heap.size + 1) 25 #[.int .i64 e.char, .int .i64 k.mods, .int .i64 k.typ, .int .i64 0, .int .i64 k.base, .string k.text] := q1.set 3 _
    have e2 := (k1.far (a := ⟨w.heap.size + 1, 0, none⟩) (by show w.heap.size ≠ w.heap.size + 1; omega) (.int .i64 e.char)).far (a := ⟨w.heap.size + 1, 3, none⟩) (by show w.heap.size ≠ w.heap.size + 1; omega) (.int .i64 0)
    have hB2 := (hB1.setCell (p := ⟨w.heap.size + 1, 0, none⟩) (Nat.le_succ _) (.int .i64 e.char)).setCell (p := ⟨w.heap.size + 1, 3, none⟩) (Nat.le_succ _) (.int .i64 0)
    go_upto_region 5 with (fail)
    obtain ⟨W2, hW2⟩ : ∃ W2, (W1.setCell ⟨w.heap.size + 1, 0, none⟩ (.int .i64 e.char)).setCell ⟨w.heap.size + 1, 3, none⟩ (.int .i64 0) = W2 := ⟨_, rfl⟩
    rw [hW2] at q2 e2 hB2 ⊢
    clear hW2 q1 fz0 fz3 b3' k1 kk hB1 a19 b0 b1 b2 b3 b4 b5
    obtain ⟨b0, b1, b2, b3, b4, b5⟩ := Blk.cells6 q2
    obtain ⟨c0, c1, c2, c3, c4, c5, c6, c7, c8, c9⟩ := ev_mo e2
    go_wp2_with fail
    refine (HS.out _ (HI.out _ hB2)).mono ?_
    rintro x w3 ⟨A3, d3, rfl, _, hr3, hb3⟩
    go_wp2_with fail
    go_ret
    exact ⟨A3, d3, rfl, (fun h => by cases h), hr3, hB2.trans (hb3.mono hB2.size)⟩
  · have tn : (o == 0) = false := beq_false_of_ne ho
    clear hq ho
    go_enter Tryz.func32, Tryz.ntmps32
    go_upto_region 4 with (fail)
    have hB1 := hB.alloc hB.size (.cells #[.int .i64 k.code, .int .i64 k.mods, .int .i64 k.typ, .int .i64 k.shift, .int .i64 k.base, .string k.text] 25)
    have k1 := k0.alloc (.cells #[.int .i64 k.code, .int .i64 k.mods, .int .i64 k.typ, .int .i64 k.shift, .int .i64 k.base, .string k.text] 25)
    have kk := Blk.new (w.alloc (.cells (evC m k e o) 37)) 25 #[.int .i64 k.code, .int .i64 k.mods, .int .i64 k.typ, .int .i64 k.shift, .int .i64 k.base, .string k.text]
    rw [World.size_alloc] at kk
    obtain ⟨W1, hW1⟩ : ∃ W1, ((w.alloc (.cells (evC m k e o) 37)).alloc (.cells #[.int .i64 k.code, .int .i64 k.mods, .int .i64 k.typ, .int .i64 k.shift, .int .i64 k.base, .string k.text] 25)) = W1 := ⟨_, rfl⟩
    rw [hW1] at hB1 k1 kk ⊢
    clear hW1 k0 hB a16 a17 a18 a19 a20 a21 a10 a11 a12 a13 a14 a15 c0 c1 c2 c3 c4 c5 c6 c7 c8 c9
    obtain ⟨_, _, _, a19, _⟩ := ev_ent k1
    obtain ⟨b0, b1, b2, b3, b4, b5⟩ := Blk.cells6 kk
    have fz0 := kk.frozen 0
    have q1 : Blk (W1.setCell ⟨w.heap.size + 1, 0, none⟩ (.int .i64 e.char)) (w.heap.size + 1) 25 #[.int .i64 e.char, .int .i64 k.mods, .int .i64 k.typ, .int .i64 k.shift, .int .i64 k.base, .string k.text] := kk.set 0 _
    have fz3 := q1.frozen 3
    have b3' := (Blk.cells6 q1).2.2.2.1
    have q2 : Blk ((W1.setCell ⟨w.heap.size + 1, 0, none⟩ (.int .i64 e.char)).setCell ⟨w.heap.size + 1, 3, none⟩ (.int .i64 0)) (w.heap.size + 1) 25 #[.int .i64 e.char, .int .i64 k.mods, .int .i64 k.typ, .int .i64 0, .int .i64 k.base, .string k.text] := q1.set 3 _
    have e2 := (k1.far (a := ⟨w.heap.size + 1, 0, none⟩) (by show w.heap.size ≠ w.heap.size + 1; omega) (.int .i64 e.char)).far (a := ⟨w.heap.size + 1, 3, none⟩) (by show w.heap.size ≠ w.heap.size + 1; omega) (.int .i64 0)
    have hB2 := (hB1.setCell (p := ⟨w.heap.size + 1, 0, none⟩) (Nat.le_succ _) (.int .i64 e.char)).setCell (p := ⟨w.heap.size + 1, 3, none⟩) (Nat.le_succ _) (.int .i64 0)
    go_upto_region 5 with (fail)
    obtain ⟨W2, hW2⟩ : ∃ W2, (W1.setCell ⟨w.heap.size + 1, 0, none⟩ (.int .i64 e.char)).setCell ⟨w.heap.size + 1, 3, none⟩ (.int .i64 0) = W2 := ⟨_, rfl⟩
    rw [hW2] at q2 e2 hB2 ⊢
    clear hW2 q1 fz0 fz3 b3' k1 kk hB1 a19 b0 b1 b2 b3 b4 b5
    obtain ⟨b0, b1, b2, b3, b4, b5⟩ := Blk.cells6 q2
    obtain ⟨c0, c1, c2, c3, c4, c5, c6, c7, c8, c9⟩ := ev_mo e2
    go_wp2_with fail
    refine (HS.out _ (HI.out _ hB2)).mono ?_
    rintro x w3 ⟨A3, d3, rfl, _, hr3, hb3⟩
    go_wp2_with fail
    go_ret
    exact ⟨A3, d3, rfl, (fun h => by cases h), hr3, hB2.trans (hb3.mono hB2.size)⟩
end Go.Proofs.YtbjmfhcgkpjcfaaGreatDoor
namespace Go.Proofs.YtbjmfhcgkpjcfaaGreatDoor
open Go.RowKit Go.WideShapes Go.ChangeShapes Go.ChangeAt Go.ChangeMaps Go.Deep

/-- A row as what is listed has it. -/
def roD {H : Type} (r : Ro) : DataW H := .agg [.lit (.int .i64 r.first), .lit (.int .i64 r.last), .lit (.int .i64 r.kind), .lit (.string r.finals), (if r.nums = [] then .nil else .slice (r.nums.map fun n => .lit (.int .i64 n)) []), .lit (.string r.chars), .lit (.bool r.keys)]
section
variable {H : Type} {enc : TypeId × Value → H}
theorem nums_of {W : World} {sp : Nat → Bool} {held : Bool} {fuel : Nat} {cs : List Value} {l : List Int} {p : List MemPlace} (h : DataW.trod enc Tryz.prog W 0 sp held fuel 53 cs = some ((if l = [] then .nil else .slice (l.map fun n => .lit (.int .i64 n)) []), p)) :
    ∃ A c, cs = [.slice A l.length c] ∧ Rd W A (is_ l) := by
  by_cases hl : l = []
  · subst hl
    rcases DataW.trod_slice Tryz.underlying53 h with ⟨hc, _⟩ | ⟨a, len, cap, elems, rest, n, _, _, hx, _⟩
    · exact ⟨none, 0, hc, Rd.nil _ _⟩
    · simp at hx
  · rw [if_neg hl] at h
    obtain ⟨a, cap, hcs, _, hd⟩ := open_row Tryz.underlying53 (by kernel_rfl) h
    rw [List.length_map] at hcs
    refine ⟨some a, cap, hcs, fun hp => ?_⟩
    rw [is_length] at hp
    have each : ∀ i (hi : i < l.length), W.cell? (a.add i) = some (.int .i64 l[i]) := fun i hi => by
      obtain ⟨v, n, q, h1, h2⟩ := hd i (.lit (.int .i64 l[i])) (by simp [hi])
      obtain ⟨z, k1, k2, _⟩ := DataW.trod_int Tryz.underlying3 h2
      simp only [List.cons.injEq, and_true] at k1
      simp only [Prod.mk.injEq, DataW.lit.injEq, Lit.int.injEq, true_and] at k2
      rw [h1, k1, k2.1]
    obtain ⟨b, o, s⟩ := a
    have h0 := each 0 hp
    obtain rfl : s = none := by simpa [Addr.add] using World.cell?_spot h0
    rw [addr_add_at, Nat.add_zero] at h0
    refine ⟨b, o, rfl, World.block_lt_of_cell? W _ h0, fun k u hu => ?_⟩
    have hk : k < l.length := by
      have := (List.getElem?_eq_some_iff.1 hu).1
      rwa [is_length] at this
    have := each k hk
    rw [addr_add_at] at this
    rw [this, ← hu]
    simp [is_, hk]
theorem str_of {s : ByteArray} {l : List UInt8} (h : l = s.data.toList) : Value.string s = .string ⟨l.toArray⟩ := by subst h; simp
set_option maxRecDepth 100000 in
theorem ro_in {W : World} {sp : Nat → Bool} {held : Bool} {fuel : Nat} {cs : List Value} {r : Ro} {p : List MemPlace} (h : DataW.trod enc Tryz.prog W 0 sp held fuel 55 cs = some (roD r, p)) :
    ∃ A c, cs = roC r A c ∧ Rd W A (is_ r.nums) := by
  obtain ⟨xs, n, _, hx, hlen, hxl, hf⟩ := DataW.trod_struct Tryz.underlying55 h
  rw [show Tryz.prog.cellsOf 55 = 7 by kernel_rfl] at hlen
  simp only [roD, Prod.mk.injEq, DataW.agg.injEq] at hx
  match cs, hlen with
  | [u0, u1, u2, u3, u4, u5, u6], _ =>
    match xs, hxl with
    | [(y0, z0), (y1, z1), (y2, z2), (y3, z3), (y4, z4), (y5, z5), (y6, z6)], _ =>
      simp only [List.map_cons, List.map_nil, List.cons.injEq, and_true] at hx
      obtain ⟨⟨e0, e1, e2, e3, e4, e5, e6⟩, _⟩ := hx
      subst e0 e1 e2 e3 e4 e5 e6
      have ci : Tryz.prog.cellsOf 3 = 1 := by kernel_rfl
      have cb : Tryz.prog.cellsOf 4 = 1 := by kernel_rfl
      have cp : Tryz.prog.cellsOf 53 = 1 := by kernel_rfl
      have cs : Tryz.prog.cellsOf 9 = 1 := by kernel_rfl
      have g0 : DataW.trod enc Tryz.prog W 0 sp held n 3 (List.take (Tryz.prog.cellsOf 3) (List.drop 0 [u0, u1, u2, u3, u4, u5, u6])) = some (_, z0) := hf 0 _ rfl
      have g1 : DataW.trod enc Tryz.prog W 0 sp held n 3 (List.take (Tryz.prog.cellsOf 3) (List.drop 1 [u0, u1, u2, u3, u4, u5, u6])) = some (_, z1) := hf 1 _ rfl
      have g2 : DataW.trod enc Tryz.prog W 0 sp held n 3 (List.take (Tryz.prog.cellsOf 3) (List.drop 2 [u0, u1, u2, u3, u4, u5, u6])) = some (_, z2) := hf 2 _ rfl
      have g3 : DataW.trod enc Tryz.prog W 0 sp held n 9 (List.take (Tryz.prog.cellsOf 9) (List.drop 3 [u0, u1, u2, u3, u4, u5, u6])) = some (_, z3) := hf 3 _ rfl
      have g4 : DataW.trod enc Tryz.prog W 0 sp held n 53 (List.take (Tryz.prog.cellsOf 53) (List.drop 4 [u0, u1, u2, u3, u4, u5, u6])) = some (_, z4) := hf 4 _ rfl
      have g5 : DataW.trod enc Tryz.prog W 0 sp held n 9 (List.take (Tryz.prog.cellsOf 9) (List.drop 5 [u0, u1, u2, u3, u4, u5, u6])) = some (_, z5) := hf 5 _ rfl
      have g6 : DataW.trod enc Tryz.prog W 0 sp held n 4 (List.take (Tryz.prog.cellsOf 4) (List.drop 6 [u0, u1, u2, u3, u4, u5, u6])) = some (_, z6) := hf 6 _ rfl
      rw [ci] at g0 g1 g2
      rw [cs] at g3 g5
      rw [cp] at g4
      rw [cb] at g6
      obtain ⟨v0, k0, m0, _⟩ := DataW.trod_int Tryz.underlying3 g0
      obtain ⟨v1, k1, m1, _⟩ := DataW.trod_int Tryz.underlying3 g1
      obtain ⟨v2, k2, m2, _⟩ := DataW.trod_int Tryz.underlying3 g2
      obtain ⟨v3, k3, m3, _⟩ := DataW.trod_string Tryz.underlying9 g3
      obtain ⟨A, c, k4, hn⟩ := nums_of g4
      obtain ⟨v5, k5, m5, _⟩ := DataW.trod_string Tryz.underlying9 g5
      obtain ⟨v6, k6, m6⟩ := DataW.trod_bool Tryz.underlying4 g6
      simp at k0 k1 k2 k3 k4 k5 k6
      simp only [Prod.mk.injEq, DataW.lit.injEq, Lit.int.injEq, Lit.string.injEq, Lit.bool.injEq, true_and] at m0 m1 m2 m3 m5 m6
      refine ⟨A, c, ?_, hn⟩
      unfold roC
      rw [k0, k1, k2, k3, k4, k5, k6, m0.1, m1.1, m2.1, m6.1, str_of m3.1, str_of m5.1]
end
theorem rows_datum : (Rows.laid_clavier_keys_rows : DataW Unit) = .slice (roL.map roD) [] := rfl
set_option maxRecDepth 100000 in
theorem rows_of {W : World} {x : String × DataW Unit} {rest : List (String × DataW Unit)} (h : laidMet Tryz.prog (x :: ("clavier/keys.rows", Rows.laid_clavier_keys_rows) :: rest) W) : Rws W := by
  obtain ⟨ps, ⟨g, t, cs, fuel, p, q, hg, ht, hvar, hd, _, _⟩, _⟩ := (show laidMet _ _ _ from h).tail
  obtain rfl := Option.some.inj ((show Tryz.prog.globalNamed "clavier/keys.rows" = some 0 by kernel_rfl).symm.trans hg)
  obtain rfl := Option.some.inj ((show (Tryz.prog.globals[0]?).map (·.type) = some 52 by kernel_rfl).symm.trans ht)
  rw [rows_datum] at hd
  rcases DataW.trod_slice Tryz.underlying52 hd with ⟨_, hx⟩ | ⟨a, len, cap, elems, rest', n, _, hcs, hx, _, hl, _, hlen, hel, _⟩
  · simp at hx
  · rw [show Tryz.prog.cellsOf 55 = 7 by kernel_rfl] at hel
    simp only [Prod.mk.injEq, DataW.slice.injEq] at hx
    obtain ⟨⟨hx, _⟩, _⟩ := hx
    obtain rfl : len = 22 := by rw [← hlen, ← List.length_map (f := (·.1)), ← hx]; rfl
    have each : ∀ k (hk : k < 22), ∃ A c, Rd W A (is_ (roL[k]'hk).nums) ∧ ∀ i u, (roC (roL[k]'hk) A c)[i]? = some u → W.cell? (a.add (k * 7 + i)) = some u := fun k hk => by
      have h1 := hel k hk
      have h2 : elems[k]? = some (elems[k]'(by omega)) := List.getElem?_eq_getElem _
      rw [h2] at h1
      simp only [Option.bind_eq_some_iff] at h1
      obtain ⟨cs7, h3, h4⟩ := h1
      obtain ⟨_, hcl, hat⟩ := World.cells?_some h3
      have h5 : (elems[k]'(by omega)).1 = roD (roL[k]'hk) := by
        have e1 : (elems.map (·.1))[k]? = some (elems[k]'(by omega)).1 := by rw [List.getElem?_map, h2]; rfl
        rw [← hx, List.getElem?_map, List.getElem?_eq_getElem hk] at e1
        simpa using e1.symm
      obtain ⟨A, c, h6, h7⟩ := ro_in (p := (elems[k]'(by omega)).2) (r := roL[k]'hk) (by rw [h4, ← h5])
      refine ⟨A, c, h7, fun i u hu => ?_⟩
      have hi : i < 7 := (List.getElem?_eq_some_iff.1 hu).1
      rw [← Go.Deep.add_add, hat i hi, h6, hu]
    obtain ⟨b, o, s⟩ := a
    obtain ⟨A0, c0, _, h00⟩ := each 0 (by omega)
    have h01 := h00 0 _ rfl
    obtain rfl : s = none := by simpa [Addr.add] using World.cell?_spot h01
    rw [addr_add_at] at h01
    have e : cs = #[.slice (some ⟨b, o, none⟩) 22 cap] := Array.ext' hcs
    subst e
    simp only [World.var?, hg, Option.bind_some] at hvar
    split at hvar
    · rename_i c t' fr hb
      cases hvar
      refine ⟨b, o, cap, t', fr, hb, (Array.getElem?_eq_some_iff.1 hb).1, World.block_lt_of_cell? W _ h01, fun k hk => ?_⟩
      obtain ⟨A, c, h1, h2⟩ := each k hk
      refine ⟨A, c, h1, fun i u hu => ?_⟩
      have := h2 i u hu
      rw [addr_add_at] at this
      rw [Nat.add_assoc]
      exact this
    · cases hvar
end Go.Proofs.YtbjmfhcgkpjcfaaGreatDoor
