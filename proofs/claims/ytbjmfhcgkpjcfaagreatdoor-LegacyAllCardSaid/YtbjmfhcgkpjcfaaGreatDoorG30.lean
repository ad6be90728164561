/-
  From layer 6's walks to a law's row: modes, arrays of two bools or numbers, and slices of bools that came in. Stage 11, the landed legacy: its event as a value; has, put, single, and a sequence of numbers. Layer 10, the landed mods: whether a number is modifiers. Layer 10, the landed mods: Param and Of.
  Cut out of MdtQ. Layer 2: what the callers of the iterator share.
-/
import Derived.Test.YtbjmfhcgkpjcfaaGreatDoorG06
import Derived.Test.YtbjmfhcgkpjcfaaGreatDoorG13
import Derived.Test.YtbjmfhcgkpjcfaaGreatDoorG15
import Derived.Test.YtbjmfhcgkpjcfaaGreatDoorG18
import Derived.Test.YtbjmfhcgkpjcfaaGreatDoorG25
import Derived.Test.YtbjmfhcgkpjcfaaGreatDoorG28
import Derived.Test.YtbjmfhcgkpjcfaaGreatDoorG29
import Derived.Deep.Grids
import Derived.Laws.BitsLemmas
namespace Go.Proofs.YtbjmfhcgkpjcfaaGreatDoor
open Go.RowKit Go.WideShapes Go.ChangeShapes Go.ChangeAt Go.ChangeMaps Go.Deep

section
variable {H : Type} {enc : TypeId × Value → H}
theorem okWide_st {P : Program} {t : TypeId} {fs : Array Field} {W : World} {r : Reach} {b0 : Nat} {v : Value} (ht : P.underlying t = some (.struct fs)) (h : Value.okWide P W r b0 t v) : ∃ cs, v = .agg cs ∧ cs.size = P.cellsOf t := by
  simp only [Value.okWide, ht] at h
  obtain ⟨cs, h1, h2, _⟩ := h
  exact ⟨cs, h1, h2⟩
set_option maxRecDepth 100000 in
theorem mo_in {W : World} {held : Bool} {fuel : Nat} {cs : List Value} {x : DataW H × List MemPlace} (h : DataW.trod enc Tryz.prog W 0 (fun _ => true) held fuel 23 cs = some x) :
    ∃ m, cs = (moC m).toList ∧ okM m := by
  obtain ⟨xs, n, _, hx, hlen, hxl, hf⟩ := DataW.trod_struct Tryz.underlying23 h
  rw [show Tryz.prog.cellsOf 23 = 10 by kernel_rfl] at hlen
  match cs, hlen with
  | [u0, u1, u2, u3, u4, u5, u6, u7, u8, u9], _ =>
    match xs, hxl with
    | [y0, y1, y2, y3, y4, y5, y6, y7, y8, y9], _ =>
      have ci : Tryz.prog.cellsOf 3 = 1 := by kernel_rfl
      have cb : Tryz.prog.cellsOf 4 = 1 := by kernel_rfl
      have g0 : DataW.trod enc Tryz.prog W 0 (fun _ => true) held n 4 (List.take (Tryz.prog.cellsOf 4) (List.drop 0 [u0, u1, u2, u3, u4, u5, u6, u7, u8, u9])) = some y0 := hf 0 _ rfl
      have g1 : DataW.trod enc Tryz.prog W 0 (fun _ => true) held n 4 (List.take (Tryz.prog.cellsOf 4) (List.drop 1 [u0, u1, u2, u3, u4, u5, u6, u7, u8, u9])) = some y1 := hf 1 _ rfl
      have g2 : DataW.trod enc Tryz.prog W 0 (fun _ => true) held n 4 (List.take (Tryz.prog.cellsOf 4) (List.drop 2 [u0, u1, u2, u3, u4, u5, u6, u7, u8, u9])) = some y2 := hf 2 _ rfl
      have g3 : DataW.trod enc Tryz.prog W 0 (fun _ => true) held n 4 (List.take (Tryz.prog.cellsOf 4) (List.drop 3 [u0, u1, u2, u3, u4, u5, u6, u7, u8, u9])) = some y3 := hf 3 _ rfl
      have g4 : DataW.trod enc Tryz.prog W 0 (fun _ => true) held n 4 (List.take (Tryz.prog.cellsOf 4) (List.drop 4 [u0, u1, u2, u3, u4, u5, u6, u7, u8, u9])) = some y4 := hf 4 _ rfl
      have g5 : DataW.trod enc Tryz.prog W 0 (fun _ => true) held n 4 (List.take (Tryz.prog.cellsOf 4) (List.drop 5 [u0, u1, u2, u3, u4, u5, u6, u7, u8, u9])) = some y5 := hf 5 _ rfl
      have g6 : DataW.trod enc Tryz.prog W 0 (fun _ => true) held n 4 (List.take (Tryz.prog.cellsOf 4) (List.drop 6 [u0, u1, u2, u3, u4, u5, u6, u7, u8, u9])) = some y6 := hf 6 _ rfl
      have g7 : DataW.trod enc Tryz.prog W 0 (fun _ => true) held n 3 (List.take (Tryz.prog.cellsOf 3) (List.drop 7 [u0, u1, u2, u3, u4, u5, u6, u7, u8, u9])) = some y7 := hf 7 _ rfl
      have g8 : DataW.trod enc Tryz.prog W 0 (fun _ => true) held n 3 (List.take (Tryz.prog.cellsOf 3) (List.drop 8 [u0, u1, u2, u3, u4, u5, u6, u7, u8, u9])) = some y8 := hf 8 _ rfl
      have g9 : DataW.trod enc Tryz.prog W 0 (fun _ => true) held n 3 (List.take (Tryz.prog.cellsOf 3) (List.drop 9 [u0, u1, u2, u3, u4, u5, u6, u7, u8, u9])) = some y9 := hf 9 _ rfl
      rw [cb] at g0 g1 g2 g3 g4 g5 g6
      rw [ci] at g7 g8 g9
      obtain ⟨z0, k0, _⟩ := DataW.trod_bool Tryz.underlying4 g0
      obtain ⟨z1, k1, _⟩ := DataW.trod_bool Tryz.underlying4 g1
      obtain ⟨z2, k2, _⟩ := DataW.trod_bool Tryz.underlying4 g2
      obtain ⟨z3, k3, _⟩ := DataW.trod_bool Tryz.underlying4 g3
      obtain ⟨z4, k4, _⟩ := DataW.trod_bool Tryz.underlying4 g4
      obtain ⟨z5, k5, _⟩ := DataW.trod_bool Tryz.underlying4 g5
      obtain ⟨z6, k6, _⟩ := DataW.trod_bool Tryz.underlying4 g6
      obtain ⟨z7, k7, _, w7⟩ := DataW.trod_int Tryz.underlying3 g7
      obtain ⟨z8, k8, _, w8⟩ := DataW.trod_int Tryz.underlying3 g8
      obtain ⟨z9, k9, _, w9⟩ := DataW.trod_int Tryz.underlying3 g9
      simp at k0 k1 k2 k3 k4 k5 k6 k7 k8 k9
      subst k0 k1 k2 k3 k4 k5 k6 k7 k8 k9
      have b7 := bounds_i64 w7
      have b8 := bounds_i64 w8
      have e7 : inI z7 := ⟨by omega, by omega⟩
      have e8 : inI z8 := ⟨by omega, by omega⟩
      exact ⟨⟨z0, z1, z2, z3, z4, z5, z6, z7, z8, z9⟩, rfl, e7, e8⟩
set_option maxRecDepth 100000 in
theorem open_mo {r : Reach} {b0 : Nat} {W : World} {v : Value} {d : DataW H} {ps : List MemPlace} (hval : Value.okWide Tryz.prog W r b0 23 v) (h : DataW.Trod enc Tryz.prog W 0 (fun _ => true) true 23 v d ps) :
    ∃ m, v = moV m ∧ okM m := by
  obtain ⟨cs, rfl, _⟩ := okWide_st Tryz.underlying23 hval
  obtain ⟨fuel, hf⟩ := h
  obtain ⟨m, hm, hk⟩ := mo_in hf
  refine ⟨m, ?_, hk⟩
  have e : cs = moC m := by
    apply Array.ext'
    simpa [Value.cells] using hm
  rw [e]
  rfl
end
end Go.Proofs.YtbjmfhcgkpjcfaaGreatDoor
namespace Go.Proofs.YtbjmfhcgkpjcfaaGreatDoor
open Go.RowKit

/-- The program's event, cell by cell. -/
def evC (m : Mo) (k : Ky) (e : En) (o : Int) : Array Value := #[.bool m.cursor, .bool m.keypad, .bool m.back, .bool m.focus, .bool m.paste, .bool m.lock, .bool m.line, .int .i64 m.mouse, .int .i64 m.coding, .int .i64 m.other, .int .i64 k.code, .int .i64 k.mods, .int .i64 k.typ, .int .i64 k.shift, .int .i64 k.base, .string k.text, .int .i64 e.kind, .int .u8 e.fin, .int .i64 e.num, .int .i64 e.char, .bool e.keys, .int .i64 o]
theorem ev_key {w : World} {g : Nat} {t : TypeId} {m : Mo} {k : Ky} {e : En} {o : Int} (h : Blk w g t (evC m k e o)) : w.cell? ⟨g, 10, none⟩ = some (.int .i64 k.code) ∧ w.cell? ⟨g, 11, none⟩ = some (.int .i64 k.mods) ∧ w.cell? ⟨g, 12, none⟩ = some (.int .i64 k.typ) ∧ w.cell? ⟨g, 13, none⟩ = some (.int .i64 k.shift) ∧ w.cell? ⟨g, 14, none⟩ = some (.int .i64 k.base) ∧ w.cell? ⟨g, 15, none⟩ = some (.string k.text) :=
  ⟨h.cell 10, h.cell 11, h.cell 12, h.cell 13, h.cell 14, h.cell 15⟩
theorem ev_old {w : World} {g : Nat} {t : TypeId} {m : Mo} {k : Ky} {e : En} {o : Int} (h : Blk w g t (evC m k e o)) : w.cell? ⟨g, 21, none⟩ = some (.int .i64 o) :=
  h.cell 21
theorem ev_ent {w : World} {g : Nat} {t : TypeId} {m : Mo} {k : Ky} {e : En} {o : Int} (h : Blk w g t (evC m k e o)) : w.cell? ⟨g, 16, none⟩ = some (.int .i64 e.kind) ∧ w.cell? ⟨g, 17, none⟩ = some (.int .u8 e.fin) ∧ w.cell? ⟨g, 18, none⟩ = some (.int .i64 e.num) ∧ w.cell? ⟨g, 19, none⟩ = some (.int .i64 e.char) ∧ w.cell? ⟨g, 20, none⟩ = some (.bool e.keys) :=
  ⟨h.cell 16, h.cell 17, h.cell 18, h.cell 19, h.cell 20⟩
theorem ev_mo {w : World} {g : Nat} {t : TypeId} {m : Mo} {k : Ky} {e : En} {o : Int} (h : Blk w g t (evC m k e o)) : w.cell? ⟨g, 0, none⟩ = some (.bool m.cursor) ∧ w.cell? ⟨g, 1, none⟩ = some (.bool m.keypad) ∧ w.cell? ⟨g, 2, none⟩ = some (.bool m.back) ∧ w.cell? ⟨g, 3, none⟩ = some (.bool m.focus) ∧ w.cell? ⟨g, 4, none⟩ = some (.bool m.paste) ∧ w.cell? ⟨g, 5, none⟩ = some (.bool m.lock) ∧ w.cell? ⟨g, 6, none⟩ = some (.bool m.line) ∧ w.cell? ⟨g, 7, none⟩ = some (.int .i64 m.mouse) ∧ w.cell? ⟨g, 8, none⟩ = some (.int .i64 m.coding) ∧ w.cell? ⟨g, 9, none⟩ = some (.int .i64 m.other) :=
  ⟨h.cell 0, h.cell 1, h.cell 2, h.cell 3, h.cell 4, h.cell 5, h.cell 6, h.cell 7, h.cell 8, h.cell 9⟩
/-- At the list of a plain region's operations: a struct loaded whole. -/
theorem Blk.wp_get {P : Program} {ops : Array Oper} {rest : List Oper} {op : Oper} {a : Act} {w : World} {g : Nat} {t : TypeId} {cs : Array Value} {td : TypeDesc} {Q : Exit → Act → World → Prop} (h : Blk w g t cs) (hu : P.underlying t = some td) (hr : td.isRow = true) (hi : (P.info? t).map (·.size) = some cs.size) (hgd : op.guard = none) (x : Operand) (ho : op.op = .load t x) (hx : a.eval x = .pointer (some ⟨g, 0, none⟩))
    (hK : wpList P ops Q rest (a.put op.dst (.agg cs)) w) : wpList P ops Q (op :: rest) a w :=
  wpList_load_mid hgd t x ho g 0 hx cs.toList td h.range hu hr (by rw [hi, Array.length_toList]) hK
/-- What a bit of the old modifiers says. -/
theorem old_bits {o : Int} (h0 : 0 ≤ o) (h1 : o < 8) : (bits .and .i64 o 1 != 0) = (o % 2 == 1) ∧ (bits .and .i64 o 2 != 0) = (o / 2 % 2 == 1) ∧ (bits .and .i64 o 4 != 0) = (o / 4 % 2 == 1) := by
  obtain ⟨n, rfl⟩ := Int.eq_ofNat_of_zero_le h0
  have : ∀ n : Fin 8, (bits .and .i64 ((n.1 : Nat) : Int) 1 != 0) = (((n.1 : Nat) : Int) % 2 == 1) ∧ (bits .and .i64 ((n.1 : Nat) : Int) 2 != 0) = (((n.1 : Nat) : Int) / 2 % 2 == 1) ∧ (bits .and .i64 ((n.1 : Nat) : Int) 4 != 0) = (((n.1 : Nat) : Int) / 4 % 2 == 1) := by decide +kernel
  exact this ⟨n, by omega⟩
theorem lold_rng (n : Int) : 0 ≤ oldN n ∧ oldN n < 8 := by unfold oldN; omega
theorem old_has (n : Int) : (bits .and .i64 (oldN n) 1 != 0) = hasN n 1 ∧ (bits .and .i64 (oldN n) 2 != 0) = hasN n 2 ∧ (bits .and .i64 (oldN n) 4 != 0) = hasN n 4 := by
  obtain ⟨h0, h1⟩ := lold_rng n
  obtain ⟨a, b, c⟩ := old_bits h0 h1
  rw [a, b, c]
  unfold hasN oldN
  refine ⟨?_, ?_, ?_⟩
  · rw [show max n 0 % 8 % 2 = max n 0 / 1 % 2 by omega]
  · rw [show max n 0 % 8 / 2 % 2 = max n 0 / 2 % 2 by omega]
  · rw [show max n 0 % 8 / 4 % 2 = max n 0 / 4 % 2 by omega]
theorem ret_bool {x y : Bool} (h : x = y) : Ending.returned (.bool x) = .returned (.bool y) := by rw [h]
set_option maxRecDepth 100000 in
set_option maxHeartbeats 4000000 in
theorem phas_any (m : Mo) (k : Ky) (e : En) (o d : Int) (q : Bool) (hq : (bits .and .i64 o d != 0) = q) (w : World) : Calls Tryz.prog 13 #[.agg (evC m k e o), .int .i64 d] w fun x w' => x = .returned (.bool q) ∧ Below w.heap.size w w' := by
  have k0 := Blk.new w 37 (evC m k e o)
  have hB : Below w.heap.size w (w.alloc (.cells (evC m k e o) 37)) := (Below.refl _ _).alloc (Nat.le_refl _) _
  have c21 : (w.alloc (.cells (evC m k e o) 37)).cell? ⟨w.heap.size, 21, none⟩ = some (.int .i64 o) := k0.cell 21
  have HQ := Lib.hid hq
  obtain ⟨X, hX⟩ : ∃ X, evC m k e o = X := ⟨_, rfl⟩
  rw [hX] at hB c21 ⊢
  clear k0 hX hq
  go_enter Tryz.func13, Tryz.ntmps13
  go_wp2_with fail
  go_ret
  exact ⟨ret_bool HQ.out, hB⟩
set_option maxRecDepth 100000 in
set_option maxHeartbeats 4000000 in
theorem lput_any {kind f : Int} {l : List Int} {n : Nat} (hn : l.length = n) (f0 : 0 ≤ f) (f1 : f < 256) (hm : mayS (sqN kind f l) = 0) (A : Option Addr) (c : Nat) (w : World) (ht : Tab w) (hr : RdP w A (l.map fun n => [n])) :
    Calls Tryz.prog 50 #[.agg #[.int .i64 kind, .int .u8 0, .slice A n c, .string ⟨#[]⟩, .int .u8 f, .string ⟨#[]⟩]] w (OutC (putS (sqN kind f l)) w) := by
  have hB : Below w.heap.size w (w.alloc (.cells #[.int .i64 kind, .int .u8 0, .slice A n c, .string ⟨#[]⟩, .int .u8 f, .string ⟨#[]⟩] 60)) := (Below.refl _ _).alloc (Nat.le_refl _) _
  have k0 := Blk.new w 60 #[.int .i64 kind, .int .u8 0, .slice A n c, .string ⟨#[]⟩, .int .u8 f, .string ⟨#[]⟩]
  have HP : Hid (∀ W, Tab W → RdP W A (l.map fun n => [n]) → Calls Tryz.prog 63 #[.agg #[.int .i64 kind, .int .u8 0, .slice A n c, .string ⟨#[]⟩, .int .u8 f, .string ⟨#[]⟩]] W (WYes (putS (sqN kind f l)) W)) := Lib.hid fun W hW hR => by
    rw [← sqn_v (kind := kind) hn f0 f1 A c]
    exact pput_yes _ A c W hm hW hR
  clear hm f0 f1 hn
  obtain ⟨L, hL⟩ : ∃ L, putS (sqN kind f l) = L := ⟨_, rfl⟩
  rw [hL] at HP ⊢
  clear hL
  obtain ⟨a0, a1, a2, a3, a4, a5⟩ := Blk.cells6 k0
  go_enter Tryz.func50, Tryz.ntmps50
  go_wp2_with fail
  refine (HP.out _ (ht.below hB) (hr.below hB)).mono ?_
  clear HP
  rintro e w1 ⟨⟨B, d, rfl, hd, hr1⟩, hb1⟩
  go_wp2_with fail
  go_ret
  exact ⟨B, d, rfl, hd, hr1, hB.trans (hb1.mono hB.size)⟩
set_option maxRecDepth 100000 in
set_option maxHeartbeats 4000000 in
theorem lsingle_any (f : Int) (h0 : 64 ≤ f) (h1 : f ≤ 126) (w : World) (ht : Tab w) : Calls Tryz.prog 53 #[.int .u8 f] w (OutC (putS (sqN 2 f [])) w) := by
  have HP : Hid (∀ W, Tab W → Calls Tryz.prog 50 #[.agg #[.int .i64 2, .int .u8 0, .slice none 0 0, .string ⟨#[]⟩, .int .u8 f, .string ⟨#[]⟩]] W (OutC (putS (sqN 2 f [])) W)) := Lib.hid fun W hW =>
    lput_any (kind := 2) (f := f) (l := []) rfl (by omega) (by omega) (may_ss3 h0 h1) none 0 W hW (fun h => absurd h (by simp))
  clear h0 h1
  go_enter Tryz.func53, Tryz.ntmps53
  go_wp2_with fail
  refine (HP.out _ ht).mono ?_
  clear HP
  rintro e w1 ⟨B, d, rfl, hd, hr1, hb1⟩
  go_wp2_with fail
  go_ret
  exact ⟨B, d, rfl, hd, hr1, hb1⟩
/-- What Num tells. -/
def NumQ (f : Int) (l : List Int) (n : Nat) (w : World) (e : Ending) (w' : World) : Prop := ∃ A c, e = .returned (.agg #[.int .i64 1, .int .u8 0, .slice A n c, .string ⟨#[]⟩, .int .u8 f, .string ⟨#[]⟩]) ∧ RdP w' A (l.map fun n => [n]) ∧ Below w.heap.size w w'
theorem lnum_any (f : Int) (h0 : 0 ≤ f) (h1 : f < 256) (l : List Int) (n : Nat) (hn : l.length = n) (hl : n ≤ 4294967296) (A : Option Addr) (c : Nat) (w : World) (hr : Rd w A (is_ l)) : Calls Tryz.prog 51 #[.int .u8 0, .int .u8 f, .slice A n c] w (NumQ f l n w) := by
  have h := num_any 0 (byt f) A n c l w hn hl hr
  rw [byt_nat f h0 h1] at h
  refine h.mono ?_
  rintro e w' ⟨⟨B, d, rfl, hr'⟩, hb⟩
  exact ⟨B, d, by rw [show numS 0 (byt f) l = sqN 1 f l from rfl, sqn_v hn h0 h1], hr', hb⟩
end Go.Proofs.YtbjmfhcgkpjcfaaGreatDoor
namespace Go.Proofs.YtbjmfhcgkpjcfaaGreatDoor
open Go.RowKit

def areN (n : Int) : Bool := decide (0 ≤ n) && decide (n ≤ 255)
set_option maxRecDepth 100000 in
theorem are_any (n : Int) (w : World) : Calls Tryz.prog 22 #[.int .i64 n] w fun e w' => e = .returned (.bool (areN n)) ∧ Below w.heap.size w w' := by
  obtain ⟨R, hR⟩ : ∃ R, areN n = R := ⟨_, rfl⟩
  rw [hR]
  have HR := Lib.hid hR
  clear hR
  by_cases h0 : 0 ≤ n
  · by_cases h1 : n ≤ 255
    · have HF := Lib.hid (show true = R by rw [← HR.out]; simp [areN, h0, h1])
      go_enter Tryz.func22, Tryz.ntmps22
      go_wp2_with fail
      go_ret
      exact ⟨ret_b HF.out, Below.refl _ _⟩
    · have HF := Lib.hid (show false = R by rw [← HR.out]; simp [areN, h1])
      go_enter Tryz.func22, Tryz.ntmps22
      go_wp2_with fail
      go_ret
      exact ⟨ret_b HF.out, Below.refl _ _⟩
  · have HF := Lib.hid (show false = R by rw [← HR.out]; simp [areN, h0])
    go_enter Tryz.func22, Tryz.ntmps22
    go_wp2_with fail
    go_ret
    exact ⟨ret_b HF.out, Below.refl _ _⟩
theorem are_at {n : Int} {q : Bool} (h : areN n = q) (w : World) : Calls Tryz.prog 22 #[.int .i64 n] w fun e w' => e = .returned (.bool q) ∧ Below w.heap.size w w' := by
  rw [← h]
  exact are_any n w
end Go.Proofs.YtbjmfhcgkpjcfaaGreatDoor
namespace Go.Proofs.YtbjmfhcgkpjcfaaGreatDoor
open Go.RowKit

set_option maxRecDepth 100000 in
theorem pparam_any (n : Int) (w : World) : Calls Tryz.prog 52 #[.int .i64 n] w fun e w' => e = .returned (.int .i64 (paramN n)) ∧ Below w.heap.size w w' := by
  cases hq : areN n with
  | true =>
    have hr : 0 ≤ n ∧ n ≤ 255 := by simpa [areN] using hq
    have hp : paramN n = n + 1 := by unfold paramN; rw [if_neg (by omega)]
    have hw : IntKind.i64.wrap (n + 1) = n + 1 := by rw [IntKind.wrap_i64]; omega
    have hcall := fun W => are_at hq W
    rw [hp]
    clear hp hr hq
    go_enter Tryz.func52, Tryz.ntmps52
    go_wp2_with fail
    refine (hcall _).mono ?_
    clear hcall
    rintro e w1 ⟨rfl, hb1⟩
    go_wp2_with fail
    go_ret
    exact ⟨rfl, hb1⟩
  | false =>
    have hr : ¬ (0 ≤ n ∧ n ≤ 255) := by simpa [areN] using hq
    have hp : paramN n = 1 := by unfold paramN; rw [if_pos (by omega)]
    have hcall := fun W => are_at hq W
    rw [hp]
    clear hp hr hq
    go_enter Tryz.func52, Tryz.ntmps52
    go_wp2_with fail
    refine (hcall _).mono ?_
    clear hcall
    rintro e w1 ⟨rfl, hb1⟩
    go_wp2_with fail
    go_ret
    exact ⟨rfl, hb1⟩
end Go.Proofs.YtbjmfhcgkpjcfaaGreatDoor
namespace Go.Proofs.YtbjmfhcgkpjcfaaGreatDoor
open Go.RowKit Go.Shelf
attribute [local go_sem] Oper.semAt_some

theorem kp2_t {n₁ B : Nat} {X Y Z : World} (h : Kp2 n₁ B X Y) (k : Kp2 n₁ B Y Z) : Kp2 n₁ B X Z := ⟨h.1.trans k.1, k.2.trans h.2⟩
theorem kp2_b {n₁ B : Nat} {w : World} (hn : n₁ ≤ w.heap.size) (hB : B < w.heap.size) (W : World) (l : Nat) (o o' : Obj) (hl : w.heap.size ≤ l) (h : W.heap[l]? = some o) (hc : o.isCells = false) (hw : o.isWalk = false) : Kp2 n₁ B W (W.putObj l o') :=
  ⟨belowK_b hn W l o o' hl h hc hw, World.putObj_heap_other (by omega)⟩
theorem kp2_refl (n₁ B : Nat) (w : World) : Kp2 n₁ B w w := ⟨Below.refl _ _, rfl⟩

/-- What points tells is told to every loop. -/
theorem pts_stops (n : Nat) (hn : 1 ≤ n) (Bs n₁ c : Nat) (A : Option Addr) (t : List UInt8) (ht : t.length ≤ 4294967296) (htc : t.length ≤ c) (hg0 : 1 < n₁) (w : World) (hn₁ : n₁ ≤ w.heap.size)
    (hbox : Blk w Bs 27 #[.slice A t.length c]) (hs : Siz w) (hr : RdIn n₁ w A (bs t)) :
    SeqStopsK Fence.wide n Tryz.prog 70 #[.pointer (some ⟨Bs, 0, none⟩)] (fun x : Int × Bool => #[.int .i64 x.1, .bool x.2]) (Kp2 n₁ Bs) (fun ys => ys = ptsL t) (fun pre => pre <+: ptsL t) (ptsL t).length w := fun l J Jx W hW hJ _ hY h0 =>
  pts1_in n hn l Bs n₁ W.heap.size c A t ht htc hg0 J Jx hJ hY W (hbox.below hW hbox.lt) (hs.below' hW) (hr.below (hW.mono hn₁)) (Nat.le_trans hn₁ hW.size) h0

theorem all_false {p q : List (Int × Bool)} (h : p <+: q) {y : Int × Bool} (hy : y ∈ p) (h2 : y.2 = false) : q.all (·.2) = false := by
  rw [List.all_eq_false]
  exact ⟨y, h.subset hy, by simp [h2]⟩
theorem allL_none {t : List UInt8} (h : (ptsL t).all (·.2) = false) : allL t = none := by unfold allL allOf; rw [h]; rfl
theorem allL_some {t : List UInt8} (h : ∀ y ∈ ptsL t, y.2 = true) : allL t = some ((ptsL t).map (·.1)) := by
  unfold allL allOf
  rw [if_pos (List.all_eq_true.2 h)]
end Go.Proofs.YtbjmfhcgkpjcfaaGreatDoor
