/-
  Stage 11, the landed legacy: its event as a value; has, put, single, and a sequence of numbers. Layer 10, the landed mods: Old and Shown. Layer 9, the landed keys, walked: whether a code is a text's, and Look.
-/
import Derived.Test.YtbjmfhcgkpjcfaaDoorG08
import Derived.Test.YtbjmfhcgkpjcfaaDoorG09
import Derived.Test.YtbjmfhcgkpjcfaaDoorG14
import Derived.Test.YtbjmfhcgkpjcfaaDoorG15
import Derived.Test.YtbjmfhcgkpjcfaaDoorG16
import Derived.Test.YtbjmfhcgkpjcfaaDoorG17
import Derived.Test.YtbjmfhcgkpjcfaaDoorG22
import Derived.Test.YtbjmfhcgkpjcfaaDoorG24
import Derived.Test.YtbjmfhcgkpjcfaaDoorG25
import Derived.Laws.BitsLemmas
namespace Go.Proofs.YtbjmfhcgkpjcfaaDoor
open Go.RowKit

/-- The program's event, cell by cell. -/
def evC (m : Mo) (k : Ky) (e : En) (o : Int) : Array Value := #[.bool m.cursor, .bool m.keypad, .bool m.back, .bool m.focus, .bool m.paste, .bool m.lock, .bool m.line, .int .i64 m.mouse, .int .i64 m.coding, .int .i64 m.other, .int .i64 k.code, .int .i64 k.mods, .int .i64 k.typ, .int .i64 k.shift, .int .i64 k.base, .string k.text, .int .i64 e.kind, .int .u8 e.fin, .int .i64 e.num, .int .i64 e.char, .bool e.keys, .int .i64 o]
theorem ev_key {w : World} {g : Nat} {t : TypeId} {m : Mo} {k : Ky} {e : En} {o : Int} (h : Blk w g t (evC m k e o)) : w.cell? ⟨g, 10, none⟩ = some (.int .i64 k.code) ∧ w.cell? ⟨g, 11, none⟩ = some (.int .i64 k.mods) ∧ w.cell? ⟨g, 12, none⟩ = some (.int .i64 k.typ) ∧ w.cell? ⟨g, 13, none⟩ = some (.int .i64 k.shift) ∧ w.cell? ⟨g, 14, none⟩ = some (.int .i64 k.base) ∧ w.cell? ⟨g, 15, none⟩ = some (.string k.text) :=
  ⟨h.cell 10, h.cell 11, h.cell 12, h.cell 13, h.cell 14, h.cell 15⟩
theorem ev_old {w : World} {g : Nat} {t : TypeId} {m : Mo} {k : Ky} {e : En} {o : Int} (h : Blk w g t (evC m k e o)) : w.cell? ⟨g, 21, none⟩ = some (.int .i64 o) :=
  h.cell 21
theorem ev_ent {w : World} {g : Nat} {t : TypeId} {m : Mo} {k : Ky} {e : En} {o : Int} (h : Blk w g t (evC m k e o)) : w.cell? ⟨g, 16, none⟩ = some (.int .i64 e.kind) ∧ w.cell? ⟨g, 17, none⟩ = some (.int .u8 e.fin) ∧ w.cell? ⟨g, 18, none⟩ = some (.int .i64 e.num) ∧ w.cell? ⟨g, 19, none⟩ = some (.int .i64 e.char) ∧ w.cell? ⟨g, 20, none⟩ = some (.bool e.keys) :=
  ⟨h.cell 16, h.cell 17, h.cell 18, h.cell 19, h.cell 20⟩
theorem ev_mo {w : World} {g : Nat} {t : TypeId} {m : Mo} {k : Ky} {e : En} {o : Int} (h : Blk w g t (evC m k e o)) : w.cell? ⟨g, 0, none⟩ = some (.bool m.cursor) ∧ w.cell? ⟨g, 1, none⟩ = some (.bool m.keypad) ∧ w.cell? ⟨g, 2, none⟩ = some (.bool m.back) ∧ w.cell? ⟨g, 3, none⟩ = some (.bool m.focus) ∧ w.cell? ⟨g, 4, none⟩ = some (.bool m.paste) ∧ w.cell? ⟨g, 5, none⟩ = some (.bool m.lock) ∧ w.cell? ⟨g, 6, none⟩ = some (.bool m.line) ∧ w.cell? ⟨g, 7, none⟩ = some (.int .i64 m.mouse) ∧ w.cell? ⟨g, 8, none⟩ = some (.int .i64 m.coding) ∧ w.cell? ⟨g, 9, none⟩ = some (.int .i64 m.other) :=
  ⟨h.cell 0, h.cell 1, h.cell 2, h.cell 3, h.cell 4, h.cell 5, h.cell 6, h.cell 7, h.cell 8, h.cell 9⟩
/-- At the list of a plain region's operations: a struct loaded whole. -/
theorem Blk.wp_get {P : Program} {ops : Array Oper} {rest : List Oper} {op : Oper} {a : Act} {w : World} {g : Nat} {t : TypeId} {cs : Array Value} {td : TypeDesc} {Q : Exit → Act → World → Prop} (h : Blk w g t cs) (hu : P.underlying t = some td) (hr : td.isRow = true) (hi : (P.info? t).map (·.size) = some cs.size) (hgd : op.guard = none) (x : Operand) (ho : op.op = .load t x) (hx : a.eval x = .pointer (some ⟨g, 0, none⟩))
    (hK : wpList P ops Q rest (a.put op.dst (.agg cs)) w) : wpList P ops Q (op :: rest) a w :=
  wpList_load_mid hgd t x ho g 0 hx cs.toList td h.range hu hr (by rw [hi, Array.length_toList]) hK
/-- What a bit of the old modifiers says. -/
theorem old_bits {o : Int} (h0 : 0 ≤ o) (h1 : o < 8) : (bits .and .i64 o 1 != 0) = (o % 2 == 1) ∧ (bits .and .i64 o 2 != 0) = (o / 2 % 2 == 1) ∧ (bits .and .i64 o 4 != 0) = (o / 4 % 2 == 1) := by
  obtain ⟨n, rfl⟩ := Int.eq_ofNat_of_zero_le h0
  have : ∀ n : Fin 8, (bits .and .i64 ((n.1 : Nat) : Int) 1 != 0) = (((n.1 : Nat) : Int) % 2 == 1) ∧ (bits .and .i64 ((n.1 : Nat) : Int) 2 != 0) = (((n.1 : Nat) : Int) / 2 % 2 == 1) ∧ (bits .and .i64 ((n.1 : Nat) : Int) 4 != 0) = (((n.1 : Nat) : Int) / 4 % 2 == 1) := by decide +kernel
  exact this ⟨n, by omega⟩
theorem lold_rng (n : Int) : 0 ≤ oldN n ∧ oldN n < 8 := by unfold oldN; omega
theorem old_has (n : Int) : (bits .and .i64 (oldN n) 1 != 0) = hasN n 1 ∧ (bits .and .i64 (oldN n) 2 != 0) = hasN n 2 ∧ (bits .and .i64 (oldN n) 4 != 0) = hasN n 4 := by
  obtain ⟨h0, h1⟩ := lold_rng n
  obtain ⟨a, b, c⟩ := old_bits h0 h1
  rw [a, b, c]
  unfold hasN oldN
  refine ⟨?_, ?_, ?_⟩
  · rw [show max n 0 % 8 % 2 = max n 0 / 1 % 2 by omega]
  · rw [show max n 0 % 8 / 2 % 2 = max n 0 / 2 % 2 by omega]
  · rw [show max n 0 % 8 / 4 % 2 = max n 0 / 4 % 2 by omega]
theorem ret_bool {x y : Bool} (h : x = y) : Ending.returned (.bool x) = .returned (.bool y) := by rw [h]
set_option maxRecDepth 100000 in
set_option maxHeartbeats 4000000 in
theorem phas_any (m : Mo) (k : Ky) (e : En) (o d : Int) (q : Bool) (hq : (bits .and .i64 o d != 0) = q) (w : World) : Calls Tryd.prog 22 #[.agg (evC m k e o), .int .i64 d] w fun x w' => x = .returned (.bool q) ∧ Below w.heap.size w w' := by
  have k0 := Blk.new w 52 (evC m k e o)
  have hB : Below w.heap.size w (w.alloc (.cells (evC m k e o) 52)) := (Below.refl _ _).alloc (Nat.le_refl _) _
  have c21 : (w.alloc (.cells (evC m k e o) 52)).cell? ⟨w.heap.size, 21, none⟩ = some (.int .i64 o) := k0.cell 21
  have HQ := Lib.hid hq
  obtain ⟨X, hX⟩ : ∃ X, evC m k e o = X := ⟨_, rfl⟩
  rw [hX] at hB c21 ⊢
  clear k0 hX hq
  go_enter Tryd.func22, Tryd.ntmps22
  go_wp2_with fail
  go_ret
  exact ⟨ret_bool HQ.out, hB⟩
set_option maxRecDepth 100000 in
set_option maxHeartbeats 4000000 in
theorem lput_any {kind f : Int} {l : List Int} {n : Nat} (hn : l.length = n) (f0 : 0 ≤ f) (f1 : f < 256) (hm : mayS (sqN kind f l) = 0) (A : Option Addr) (c : Nat) (w : World) (ht : Tab w) (hr : RdP w A (l.map fun n => [n])) :
    Calls Tryd.prog 60 #[.agg #[.int .i64 kind, .int .u8 0, .slice A n c, .string ⟨#[]⟩, .int .u8 f, .string ⟨#[]⟩]] w (OutC (putS (sqN kind f l)) w) := by
  have hB : Below w.heap.size w (w.alloc (.cells #[.int .i64 kind, .int .u8 0, .slice A n c, .string ⟨#[]⟩, .int .u8 f, .string ⟨#[]⟩] 36)) := (Below.refl _ _).alloc (Nat.le_refl _) _
  have k0 := Blk.new w 36 #[.int .i64 kind, .int .u8 0, .slice A n c, .string ⟨#[]⟩, .int .u8 f, .string ⟨#[]⟩]
  have HP : Hid (∀ W, Tab W → RdP W A (l.map fun n => [n]) → Calls Tryd.prog 77 #[.agg #[.int .i64 kind, .int .u8 0, .slice A n c, .string ⟨#[]⟩, .int .u8 f, .string ⟨#[]⟩]] W (WYes (putS (sqN kind f l)) W)) := Lib.hid fun W hW hR => by
    rw [← sqn_v (kind := kind) hn f0 f1 A c]
    exact pput_yes _ A c W hm hW hR
  clear hm f0 f1 hn
  obtain ⟨L, hL⟩ : ∃ L, putS (sqN kind f l) = L := ⟨_, rfl⟩
  rw [hL] at HP ⊢
  clear hL
  obtain ⟨a0, a1, a2, a3, a4, a5⟩ := Blk.cells6 k0
  go_enter Tryd.func60, Tryd.ntmps60
  go_wp2_with fail
  refine (HP.out _ (ht.below hB) (hr.below hB)).mono ?_
  clear HP
  rintro e w1 ⟨⟨B, d, rfl, hd, hr1⟩, hb1⟩
  go_wp2_with fail
  go_ret
  exact ⟨B, d, rfl, hd, hr1, hB.trans (hb1.mono hB.size)⟩
set_option maxRecDepth 100000 in
set_option maxHeartbeats 4000000 in
theorem lsingle_any (f : Int) (h0 : 64 ≤ f) (h1 : f ≤ 126) (w : World) (ht : Tab w) : Calls Tryd.prog 63 #[.int .u8 f] w (OutC (putS (sqN 2 f [])) w) := by
  have HP : Hid (∀ W, Tab W → Calls Tryd.prog 60 #[.agg #[.int .i64 2, .int .u8 0, .slice none 0 0, .string ⟨#[]⟩, .int .u8 f, .string ⟨#[]⟩]] W (OutC (putS (sqN 2 f [])) W)) := Lib.hid fun W hW =>
    lput_any (kind := 2) (f := f) (l := []) rfl (by omega) (by omega) (may_ss3 h0 h1) none 0 W hW (fun h => absurd h (by simp))
  clear h0 h1
  go_enter Tryd.func63, Tryd.ntmps63
  go_wp2_with fail
  refine (HP.out _ ht).mono ?_
  clear HP
  rintro e w1 ⟨B, d, rfl, hd, hr1, hb1⟩
  go_wp2_with fail
  go_ret
  exact ⟨B, d, rfl, hd, hr1, hb1⟩
/-- What Num tells. -/
def NumQ (f : Int) (l : List Int) (n : Nat) (w : World) (e : Ending) (w' : World) : Prop := ∃ A c, e = .returned (.agg #[.int .i64 1, .int .u8 0, .slice A n c, .string ⟨#[]⟩, .int .u8 f, .string ⟨#[]⟩]) ∧ RdP w' A (l.map fun n => [n]) ∧ Below w.heap.size w w'
theorem lnum_any (f : Int) (h0 : 0 ≤ f) (h1 : f < 256) (l : List Int) (n : Nat) (hn : l.length = n) (hl : n ≤ 4294967296) (A : Option Addr) (c : Nat) (w : World) (hr : Rd w A (is_ l)) : Calls Tryd.prog 61 #[.int .u8 0, .int .u8 f, .slice A n c] w (NumQ f l n w) := by
  have h := num_any 0 (byt f) A n c l w hn hl hr
  rw [byt_nat f h0 h1] at h
  refine h.mono ?_
  rintro e w' ⟨⟨B, d, rfl, hr'⟩, hb⟩
  exact ⟨B, d, by rw [show numS 0 (byt f) l = sqN 1 f l from rfl, sqn_v hn h0 h1], hr', hb⟩
end Go.Proofs.YtbjmfhcgkpjcfaaDoor
namespace Go.Proofs.YtbjmfhcgkpjcfaaDoor
open Go.RowKit

theorem mask7 {x : Int} (h0 : 0 ≤ x) (h1 : x ≤ 9223372036854775807) : bits .and .i64 x 7 = x % 8 :=
  bits_mask .i64 63 (by decide) (fun n a b => by rw [IntKind.wrap_i64]; omega) 3 (by decide) x h0 (by omega)
theorem mask1 {x : Int} (h0 : 0 ≤ x) (h1 : x ≤ 9223372036854775807) : bits .and .i64 x 1 = x % 2 :=
  bits_mask .i64 63 (by decide) (fun n a b => by rw [IntKind.wrap_i64]; omega) 1 (by decide) x h0 (by omega)
set_option maxRecDepth 100000 in
theorem pold_any (n : Int) (w : World) (hn : in10 n) : Calls Tryd.prog 19 #[.int .i64 n] w fun e w' => e = .returned (.int .i64 (oldN n)) ∧ Below w.heap.size w w' := by
  obtain ⟨N, hN⟩ : ∃ N, max n 0 = N := ⟨_, rfl⟩
  have hmax := max0 n N hN (P := Tryd.prog)
  obtain ⟨F, hF⟩ : ∃ F, oldN n = F := ⟨_, rfl⟩
  have hm : bits .and .i64 N 7 = F := by
    have h2 := hn.2
    rw [mask7 (by omega) (by omega), ← hF, ← hN]
    rfl
  rw [hF]
  clear hF hN hn
  go_enter Tryd.func19, Tryd.ntmps19
  go_wp2
  go_ret
  exact ⟨rfl, by first | exact Below.refl _ _ | exact below_drewN (Below.refl _ _) _⟩
set_option maxRecDepth 100000 in
set_option maxHeartbeats 4000000 in
theorem pshown_any (k : Ky) (hk : okK k) (w : World) : Calls Tryd.prog 58 #[kyV k] w fun e w' => e = .returned (.int .i64 (shownK k)) ∧ Below w.heap.size w w' := by
  have hB := ky_box w k
  have hold := pold_any k.mods (w.alloc (.cells (kyC k) 25)) hk.mods
  have k0 := Blk.new w 25 (kyC k)
  have hsh : shownK k = if hasN k.mods 1 = false then k.code else if k.shift ≠ 0 then k.shift else if 97 ≤ k.code ∧ k.code ≤ 122 then k.code - 32 else k.code := rfl
  obtain ⟨F, hF⟩ : ∃ F, oldN k.mods = F := ⟨_, rfl⟩
  have hr : 0 ≤ F ∧ F < 8 := by rw [← hF]; unfold oldN; omega
  obtain ⟨N, hN⟩ : ∃ N, bits .and .i64 F 1 = N := ⟨_, rfl⟩
  have hN2 : N = F % 2 := by rw [← hN]; exact mask1 hr.1 (by omega)
  obtain ⟨p, hp⟩ : ∃ p, hasN k.mods 1 = p := ⟨_, rfl⟩
  have hz : (N == 0) = !p := by
    rw [← hp]
    unfold hasN
    rw [Int.ediv_one, hN2, ← hF]
    unfold oldN
    have e : max k.mods 0 % 8 % 2 = max k.mods 0 % 2 := by omega
    rw [e]
    rcases Int.emod_two_eq (max k.mods 0) with h | h <;> rw [h] <;> rfl
  have hc := hk.code
  rw [hF] at hold
  rw [hp] at hsh
  clear hk hp hF hr hN2
  rw [kyV]
  rw [kyC] at hB hold k0
  obtain ⟨code, mods, typ, shift, base, text⟩ := k
  simp only at hB hold k0 hsh hc ⊢
  go_enter Tryd.func58, Tryd.ntmps58
  have a0 := k0.cell 0
  have a1 := k0.cell 1
  have a3 := k0.cell 3
  have HSH := Lib.hid hsh
  clear hsh
  go_wp2_with fail
  refine hold.mono ?_
  clear hold
  rintro e w1 ⟨rfl, hb1⟩
  have k1 := k0.below hb1 k0.lt
  have hB1 := hB.trans (hb1.mono hB.size)
  clear k0 hB hb1 a0 a1 a3
  have a0 := k1.cell 0
  have a3 := k1.cell 3
  cases p with
  | false =>
    have hz2 : (N == 0) = true := hz
    clear hz
    go_wp2_with fail
    go_ret
    exact ⟨ret_i (by rw [HSH.out]; rfl), hB1⟩
  | true =>
    have hz2 : (N == 0) = false := hz
    clear hz
    by_cases h3 : shift = 0
    · subst h3
      by_cases h4 : 97 ≤ code
      · by_cases h5 : code ≤ 122
        · have e1 : IntKind.i64.wrap (code - 97) = code - 97 := by rw [IntKind.wrap_i64]; omega
          have e2 : IntKind.i64.wrap (code - 97 + 65) = code - 32 := by rw [IntKind.wrap_i64]; omega
          go_wp2_with fail
          go_ret
          exact ⟨ret_i (by rw [HSH.out, if_neg (by decide), if_neg (fun h => h rfl), if_pos ⟨h4, h5⟩]), hB1⟩
        · have h6 : 122 < code := by omega
          go_wp2_with fail
          go_ret
          exact ⟨ret_i (by rw [HSH.out, if_neg (by decide), if_neg (fun h => h rfl), if_neg (by omega)]), hB1⟩
      · have h6 : code < 97 := by omega
        go_wp2_with fail
        go_ret
        exact ⟨ret_i (by rw [HSH.out, if_neg (by decide), if_neg (fun h => h rfl), if_neg (by omega)]), hB1⟩
    · have h5 : (shift == 0) = false := beq_false_of_ne h3
      have h6 : (shift != 0) = true := by simp [bne, h5]
      have H3 := Lib.hid h3
      clear h3
      go_wp2_with fail
      go_ret
      exact ⟨ret_i (by rw [HSH.out, if_neg (by decide), if_pos H3.out]), hB1⟩

end Go.Proofs.YtbjmfhcgkpjcfaaDoor
namespace Go.Proofs.YtbjmfhcgkpjcfaaDoor
open Go.RowKit

theorem isPtK_eq (c : Int) : isPtK c = isPt c := by
  cases h : isPt c with
  | true => exact decide_eq_true (by have := (isPt_iff c).1 h; omega)
  | false => exact decide_eq_false (by have := (isPt_no c).1 h; omega)
theorem put_len (c : Int) : decide (0 < ((putL c).length : Int)) = isPtK c := by
  rw [isPtK_eq]
  cases h : isPt c with
  | true =>
    have := (cnt_bd c).1
    rw [putL_length h]
    exact decide_eq_true (by omega)
  | false => rw [putL_no h]; rfl
theorem txK_no {c : Int} (h : c < 32 ∨ (127 ≤ c ∧ c ≤ 159) ∨ (57344 ≤ c ∧ c ≤ 63743)) : txK c = false := by
  unfold txK
  rcases h with h | h | h <;> simp [h]
theorem txK_is {c : Int} (h : ¬ (c < 32 ∨ (127 ≤ c ∧ c ≤ 159) ∨ (57344 ≤ c ∧ c ≤ 63743))) : txK c = isPtK c := by
  unfold txK
  rw [show decide (c < 32) = false from decide_eq_false (by omega), show (decide (127 ≤ c) && decide (c ≤ 159)) = false by simp; omega, show (decide (57344 ≤ c) && decide (c ≤ 63743)) = false by simp; omega]
  rfl
set_option maxRecDepth 100000 in
set_option maxHeartbeats 4000000 in
theorem isText_any (c : Int) (w : World) (hs : Siz w) : Calls Tryd.prog 24 #[.int .i64 c] w fun e w' => e = .returned (.bool (txK c)) ∧ Below w.heap.size w w' := by
  have HP := Lib.hid (Put_any c w hs)
  have HL := Lib.hid (put_len c)
  by_cases h1 : c < 32
  · have E := Lib.hid (txK_no (.inl h1))
    go_enter Tryd.func24, Tryd.ntmps24
    go_wp2_with fail
    go_ret
    exact ⟨ret_b E.out.symm, Below.refl _ _⟩
  by_cases h2 : c < 127
  · have E := Lib.hid (txK_is (c := c) (by omega))
    have j1 : 32 ≤ c := by omega
    clear h1
    go_enter Tryd.func24, Tryd.ntmps24
    go_wp2_with fail
    refine HP.out.mono ?_
    rintro e w1 ⟨A, cp, rfl, _, hb⟩
    have hl := HL.out
    go_wp2_with fail
    go_ret
    exact ⟨ret_b (by rw [E.out, ← hl]; simp [show ¬ c < 32 by omega]), hb⟩
  by_cases h3 : c ≤ 159
  · have E := Lib.hid (txK_no (c := c) (.inr (.inl ⟨by omega, h3⟩)))
    have j1 : 32 ≤ c := by omega
    have j2 : 127 ≤ c := by omega
    clear h1 h2
    go_enter Tryd.func24, Tryd.ntmps24
    go_wp2_with fail
    go_ret
    exact ⟨ret_b E.out.symm, Below.refl _ _⟩
  by_cases h4 : c < 57344
  · have E := Lib.hid (txK_is (c := c) (by omega))
    have j1 : 32 ≤ c := by omega
    have j2 : 127 ≤ c := by omega
    have j3 : 159 < c := by omega
    clear h1 h2 h3
    go_enter Tryd.func24, Tryd.ntmps24
    go_wp2_with fail
    refine HP.out.mono ?_
    rintro e w1 ⟨A, cp, rfl, _, hb⟩
    have hl := HL.out
    go_wp2_with fail
    go_ret
    exact ⟨ret_b (by rw [E.out, ← hl]; simp [show ¬ c < 32 by omega, show ¬ c ≤ 159 by omega]), hb⟩
  have j1 : 32 ≤ c := by omega
  have j2 : 127 ≤ c := by omega
  have j3 : 159 < c := by omega
  have j4 : 57344 ≤ c := by omega
  by_cases h5 : c ≤ 63743
  · have E := Lib.hid (txK_no (c := c) (.inr (.inr ⟨j4, h5⟩)))
    clear h1 h2 h3 h4
    go_enter Tryd.func24, Tryd.ntmps24
    go_wp2_with fail
    go_ret
    exact ⟨ret_b E.out.symm, Below.refl _ _⟩
  · have E := Lib.hid (txK_is (c := c) (by omega))
    have j5 : 63743 < c := by omega
    clear h1 h2 h3 h4 h5
    go_enter Tryd.func24, Tryd.ntmps24
    go_wp2_with fail
    refine HP.out.mono ?_
    rintro e w1 ⟨A, cp, rfl, _, hb⟩
    have hl := HL.out
    go_wp2_with fail
    go_ret
    exact ⟨ret_b (by rw [E.out, ← hl]; simp [show ¬ c < 32 by omega, show ¬ c ≤ 159 by omega, show ¬ c ≤ 63743 by omega]), hb⟩

/-- A row's entry, of a code of the row. -/
theorem entry_ro (r : Ro) (hr : r ∈ roL) (a : Nat) (c : Int) (hc : c = r.first + (a : Int)) (hc2 : c ≤ r.last) (A : Option Addr) (cp : Nat) (w : World) (hR : Rd w A (is_ r.nums)) :
    Calls Tryd.prog 23 #[.agg #[.int .i64 r.first, .int .i64 r.last, .int .i64 r.kind, .string ⟨r.finals.toArray⟩, .slice A r.nums.length cp, .string ⟨r.chars.toArray⟩, .bool r.keys], .int .i64 c] w fun e w' => e = .returned (enV (entK r a)) ∧ Below w.heap.size w w' := by
  obtain ⟨⟨b1, b2, b3⟩, b4, b5, b6⟩ := ro_bd r hr
  subst hc
  refine (entry_any r.first r.last r.kind ⟨r.finals.toArray⟩ r.nums r.nums.length rfl ⟨r.chars.toArray⟩ r.keys A cp a (by omega) b1 (by omega) b4 b5 b6 w hR).mono ?_
  rintro e w' ⟨rfl, hb⟩
  refine ⟨?_, hb⟩
  rw [sbK_eq, sbK_eq]
  rfl
end Go.Proofs.YtbjmfhcgkpjcfaaDoor
