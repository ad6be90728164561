/-
  Layer 1, walked: Hex, the program's and the document's.
-/
import Derived.Test.YtkkjahhilcjpgaaDoorG14
import Derived.Test.YtkkjahhilcjpgaaDoorG15
import Derived.Deep.RegionLaw
import Derived.BigRegion
import Derived.Deep.RegionHeld3
namespace Go.Proofs.YtkkjahhilcjpgaaDoor
open Go.RowKit
theorem Tryd.u8info : (Tryd.prog.info? 5).map (fun i => (i.zero, i.size, i.bytes)) = some (some (.int .u8 0), 1, 1) := by kernel_rfl
theorem step_own {P : Program} {ops : Array Oper} {o : Oper} {a : Act} {w : World} {K : Act → World → Prop} {Q : Exit → Act → World → Prop} {E : Prop}
 (hgd : o.guard = none) (s x : Operand) (t : TypeId) (ho : o.op = .call { callee := .builtin .append, args := #[s, x], argTypes := #[t, t] })
 (base : Nat) (e : TypeId) (i : TypeInfo) (z : Value) (ht : P.underlying t = some (.slice e)) (hi : P.info? e = some i) (hz : i.zero = some z) (hsize : i.size = 1) (hby : i.bytes = 1) (hzs : z.cells.size = 1)
 (v : Value) (n : Nat) (xs : List Value) (hs : a.eval s = v) (hown : w.ownsRow base e 1 v n xs)
 (ad : Addr) (m c : Nat) (news : List Value) (hx : a.eval x = .slice (some ad) m c) (hl : news.length = m) (hnews : ∀ j u, news[j]? = some u → w.cell? (ad.add j) = some u) (h1 : ∀ u ∈ news, u.oneCell' = true)
 (hlim : n + m ≤ 140737488355328) (hbase : base ≤ w.heap.size)
 (h : ∀ v' w', w'.ownsRow base e 1 v' (n + m) (xs ++ news) → w.grownBy w' v.ownBlock → K (a.put o.dst v') w') :
 if Region.wanted o (yielded ops a.tmps) = true then Oper.wp P o a w K Q else E := by
 have hw : Region.wanted o (yielded ops a.tmps) = true := by simp [Region.wanted, hgd]
 rw [if_pos hw]
 exact wp_append_own w s x t ho base e i z 1 1 ht hi hz hsize hby hzs (by omega) v n xs hs hown ad m c news hx (by simpa using hl) hnews h1 (by simp only [maxLen]; omega) (by simpa using hlim) hbase fun v' w' a b _ => h v' w' a b
theorem list_own {P : Program} {ops : Array Oper} {rest : List Oper} {o : Oper} {a : Act} {w : World} {Q : Exit → Act → World → Prop}
 (hgd : o.guard = none) (s x : Operand) (t : TypeId) (ho : o.op = .call { callee := .builtin .append, args := #[s, x], argTypes := #[t, t] })
 (base : Nat) (e : TypeId) (i : TypeInfo) (z : Value) (ht : P.underlying t = some (.slice e)) (hi : P.info? e = some i) (hz : i.zero = some z) (hsize : i.size = 1) (hby : i.bytes = 1) (hzs : z.cells.size = 1)
 (v : Value) (n : Nat) (xs : List Value) (hs : a.eval s = v) (hown : w.ownsRow base e 1 v n xs)
 (ad : Addr) (m c : Nat) (news : List Value) (hx : a.eval x = .slice (some ad) m c) (hl : news.length = m) (hnews : ∀ j u, news[j]? = some u → w.cell? (ad.add j) = some u) (h1 : ∀ u ∈ news, u.oneCell' = true)
 (hlim : n + m ≤ 140737488355328) (hbase : base ≤ w.heap.size)
 (h : ∀ v' w', w'.ownsRow base e 1 v' (n + m) (xs ++ news) → w.grownBy w' v.ownBlock → wpList P ops Q rest (a.put o.dst v') w') : wpList P ops Q (o :: rest) a w :=
 wpList_append_own w hgd s x t ho base e i z 1 1 ht hi hz hsize hby hzs (by omega) v n xs hs hown ad m c news hx (by simpa using hl) hnews h1 (by simp only [maxLen]; omega) (by simpa using hlim) hbase fun v' w' a b _ => h v' w' a b
theorem six_get (n : Nat) (h : n < 16) : (⟨#[48, 49, 50, 51, 52, 53, 54, 55, 56, 57, 65, 66, 67, 68, 69, 70]⟩ : ByteArray)[n]'h = hexD n := by
 have hd : ∀ m : Fin 16, (⟨#[48, 49, 50, 51, 52, 53, 54, 55, 56, 57, 65, 66, 67, 68, 69, 70]⟩ : ByteArray)[m.1]'m.2 = hexD m.1 := by decide
 exact hd ⟨n, h⟩
theorem six_pair (c : UInt8) (h1 : ((c.toNat : Int) / 16).toNat < 16) (h2 : ((c.toNat : Int) % 16).toNat < 16) :
 [Value.int .u8 (((⟨#[48, 49, 50, 51, 52, 53, 54, 55, 56, 57, 65, 66, 67, 68, 69, 70]⟩ : ByteArray)[((c.toNat : Int) / 16).toNat]'h1).toNat : Int), Value.int .u8 (((⟨#[48, 49, 50, 51, 52, 53, 54, 55, 56, 57, 65, 66, 67, 68, 69, 70]⟩ : ByteArray)[((c.toNat : Int) % 16).toNat]'h2).toNat : Int)] =
   bs [hexD (c.toNat / 16), hexD (c.toNat % 16)] := by
 rw [six_get _ h1, six_get _ h2, show ((c.toNat : Int) / 16).toNat = c.toNat / 16 by omega, show ((c.toNat : Int) % 16).toNat = c.toNat % 16 by omega]
 rfl
theorem hex_round (l : List UInt8) (k : Nat) (h : k < l.length) : bs (hexL (l.take (k + 1))) = bs (hexL (l.take k)) ++ bs [hexD ((l[k]).toNat / 16), hexD ((l[k]).toNat % 16)] := by
 rw [List.take_succ_eq_append_getElem h, hexL_snoc, bs_append]
set_option maxRecDepth 100000 in
set_option maxHeartbeats 1000000 in
theorem hex_any (A : Option Addr) (c : Nat) (l : List UInt8) (w : World) (hl : l.length ≤ 4294967296) (hr : Rd w A (bs l)) :
 Calls Tryd.prog 40 #[.slice A l.length c] w fun e w' => e = .returned (.string ⟨(hexL l).toArray⟩) ∧ Below w.heap.size w w' := by
 obtain ⟨i0, hi, hz0, hz1, hz2⟩ := info_parts Tryd.u8info
 go_enter Tryd.func40, Tryd.ntmps40
 go_wp2_with (at_make; refine wpList_make_own _ rfl _ _ 33 rfl w.heap.size 5 i0 _ 1 Tryd.underlying33 hi hz0 hz1 _ _ _ (2 * l.length) rfl rfl ?c0 ?c1 ?c2 ?c3 ?_)
 case c0 => omega
 case c1 => rw [hz2]; omega
 case c2 => simp only [maxLen]; omega
 case c3 => exact Nat.le_refl _
 intro w1 hown hg
 have hb1 : Below w.heap.size w w1 := (Below.refl _ _).grown hg (Nat.le_refl _) (by simp)
 have hr1 := hr.below hb1
 clear hg
 go_wp2
 go_loopw [3, 12] (fun v i wr => ∃ k : Nat, k ≤ l.length ∧ i = .int .i64 k ∧ wr.ownsRow w.heap.size 5 1 v (2 * k) (bs (hexL (l.take k))) ∧ Below w.heap.size w wr) (fun _ i _ => l.length - (intOf i).toNat)
 case atStart => exact ⟨0, Nat.zero_le _, rfl, hown, hb1⟩
 case round =>
  obtain ⟨k, hk, rfl, hown, hbw⟩ := hrel
  by_cases hlt : k < l.length
  ·obtain ⟨b, o, rfl, hb, hcell⟩ := (hr.below hbw).at_ (by omega)
   have hck := hcell k hlt
   have hlo := (l[k]).toNat_lt
   clear hcell
   have g1 : (0 : Int) ≤ (l[k].toNat : Int) / 16 := by omega
   have g2 : (l[k].toNat : Int) / 16 < 16 := by omega
   have g3 : (0 : Int) ≤ (l[k].toNat : Int) % 16 := by omega
   have g4 : (l[k].toNat : Int) % 16 < 16 := by omega
   have g5 : bits .and .u8 (l[k].toNat : Int) 15 = (l[k].toNat : Int) % 16 := u8_and15 _ (by omega) (by omega)
   have hbs : ∀ o, w.heap.size ≤ ((wr.alloc o).drew).heap.size := fun o => Nat.le_trans hbw.size (by simp)
   have hlim : 2 * k + 2 ≤ 140737488355328 := by omega
   have one2 : ∀ x y : Int, ∀ u ∈ [Value.int .u8 x, .int .u8 y], u.oneCell' = true := fun x y => ints_one [x, y]
   go_wp2_with fail
   go_region_law (refine step_own rfl (.tmp 16) (.tmp 23) 33 rfl w.heap.size 5 i0 _ Tryd.underlying33 hi hz0 hz1 hz2 rfl u3 (2 * k) _ (by simp [Act.eval]) (own_drew (hown.alloc _)) ⟨wr.heap.size, 0, none⟩ 2 2 _ (by simp [Act.eval]) rfl (lit_cells_drew wr _ _) (one2 _ _) hlim (hbs _) ?_; intro v' w' hown' hg')
   all_goals
    rw [six_pair, ← hex_round l k hlt] at hown'
    have hbv : Below w.heap.size w w' := ((hbw.alloc hbw.size _).drew).grown hg' (hbs _) (fun g hg => (hown.lt g hg).1)
    clear hg'
    go_wp2
    go_roundw
    case rel => exact ⟨k + 1, by omega, by go_num, hown', hbv⟩
    case measure => simp [intOf]; omega
  ·obtain ⟨A', c', rfl, hrd⟩ := own_form hown
   have hcv := conv_str (P := Tryd.prog) Tryd.underlying33 Tryd.underlying5 (c := c') (n := 2 * k) (by rw [hexL_length, List.length_take]; omega) hrd _ Tryd.underlying9
   have HE := Lib.hid (show l.take k = l from List.take_of_length_le (by omega))
   go_wp2
   go_ret
   exact ⟨ret_s (by rw [HE.out]), hbw⟩
theorem sixD_eq (n : Nat) (h : n < 16) : sixD (n : Int) = ((hexD n).toNat : Int) := by
 unfold sixD hexD
 by_cases h1 : n < 10
 ·rw [if_pos (by omega), if_pos h1, UInt8.toNat_ofNat_of_lt' (by show 48 + n < 256; omega)]; omega
 ·rw [if_neg (by omega), if_neg h1, UInt8.toNat_ofNat_of_lt' (by show 55 + n < 256; omega)]; omega
theorem sixD_pair (c : UInt8) : [Value.int .u8 (sixD ((c.toNat : Int) / 16)), Value.int .u8 (sixD ((c.toNat : Int) % 16))] = bs [hexD (c.toNat / 16), hexD (c.toNat % 16)] := by
 have hc := c.toNat_lt
 rw [show (c.toNat : Int) / 16 = ((c.toNat / 16 : Nat) : Int) by omega, show (c.toNat : Int) % 16 = ((c.toNat % 16 : Nat) : Int) by omega, sixD_eq _ (by omega), sixD_eq _ (by omega)]
 rfl
set_option maxRecDepth 100000 in
set_option maxHeartbeats 2000000 in
theorem rhex_any (A : Option Addr) (c : Nat) (l : List UInt8) (w : World) (hl : l.length ≤ 4294967296) (hr : Rd w A (bs l)) :
 Calls Tryd.prog 16 #[.slice A l.length c] w fun e w' => e = .returned (.string ⟨(hexL l).toArray⟩) ∧ Below w.heap.size w w' := by
 obtain ⟨i0, hi, hz0, hz1, hz2⟩ := info_parts Tryd.u8info
 have hown := World.ownsRow_nil w w.heap.size 5 1
 have hb1 := Below.refl w.heap.size w
 go_enter Tryd.func16, Tryd.ntmps16
 go_wp2
 go_loopw [3, 4] (fun v i wr => ∃ k : Nat, k ≤ l.length ∧ i = .int .i64 k ∧ wr.ownsRow w.heap.size 5 1 v (2 * k) (bs (hexL (l.take k))) ∧ Below w.heap.size w wr) (fun _ i _ => l.length - (intOf i).toNat)
 case atStart => exact ⟨0, Nat.zero_le _, rfl, hown, hb1⟩
 case round =>
  obtain ⟨k, hk, rfl, hown, hbw⟩ := hrel
  by_cases hlt : k < l.length
  ·obtain ⟨b, o, rfl, hb, hcell⟩ := hr.at_ (by omega)
   have hck0 := hcell k hlt
   have hck := (hbw.cell (p := ⟨b, o + k, none⟩) hb).trans hck0
   have hlo := (l[k]).toNat_lt
   clear hcell
   have g1 : (0 : Int) ≤ (l[k].toNat : Int) / 16 := by omega
   have g2 : (l[k].toNat : Int) / 16 < 16 := by omega
   have g3 : (0 : Int) ≤ (l[k].toNat : Int) % 16 := by omega
   have g4 : (l[k].toNat : Int) % 16 < 16 := by omega
   have g5 : (0 : Int) ≤ (k : Int) := by omega
   have g6 : (k : Int) < (l.length : Int) := by omega
   have hbs : ∀ o, w.heap.size ≤ ((wr.alloc o).drew).heap.size := fun o => Nat.le_trans hbw.size (by simp)
   have hlim : 2 * k + 2 ≤ 140737488355328 := by omega
   have one2 : ∀ x y : Int, ∀ u ∈ [Value.int .u8 x, .int .u8 y], u.oneCell' = true := fun x y => ints_one [x, y]
   have e1 : (l[k].toNat : Int).tdiv 16 = (l[k].toNat : Int) / 16 := Int.tdiv_eq_ediv_of_nonneg (by omega)
   have e2 : (l[k].toNat : Int).tmod 16 = (l[k].toNat : Int) % 16 := Int.tmod_eq_emod_of_nonneg (by omega)
   have e3 : IntKind.u8.wrap ((l[k].toNat : Int) / 16) = (l[k].toNat : Int) / 16 := by rw [IntKind.wrap_u8]; omega
   have e4 : IntKind.i64.wrap ((l[k].toNat : Int) / 16) = (l[k].toNat : Int) / 16 := IntWalk.i64_in _ (by omega)
   have e5 : IntKind.i64.wrap ((l[k].toNat : Int) % 16) = (l[k].toNat : Int) % 16 := IntWalk.i64_in _ (by omega)
   go_wp2_with fail
   go_region_held3 (fun w' => w'.cell? ⟨b, o + k, none⟩ = some (.int .u8 (l[k].toNat : Int))) (first
    | exact hck
    | exact (((hbw.alloc hbw.size _).drew).cell (p := ⟨b, o + k, none⟩) hb).trans hck0
    | exact ((((hbw.alloc hbw.size _).drew).grown hg' (hbs _) (fun g hg => (hown.lt g hg).1)).cell (p := ⟨b, o + k, none⟩) hb).trans hck0) (first
    | (refine step_own rfl (.tmp 11) (.tmp 26) 33 rfl w.heap.size 5 i0 _ Tryd.underlying33 hi hz0 hz1 hz2 rfl u3 (2 * k) _ (by simp [Act.eval]) (own_drew (hown.alloc _)) ⟨wr.heap.size, 0, none⟩ 2 2 _ (by simp [Act.eval]) rfl (lit_cells_drew wr _ _) (one2 _ _) hlim (hbs _) ?_; intro v' w' hown' hg')
    | (go_at_call 34; refine (six_any _ _ (by assumption) (by assumption)).mono ?_; rintro e w' ⟨rfl, rfl⟩))
   all_goals
    clear e1 e2 e3 e4 e5
    rw [sixD_pair, ← hex_round l k hlt] at hown'
    have hbv : Below w.heap.size w w' := ((hbw.alloc hbw.size _).drew).grown hg' (hbs _) (fun g hg => (hown.lt g hg).1)
    clear hg'
    go_wp2
    go_roundw
    case rel => exact ⟨k + 1, by omega, by go_num, hown', hbv⟩
    case measure => simp [intOf]; omega
  ·obtain ⟨A', c', rfl, hrd⟩ := own_form hown
   have hcv := conv_str (P := Tryd.prog) Tryd.underlying33 Tryd.underlying5 (c := c') (n := 2 * k) (by rw [hexL_length, List.length_take]; omega) hrd _ Tryd.underlying9
   have HE := Lib.hid (show l.take k = l from List.take_of_length_le (by omega))
   go_wp2
   go_ret
   exact ⟨ret_s (by rw [HE.out]), hbw⟩
end Go.Proofs.YtkkjahhilcjpgaaDoor
