/-
  A block that is written whole, and read whole. Layer 3, walked: the program's Num. Layer 2: what the callers of the iterator share. Layer 9, the landed keys: its table of rows in memory.
-/
import Derived.Test.YtbjmfhcgkpjcfaaDoorG02
import Derived.Test.YtbjmfhcgkpjcfaaDoorG08
import Derived.Test.YtbjmfhcgkpjcfaaDoorG11
import Derived.Test.YtbjmfhcgkpjcfaaDoorG12
import Derived.Test.YtbjmfhcgkpjcfaaDoorG13
import Derived.Test.YtbjmfhcgkpjcfaaDoorG17
import Derived.Test.YtbjmfhcgkpjcfaaDoorG18
import Derived.Test.YtbjmfhcgkpjcfaaDoorG20
import Derived.Test.YtbjmfhcgkpjcfaaDoorG21
import Derived.Deep.MidRow
import Derived.Deep.Cut
namespace Go.Proofs.YtbjmfhcgkpjcfaaDoor
open Go.RowKit

section
variable {w w' : World} {g : Nat} {t : TypeId} {cs ds : Array Value}
theorem Blk.there (h : Blk w g t cs) : w.there g 0 cs.size := fun j hj => by
  rw [Nat.zero_add]
  exact ⟨by rw [h.cell j]; simp [hj], h.frozen j⟩
theorem Blk.range (h : Blk w g t cs) : w.rangeAt g 0 cs.toList := fun j v hv => by
  rw [Nat.zero_add, h.cell j]
  simpa using hv
theorem setCells_blk {g : Nat} {t : TypeId} : ∀ (vs pre old : List Value) (w : World), old.length = vs.length → Blk w g t (pre ++ old).toArray → Blk (w.setCells g pre.length vs) g t (pre ++ vs).toArray
  | [], pre, old, w, hl, h => by
    rw [List.length_eq_zero_iff.1 hl] at h
    exact h
  | v :: vs, pre, u :: old, w, hl, h => by
    have h1 : Blk (w.setCell ⟨g, pre.length, none⟩ v) g t ((pre ++ [v]) ++ old).toArray := by
      have h2 := h.set pre.length v
      have e : (pre ++ u :: old).toArray.setIfInBounds pre.length v = ((pre ++ [v]) ++ old).toArray := by
        rw [List.setIfInBounds_toArray, List.set_append_right _ _ (Nat.le_refl _), Nat.sub_self, List.set_cons_zero, List.append_assoc]
        rfl
      rwa [e] at h2
    have h3 := setCells_blk vs (pre ++ [v]) old _ (by simpa using hl) h1
    rw [List.length_append, List.append_assoc] at h3
    exact h3
/-- All of it is written. -/
theorem Blk.setAll (h : Blk w g t cs) (hs : ds.size = cs.size) : Blk (w.setCells g 0 ds.toList) g t ds := by
  obtain ⟨l⟩ := cs
  obtain ⟨m⟩ := ds
  have := setCells_blk (g := g) (t := t) m [] l w (by simpa using hs.symm) h
  exact this
/-- The store's run, as a rule. -/
theorem Blk.run_set {P : Program} (h : Blk w g t cs) (ds : Array Value) (hs : ds.size = cs.size) (hi : (P.info? t).map (·.size) = some cs.size) (h1 : ds.toList.all (·.oneCell') = true) :
    (Instr.storeAt t (.pointer (some ⟨g, 0, none⟩)) (.agg ds)).run P w = .ok () (w.setCells g 0 ds.toList) :=
  run_storeAt_mid w g 0 t ds (by rw [hs]; exact h.there) (by rw [hi, hs]) (by rw [← Array.all_toList]; exact h1)
/-- At the list of a plain region's operations: a struct stored whole. -/
theorem Blk.wp_set {P : Program} {ops : Array Oper} {rest : List Oper} {op : Oper} {a : Act} {Q : Exit → Act → World → Prop} (h : Blk w g t cs) (ds : Array Value) (hs : ds.size = cs.size) (hi : (P.info? t).map (·.size) = some cs.size) (h1 : ds.toList.all (·.oneCell') = true)
    (hgd : op.guard = none) (x y : Operand) (ho : op.op = .store t x y) (hx : a.eval x = .pointer (some ⟨g, 0, none⟩)) (hy : a.eval y = .agg ds)
    (hK : ∀ w', Blk w' g t ds → w.grownBy w' (some g) → wpList P ops Q rest (a.put op.dst undef) w') : wpList P ops Q (op :: rest) a w :=
  wpList_store_mid hgd t x y ho g 0 ds hx hy (by rw [hs]; exact h.there) (by rw [hi, hs]) (by rw [← Array.all_toList]; exact h1) (hK _ (h.setAll hs) (grown_setCells g _ 0 w))
end
end Go.Proofs.YtbjmfhcgkpjcfaaDoor
namespace Go.Proofs.YtbjmfhcgkpjcfaaDoor
open Go.RowKit

/-- A sequence of numbers. -/
def numS (a b : UInt8) (l : List Int) : Sq := ⟨1, a, l.map fun n => [n], [], b, []⟩
/-- What Num tells. -/
def NumP (a b : UInt8) (l : List Int) (w : World) (e : Ending) (w' : World) : Prop :=
  (∃ A c, e = .returned (sqV (numS a b l) A c) ∧ RdP w' A (numS a b l).params) ∧ Below w.heap.size w w'

set_option maxRecDepth 100000 in
set_option maxHeartbeats 8000000 in
theorem num_any (a b : UInt8) (A : Option Addr) (n c : Nat) (l : List Int) (w : World) (hn : l.length = n) (hl : n ≤ 4294967296) (hr : Rd w A (is_ l)) :
    Calls Tryd.prog 61 #[.int .u8 (a.toNat : Int), .int .u8 (b.toNat : Int), .slice A n c] w (NumP a b l w) := by
  obtain ⟨j0, hj, hy0, hy1, hy2⟩ : ∃ i, Tryd.prog.info? 60 = some i ∧ i.zero = some (.slice none 0 0) ∧ i.size = 1 ∧ i.bytes = 24 := ⟨_, rfl, rfl, rfl, rfl⟩
  have HN := Lib.hid hn
  clear hn
  go_enter Tryd.func61, Tryd.ntmps61
  go_wp2_with fail
  have hb0 : Below w.heap.size w ((w.alloc (.cells #[.int .i64 0, .int .u8 0, .slice none 0 0, .string ⟨#[]⟩, .int .u8 0, .string ⟨#[]⟩] 36)).alloc (.cells #[.int .i64 1, .int .u8 (a.toNat : Int), .slice none 0 0, .string ⟨#[]⟩, .int .u8 (b.toNat : Int), .string ⟨#[]⟩] 36)) := ((Below.refl _ w).alloc (Nat.le_refl _) _).alloc (by simp) _
  have hz0 : Blk ((w.alloc (.cells #[.int .i64 0, .int .u8 0, .slice none 0 0, .string ⟨#[]⟩, .int .u8 0, .string ⟨#[]⟩] 36)).alloc (.cells #[.int .i64 1, .int .u8 (a.toNat : Int), .slice none 0 0, .string ⟨#[]⟩, .int .u8 (b.toNat : Int), .string ⟨#[]⟩] 36)) w.heap.size 36 #[.int .i64 0, .int .u8 0, .slice none 0 0, .string ⟨#[]⟩, .int .u8 0, .string ⟨#[]⟩] := (Blk.new w _ _).alloc _
  have hs0 := Blk.new (w.alloc (.cells #[.int .i64 0, .int .u8 0, .slice none 0 0, .string ⟨#[]⟩, .int .u8 0, .string ⟨#[]⟩] 36)) 36 #[.int .i64 1, .int .u8 (a.toNat : Int), .slice none 0 0, .string ⟨#[]⟩, .int .u8 (b.toNat : Int), .string ⟨#[]⟩]
  rw [World.size_alloc] at hs0
  have hsz : ((w.alloc (.cells #[.int .i64 0, .int .u8 0, .slice none 0 0, .string ⟨#[]⟩, .int .u8 0, .string ⟨#[]⟩] 36)).alloc (.cells #[.int .i64 1, .int .u8 (a.toNat : Int), .slice none 0 0, .string ⟨#[]⟩, .int .u8 (b.toNat : Int), .string ⟨#[]⟩] 36)).heap.size = w.heap.size + 2 := by simp
  have HSZ := Lib.hid hsz
  clear hsz
  generalize ((w.alloc (.cells #[.int .i64 0, .int .u8 0, .slice none 0 0, .string ⟨#[]⟩, .int .u8 0, .string ⟨#[]⟩] 36)).alloc (.cells #[.int .i64 1, .int .u8 (a.toNat : Int), .slice none 0 0, .string ⟨#[]⟩, .int .u8 (b.toNat : Int), .string ⟨#[]⟩] 36)) = W0 at *
  have hg1 : w.heap.size < w.heap.size + 1 := Nat.lt_succ_self _
  have hg2 : w.heap.size + 1 < W0.heap.size := hs0.lt
  generalize w.heap.size + 1 = g at *
  go_loopw [15] (fun i wr => ∃ (k : Nat) (v : Value) (xs : List Value), k ≤ n ∧ i = .int .i64 k ∧ Own wr W0.heap.size 60 1 v k xs ∧ (∃ B2, B2 ≤ wr.heap.size ∧ Rows wr B2 3 xs ((l.take k).map fun n => [n])) ∧ Blk wr w.heap.size 36 #[.int .i64 0, .int .u8 0, .slice none 0 0, .string ⟨#[]⟩, .int .u8 0, .string ⟨#[]⟩] ∧ Blk wr g 36 #[.int .i64 1, .int .u8 (a.toNat : Int), v, .string ⟨#[]⟩, .int .u8 (b.toNat : Int), .string ⟨#[]⟩] ∧ Below w.heap.size w wr ∧ W0.heap.size ≤ wr.heap.size) (fun i _ => n - (intOf i).toNat)
  case atStart => exact ⟨0, _, [], Nat.zero_le _, rfl, Own.nil_ _ _ _ _, ⟨0, Nat.zero_le _, by rfl, fun k hk => absurd hk (by simp)⟩, hz0, hs0, hb0, Nat.le_refl _⟩
  case round =>
    obtain ⟨k, v, xs, hk, rfl, ho, ⟨B2, hB2, hrs⟩, hz, hs, hbw, hW⟩ := hrel
    clear hz0 hs0 hb0
    obtain ⟨c0, c1, c2, c3, c4, c5⟩ := Blk.cells6 hs
    have fz2 := hs.frozen 2
    by_cases hlt : k < n
    · have hkl : k < l.length := by rw [HN.out]; exact hlt
      obtain ⟨bb, oo, hA, hbb, hcc⟩ := (hr.below hbw).int_at (by rw [HN.out]; omega)
      cases hA
      have hck := hcc k hkl
      obtain ⟨x, hx⟩ : ∃ x, l[k]'hkl = x := ⟨_, rfl⟩
      rw [hx] at hck
      have HX := Lib.hid (show l.take (k + 1) = l.take k ++ [x] by rw [List.take_succ_eq_append_getElem hkl, hx])
      clear hx hcc
      obtain ⟨Av, cv, rfl, _⟩ := ho.form
      have hown1 := (ho.alloc (.cells #[.int .i64 x] 3)).alloc (.cells #[.slice (some ⟨wr.heap.size, 0, none⟩) 1 1] 60)
      have hrd1 : Rd ((wr.alloc (.cells #[.int .i64 x] 3)).alloc (.cells #[.slice (some ⟨wr.heap.size, 0, none⟩) 1 1] 60)) (some ⟨wr.heap.size + 1, 0, none⟩) [.slice (some ⟨wr.heap.size, 0, none⟩) 1 1] := by
        have := Rd.block (xs := [.slice (some ⟨wr.heap.size, 0, none⟩) 1 1]) (heap_alloc_new (wr.alloc (.cells #[.int .i64 x] 3)) (.cells #[.slice (some ⟨wr.heap.size, 0, none⟩) 1 1] 60)) (by simp)
        rwa [World.size_alloc] at this
      have hin : RowI (wr.alloc (.cells #[.int .i64 x] 3)) (wr.heap.size + 1) 3 (some ⟨wr.heap.size, 0, none⟩) [x] := by
        obtain ⟨_, A', c', h1, h2⟩ := own_row (p := [x]) (own_lit (wr.alloc (.cells #[.int .i64 x] 3)) 0 3 wr.heap.size (.int .i64 x) (Nat.zero_le _) (heap_alloc_new wr _))
        cases h1
        rwa [World.size_alloc] at h2
      have hrs1 := ((hrs.keep (Nat.le_refl B2) (fun q hq _ => Below.heap_alloc wr (.cells #[.int .i64 x] 3) q (by omega))).keep (B' := wr.heap.size + 1) (by omega) (fun _ _ _ => rfl)).snoc2 (n := 1) rfl (c := 1) hin
      have hrs2 := hrs1.keep (Nat.le_refl _) (fun q hq _ => Below.heap_alloc (wr.alloc (.cells #[.int .i64 x] 3)) (.cells #[.slice (some ⟨wr.heap.size, 0, none⟩) 1 1] 60) q (by simp; omega))
      have hz2 := (hz.alloc (.cells #[.int .i64 x] 3)).alloc (.cells #[.slice (some ⟨wr.heap.size, 0, none⟩) 1 1] 60)
      have hs2 := (hs.alloc (.cells #[.int .i64 x] 3)).alloc (.cells #[.slice (some ⟨wr.heap.size, 0, none⟩) 1 1] 60)
      have hb2 : Below w.heap.size w ((wr.alloc (.cells #[.int .i64 x] 3)).alloc (.cells #[.slice (some ⟨wr.heap.size, 0, none⟩) 1 1] 60)) := (hbw.alloc hbw.size _).alloc (Nat.le_trans hbw.size (by simp)) _
      have h63 : k + 1 ≤ maxLen := by simp only [maxLen]; omega
      have hlim : (k + 1) * 24 ≤ 140737488355328 := by omega
      have hbs : W0.heap.size ≤ ((wr.alloc (.cells #[.int .i64 x] 3)).alloc (.cells #[.slice (some ⟨wr.heap.size, 0, none⟩) 1 1] 60)).heap.size := by simp; omega
      have hsz2 : wr.heap.size + 1 ≤ ((wr.alloc (.cells #[.int .i64 x] 3)).alloc (.cells #[.slice (some ⟨wr.heap.size, 0, none⟩) 1 1] 60)).heap.size := by simp
      clear hrs hrs1 hin ho
      go_wp2_with (first | (at_builtin; refine list_app _ rfl (.tmp 20) (.tmp 23) 34 rfl W0.heap.size 60 j0 _ 1 24 Tryd.underlying34 hj hy0 hy1 hy2 rfl Nat.one_pos _ _ _ rfl hown1 _ 1 1 [.slice (some ⟨wr.heap.size, 0, none⟩) 1 1] rfl rfl hrd1 (sl_one _ _ _) h63 hlim hbs ?_; intro v5 w5 hown5 hg5; obtain ⟨A5, c5, rfl, hf5⟩ := hown5.form; clear hf5; have hs5 := hs2.grown hg5 (hown1.no_cells hs2 (by decide)); have fz5 := hs5.frozen 2; obtain ⟨e0, e1, e2, e3, e4, e5⟩ := Blk.cells6 hs5))
      have hz5 := hz2.grown hg5 (hown1.no_cells hz2 (by decide))
      have hrs5 := hrs2.keep (B' := wr.heap.size + 1) (Nat.le_refl _) (keep_out hown1 (by decide) hg5)
      have hb5 : Below w.heap.size w w5 := hb2.grown hg5 (Nat.le_trans hbw.size (by simp; omega)) (fun g hg => by have := (hown1.lt g hg).1; have := HSZ.out; omega)
      have hsz5 : wr.heap.size + 1 ≤ w5.heap.size := Nat.le_trans hsz2 hg5.size
      have hgs := grown_setCell g 2 (.slice A5 (k + 1) c5) w5
      clear hg5 hown1 hrd1 hz2 hs2 hb2 h63 hlim hbs hsz2 hrs2
      go_wp2_with fail
      go_roundw
      case rel =>
        refine ⟨k + 1, _, xs ++ [.slice (some ⟨wr.heap.size, 0, none⟩) 1 1], by omega, by go_num, hown5.kept hgs (.inr (hown5.no_cells hs5 (by decide))), ⟨wr.heap.size + 1, by simp; exact hsz5, ?_⟩, hz5.far (by show w.heap.size ≠ g; omega) _, hs5.set 2 _, hb5.setCell (p := ⟨g, 2, none⟩) (Nat.le_of_lt hg1) _, Nat.le_trans hW (Nat.le_trans (Nat.le_succ _) (by simpa using hsz5))⟩
        rw [HX.out, List.map_append]
        exact hrs5.keep (Nat.le_refl _) (fun q _ ⟨cur, fz, hh⟩ => hgs.block q (Array.getElem?_eq_some_iff.1 hh).1 (fun e => tag_ne hs5 hh (by decide) (by injection e)))
      case measure => simp [intOf]; omega
    · obtain rfl : k = n := by omega
      have HT := Lib.hid (show l.take k = l from List.take_of_length_le (by rw [HN.out]; omega))
      obtain ⟨A3, c3, rfl, hrow⟩ := hrs.rdpn ho hs (by decide) (by decide)
      rw [HT.out] at hrow
      have hrow2 := hrow.other hz (by decide) (by decide) (grown_set6 wr w.heap.size (.int .i64 1) (.int .u8 (a.toNat : Int)) (.slice A3 k c3) (.string ⟨#[]⟩) (.int .u8 (b.toNat : Int)) (.string ⟨#[]⟩))
      have hb6 := below_set6 hbw (Nat.le_refl w.heap.size) (.int .i64 1) (.int .u8 (a.toNat : Int)) (.slice A3 k c3) (.string ⟨#[]⟩) (.int .u8 (b.toNat : Int)) (.string ⟨#[]⟩)
      obtain ⟨d0, d1, d2, d3, d4, d5⟩ := Blk.cells6 hz
      have z0 := hz.frozen 0
      have z1 := hz.frozen 1
      have z2 := hz.frozen 2
      have z3 := hz.frozen 3
      have z4 := hz.frozen 4
      have z5 := hz.frozen 5
      have HNL := Lib.hid (show (l.map fun n => [n]).length = k by rw [List.length_map]; exact HN.out)
      clear hrow hz ho hrs hs
      go_wp2_with fail
      refine bodyPost_ret (v := .agg #[.int .i64 1, .int .u8 (a.toNat : Int), .slice A3 k c3, .string ⟨#[]⟩, .int .u8 (b.toNat : Int), .string ⟨#[]⟩]) (by simp [results, Tryd.results61, go_sem, d0, d1, d2, d3, d4, d5]) rfl ⟨⟨A3, c3, ?_, hrow2.rdp⟩, hb6⟩
      unfold sqV numS
      dsimp only
      rw [HNL.out]
end Go.Proofs.YtbjmfhcgkpjcfaaDoor
namespace Go.Proofs.YtbjmfhcgkpjcfaaDoor
open Go.RowKit Go.Shelf
attribute [local go_sem] Oper.semAt_some

theorem kp2_t {n₁ B : Nat} {X Y Z : World} (h : Kp2 n₁ B X Y) (k : Kp2 n₁ B Y Z) : Kp2 n₁ B X Z := ⟨h.1.trans k.1, k.2.trans h.2⟩
theorem kp2_b {n₁ B : Nat} {w : World} (hn : n₁ ≤ w.heap.size) (hB : B < w.heap.size) (W : World) (l : Nat) (o o' : Obj) (hl : w.heap.size ≤ l) (h : W.heap[l]? = some o) (hc : o.isCells = false) (hw : o.isWalk = false) : Kp2 n₁ B W (W.putObj l o') :=
  ⟨belowK_b hn W l o o' hl h hc hw, World.putObj_heap_other (by omega)⟩
theorem kp2_refl (n₁ B : Nat) (w : World) : Kp2 n₁ B w w := ⟨Below.refl _ _, rfl⟩

/-- What points tells is told to every loop. -/
theorem pts_stops (n : Nat) (hn : 1 ≤ n) (Bs n₁ c : Nat) (A : Option Addr) (t : List UInt8) (ht : t.length ≤ 4294967296) (htc : t.length ≤ c) (hg0 : 1 < n₁) (w : World) (hn₁ : n₁ ≤ w.heap.size)
    (hbox : Blk w Bs 28 #[.slice A t.length c]) (hs : Siz w) (hr : RdIn n₁ w A (bs t)) :
    SeqStopsK Fence.wide n Tryd.prog 81 #[.pointer (some ⟨Bs, 0, none⟩)] (fun x : Int × Bool => #[.int .i64 x.1, .bool x.2]) (Kp2 n₁ Bs) (fun ys => ys = ptsL t) (fun pre => pre <+: ptsL t) (ptsL t).length w := fun l J Jx W hW hJ _ hY h0 =>
  pts1_in n hn l Bs n₁ W.heap.size c A t ht htc hg0 J Jx hJ hY W (hbox.below hW hbox.lt) (hs.below' hW) (hr.below (hW.mono hn₁)) (Nat.le_trans hn₁ hW.size) h0

theorem all_false {p q : List (Int × Bool)} (h : p <+: q) {y : Int × Bool} (hy : y ∈ p) (h2 : y.2 = false) : q.all (·.2) = false := by
  rw [List.all_eq_false]
  exact ⟨y, h.subset hy, by simp [h2]⟩
theorem allL_none {t : List UInt8} (h : (ptsL t).all (·.2) = false) : allL t = none := by unfold allL allOf; rw [h]; rfl
theorem allL_some {t : List UInt8} (h : ∀ y ∈ ptsL t, y.2 = true) : allL t = some ((ptsL t).map (·.1)) := by
  unfold allL allOf
  rw [if_pos (List.all_eq_true.2 h)]
end Go.Proofs.YtbjmfhcgkpjcfaaDoor
namespace Go.Proofs.YtbjmfhcgkpjcfaaDoor
open Go.RowKit

/-- A row as seven cells. -/
def roC (r : Ro) (A : Option Addr) (c : Nat) : List Value := [.int .i64 r.first, .int .i64 r.last, .int .i64 r.kind, .string ⟨r.finals.toArray⟩, .slice A r.nums.length c, .string ⟨r.chars.toArray⟩, .bool r.keys]
/-- A slice of rows, below a block. -/
def RdRo (n₁ : Nat) (w : World) (b o : Nat) (rs : List Ro) : Prop :=
  ∀ k (hk : k < rs.length), ∃ A' c', RdIn n₁ w A' (is_ rs[k].nums) ∧ ∀ i u, (roC rs[k] A' c')[i]? = some u → w.cell? ⟨b, o + k * 7 + i, none⟩ = some u
/-- The package's table, below a block. -/
def RwsIn (n₁ : Nat) (w : World) : Prop :=
  ∃ b o c t fz, w.heap[0]? = some (.cells #[.slice (some ⟨b, o, none⟩) 22 c] t fz) ∧ 0 < n₁ ∧ b < n₁ ∧ RdRo n₁ w b o roL
def Rws (w : World) : Prop := RwsIn w.heap.size w
section
variable {n₁ n₂ : Nat} {w w' : World} {b o : Nat} {rs : List Ro}
theorem RdRo.below (h : RdRo n₁ w b o rs) (hb : Below n₁ w w') (hl : b < n₁) : RdRo n₁ w' b o rs := fun k hk => by
  obtain ⟨A', c', h1, h2⟩ := h k hk
  exact ⟨A', c', h1.below hb, fun i u hu => (hb.cell (p := ⟨b, o + k * 7 + i, none⟩) hl).trans (h2 i u hu)⟩
theorem RdRo.kpx {X : Nat → Prop} (h : RdRo n₁ w b o rs) (hk : KpX X w w') (hX : ∀ k, X k → n₁ ≤ k) (hl : b < n₁) : RdRo n₁ w' b o rs := fun k hk2 => by
  obtain ⟨A', c', h1, h2⟩ := h k hk2
  refine ⟨A', c', h1.kpx hk hX, fun i u hu => (World.cell?_of_block (w := w) (a := ⟨b, o + k * 7 + i, none⟩) ?_).trans (h2 i u hu)⟩
  obtain ⟨ob, e1, e2⟩ := cells_is (h2 i u hu)
  exact (hk.2 b ob e1 e2 (fun hx => by have := hX b hx; omega)).trans e1.symm
theorem RwsIn.below (h : RwsIn n₁ w) (hb : Below n₁ w w') : RwsIn n₁ w' := by
  obtain ⟨b, o, c, t, fz, h1, h2, h3, h4⟩ := h
  exact ⟨b, o, c, t, fz, (hb.block _ h2).trans h1, h2, h3, h4.below hb h3⟩
theorem RwsIn.kpx {X : Nat → Prop} (h : RwsIn n₁ w) (hk : KpX X w w') (hX : ∀ k, X k → n₁ ≤ k) : RwsIn n₁ w' := by
  obtain ⟨b, o, c, t, fz, h1, h2, h3, h4⟩ := h
  exact ⟨b, o, c, t, fz, hk.2 _ _ h1 rfl (fun hx => by have := hX _ hx; omega), h2, h3, h4.kpx hk hX h3⟩
theorem RdIn.mono {A : Option Addr} {xs : List Value} (h : RdIn n₁ w A xs) (hn : n₁ ≤ n₂) : RdIn n₂ w A xs := fun hp => by
  obtain ⟨b, o, rfl, hb, hc⟩ := h hp
  exact ⟨b, o, rfl, by omega, hc⟩
theorem RwsIn.mono (h : RwsIn n₁ w) (hn : n₁ ≤ n₂) : RwsIn n₂ w := by
  obtain ⟨b, o, c, t, fz, h1, h2, h3, h4⟩ := h
  refine ⟨b, o, c, t, fz, h1, by omega, by omega, fun k hk => ?_⟩
  obtain ⟨A', c', e1, e2⟩ := h4 k hk
  exact ⟨A', c', e1.mono hn, e2⟩
theorem Rws.below (h : Rws w) (hb : Below w.heap.size w w') : Rws w' := (RwsIn.below h hb).mono hb.size
/-- A row that a round reads. -/
theorem RdRo.at_ (h : RdRo n₁ w b o rs) {k : Nat} (hk : k < rs.length) {r : Ro} (hr : rs[k] = r) : ∃ A' c', RdIn n₁ w A' (is_ r.nums) ∧
    w.cell? ⟨b, o + k * 7, none⟩ = some (.int .i64 r.first) ∧ w.cell? ⟨b, o + k * 7 + 1, none⟩ = some (.int .i64 r.last) ∧ w.cell? ⟨b, o + k * 7 + 2, none⟩ = some (.int .i64 r.kind) ∧ w.cell? ⟨b, o + k * 7 + 3, none⟩ = some (.string ⟨r.finals.toArray⟩) ∧ w.cell? ⟨b, o + k * 7 + 4, none⟩ = some (.slice A' r.nums.length c') ∧ w.cell? ⟨b, o + k * 7 + 5, none⟩ = some (.string ⟨r.chars.toArray⟩) ∧ w.cell? ⟨b, o + k * 7 + 6, none⟩ = some (.bool r.keys) := by
  obtain ⟨A', c', h1, h2⟩ := h k hk
  subst hr
  exact ⟨A', c', h1, h2 0 _ rfl, h2 1 _ rfl, h2 2 _ rfl, h2 3 _ rfl, h2 4 _ rfl, h2 5 _ rfl, h2 6 _ rfl⟩
end
def sbK (s : ByteArray) (a : Nat) : Int := if h : a < s.size then ((s[a]'h).toNat : Int) else 0
theorem sbK_eq (l : List UInt8) (a : Nat) : sbK ⟨l.toArray⟩ a = byL l a := by
  unfold sbK byL
  by_cases h : a < l.length
  · rw [dif_pos (show a < (⟨l.toArray⟩ : ByteArray).size from h)]
    rw [List.getD_eq_getElem?_getD, List.getElem?_eq_getElem h]
    rfl
  · rw [dif_neg (show ¬ a < (⟨l.toArray⟩ : ByteArray).size from h)]
    rw [List.getD_eq_getElem?_getD, List.getElem?_eq_none (by omega)]
    rfl
theorem sbK_yes {s : ByteArray} {a : Nat} (h : a < s.size) : sbK s a = ((s[a]'h).toNat : Int) := by unfold sbK; rw [dif_pos h]
theorem sbK_no {s : ByteArray} {a : Nat} (h : ¬ a < s.size) : sbK s a = 0 := by unfold sbK; rw [dif_neg h]
theorem getD_yes {l : List Int} {a : Nat} (h : a < l.length) : l.getD a 0 = l[a] := by rw [List.getD_eq_getElem?_getD, List.getElem?_eq_getElem h]; rfl
theorem getD_no {l : List Int} {a : Nat} (h : ¬ a < l.length) : l.getD a 0 = 0 := by rw [List.getD_eq_getElem?_getD, List.getElem?_eq_none (by omega)]; rfl
end Go.Proofs.YtbjmfhcgkpjcfaaDoor
