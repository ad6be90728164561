/-
  Layer 10, the document's functions, walked. Words for what Put and Take tell, the document's and the program's. Layer 3, walked: the document's bare. Layer 2, walked: All. Cut out of WpQ: what names no function of any dump.
-/
import Derived.Test.YtdfojkbgdoiglaaGreatDoorG06
import Derived.Test.YtdfojkbgdoiglaaGreatDoorG08
import Derived.Test.YtdfojkbgdoiglaaGreatDoorG09
import Derived.Test.YtdfojkbgdoiglaaGreatDoorG17
import Derived.Test.YtdfojkbgdoiglaaGreatDoorG18
import Derived.Test.YtdfojkbgdoiglaaGreatDoorG19
import Derived.Deep.Cut
namespace Go.Proofs.YtdfojkbgdoiglaaGreatDoor
open Go.RowKit
section
variable {k : Ky}
set_option maxRecDepth 100000 in
set_option maxHeartbeats 4000000 in
theorem rshown_any (k : Ky) (hk : okK k) (w : World) : Calls Tryz.prog 26 #[kyV k] w fun e w' => e = .returned (.int .i64 (shownK k)) ∧ Below w.heap.size w w' := by
 have hB := ky_box w k
 have hhas := rhas10_any k.mods 1 (by decide) (by decide) hk.mods.2 (w.alloc (.cells (kyC k) 23))
 have k0 := Blk.new w 23 (kyC k)
 have hsh : shownK k = if hasN k.mods 1 = false then k.code else if k.shift ≠ 0 then k.shift else if 97 ≤ k.code ∧ k.code ≤ 122 then k.code - 32 else k.code := rfl
 obtain ⟨p, hp⟩ : ∃ p, hasN k.mods 1 = p := ⟨_, rfl⟩
 have hc := hk.code
 rw [hp] at hhas hsh
 clear hk hp
 rw [kyV]
 rw [kyC] at hB hhas k0
 obtain ⟨code, mods, typ, shift, base, text⟩ := k
 simp only at hB hhas k0 hsh hc ⊢
 go_enter Tryz.func26, Tryz.ntmps26
 have a0 := k0.cell 0
 have a1 := k0.cell 1
 have a3 := k0.cell 3
 have HSH := Lib.hid hsh
 clear hsh
 go_wp2_with fail
 refine hhas.mono ?_
 clear hhas
 rintro e w1 ⟨rfl, hb1⟩
 have k1 := k0.below hb1 k0.lt
 have hB1 := hB.trans (hb1.mono hB.size)
 clear k0 hB hb1 a0 a1 a3
 have a0 := k1.cell 0
 have a3 := k1.cell 3
 cases p with
 | false =>
   go_wp2_with fail
   go_ret
   exact ⟨ret_i (by rw [HSH.out]; rfl), hB1⟩
 | true =>
   by_cases h3 : shift = 0
   ·subst h3
    by_cases h4 : 97 ≤ code
    ·by_cases h5 : code ≤ 122
     ·go_wp2_with fail
      go_ret
      exact ⟨ret_i (by rw [HSH.out, if_neg (by decide), if_neg (fun h => h rfl), if_pos ⟨h4, h5⟩]), hB1⟩
     ·have h6 : 122 < code := by omega
      go_wp2_with fail
      go_ret
      exact ⟨ret_i (by rw [HSH.out, if_neg (by decide), if_neg (fun h => h rfl), if_neg (by omega)]), hB1⟩
    ·have h6 : code < 97 := by omega
     go_wp2_with fail
     go_ret
     exact ⟨ret_i (by rw [HSH.out, if_neg (by decide), if_neg (fun h => h rfl), if_neg (by omega)]), hB1⟩
   ·have h5 : (shift == 0) = false := beq_false_of_ne h3
    have h6 : (shift != 0) = true := by simp [bne, h5]
    have H3 := Lib.hid h3
    clear h3
    go_wp2_with fail
    go_ret
    exact ⟨ret_i (by rw [HSH.out, if_neg (by decide), if_pos H3.out]), hB1⟩
end
section
end
section
end
end Go.Proofs.YtdfojkbgdoiglaaGreatDoor
namespace Go.Proofs.YtdfojkbgdoiglaaGreatDoor
open Go.RowKit
def PutE (m : Int) (T : List UInt8) (w : World) (e : Ending) (w' : World) : Prop :=
 (∃ A c, e = .returned (.tuple #[.slice A T.length c, .int .i64 m]) ∧ T.length ≤ c ∧ Rd w' A (bs T)) ∧ Below w.heap.size w w'
def putE (s : Sq) : List UInt8 := if mayS s = 0 then putS s else []
theorem putE_0 {s : Sq} (h : mayS s = 0) : putE s = putS s := if_pos h
theorem putE_no {s : Sq} (h : mayS s ≠ 0) : putE s = [] := if_neg h
def seqC (s : Sq) (A : Option Addr) (c : Nat) : Array Value := #[.int .i64 s.kind, .int .u8 (s.priv.toNat : Int), .slice A s.params.length c, .string ⟨s.inter.toArray⟩, .int .u8 (s.final.toNat : Int), .string ⟨s.data.toArray⟩]
def zeroS : Value := .agg #[.int .i64 0, .int .u8 0, .slice none 0 0, .string ⟨#[]⟩, .int .u8 0, .string ⟨#[]⟩]
theorem rdp_drew {w : World} {A : Option Addr} {ps : List (List Int)} (h : RdP w A ps) : RdP w.drew A ps := h
end Go.Proofs.YtdfojkbgdoiglaaGreatDoor
namespace Go.Proofs.YtdfojkbgdoiglaaGreatDoor
open Go.RowKit
set_option maxRecDepth 100000 in
set_option maxHeartbeats 4000000 in
theorem bare_any (s : Sq) (A : Option Addr) (c : Nat) (q : Bool) (w : World) (hq : bareOk s = q) :
 Calls Tryz.prog 81 #[sqV s A c] w fun e w' => e = .returned (.bool q) ∧ Below w.heap.size w w' := by
 obtain ⟨k, pv, ps, it, f, d⟩ := s
 unfold sqV
 dsimp only
 have key : (k = 2 ∨ k = 4 ∨ k = 5) ∧ pv ≠ 0 ∧ q = false ∨ (k = 2 ∨ k = 4 ∨ k = 5) ∧ pv = 0 ∧ ps ≠ [] ∧ q = false ∨ (k = 2 ∨ k = 4) ∧ pv = 0 ∧ ps = [] ∧ it ≠ [] ∧ q = false ∨
  (k = 2 ∧ pv = 0 ∧ ps = [] ∧ it = [] ∨ k = 5 ∧ pv = 0 ∧ ps = []) ∧ q = decide (d = []) ∨ k = 4 ∧ pv = 0 ∧ ps = [] ∧ it = [] ∧ q = true ∨ k = 3 ∧ q = true ∨ (k ≠ 2 ∧ k ≠ 3 ∧ k ≠ 4 ∧ k ≠ 5) ∧ q = decide (d = []) := by
  subst hq
  unfold bareOk
  dsimp only
  by_cases k2 : k = 2
  ·subst k2
   by_cases h1 : pv = 0 <;> by_cases h2 : ps = [] <;> by_cases h3 : it = [] <;> simp [h1, h2, h3]
  ·by_cases k4 : k = 4
   ·subst k4
    by_cases h1 : pv = 0 <;> by_cases h2 : ps = [] <;> by_cases h3 : it = [] <;> simp [h1, h2, h3]
   ·by_cases k5 : k = 5
    ·subst k5
     by_cases h1 : pv = 0 <;> by_cases h2 : ps = [] <;> simp [h1, h2]
    ·by_cases k3 : k = 3
     ·subst k3; simp
     ·simp [k2, k3, k4, k5]
 clear hq
 rcases key with ⟨hk, hp, rfl⟩ | ⟨hk, rfl, hp, rfl⟩ | ⟨hk, rfl, rfl, hi, rfl⟩ | ⟨⟨rfl, rfl, rfl, rfl⟩ | ⟨rfl, rfl, rfl⟩, hq⟩ | ⟨rfl, rfl, rfl, rfl, rfl⟩ | ⟨rfl, rfl⟩ | ⟨⟨k2, k3, k4, k5⟩, hq⟩
 ·have hn : pv.toNat ≠ 0 := fun e => hp (UInt8.toNat_inj.1 e)
  have t1 : ((pv.toNat : Int) == 0) = false := beq_false_of_ne (by omega)
  have t2 : ((pv.toNat : Int) != 0) = true := by simp [bne, t1]
  clear hp
  rcases hk with rfl | rfl | rfl
  all_goals
   go_enter Tryz.func81, Tryz.ntmps81
   go_wp2
   go_ret
   exact ⟨rfl, (Below.refl _ _).alloc (Nat.le_refl _) _⟩
 ·have hn : 0 < ps.length := List.length_pos_iff.2 hp
  have hn2 : (0 : Int) < (ps.length : Int) := by omega
  clear hp
  rcases hk with rfl | rfl | rfl
  all_goals
   go_enter Tryz.func81, Tryz.ntmps81
   go_wp2
   go_ret
   exact ⟨rfl, (Below.refl _ _).alloc (Nat.le_refl _) _⟩
 ·cases it with
  | nil => exact absurd rfl hi
  | cons x it =>
    clear hi
    rcases hk with rfl | rfl
    all_goals
     go_enter Tryz.func81, Tryz.ntmps81
     go_wp2
     go_ret
     exact ⟨rfl, (Below.refl _ _).alloc (Nat.le_refl _) _⟩
 ·cases d with
  | nil =>
    obtain rfl : true = q := hq.symm
    clear hq
    go_enter Tryz.func81, Tryz.ntmps81
    go_wp2
    go_ret
    exact ⟨rfl, (Below.refl _ _).alloc (Nat.le_refl _) _⟩
  | cons x d =>
    obtain rfl : false = q := hq.symm
    clear hq
    go_enter Tryz.func81, Tryz.ntmps81
    go_wp2
    go_ret
    exact ⟨rfl, (Below.refl _ _).alloc (Nat.le_refl _) _⟩
 ·cases d with
  | nil =>
    obtain rfl : true = q := hq.symm
    clear hq
    go_enter Tryz.func81, Tryz.ntmps81
    go_wp2
    go_ret
    exact ⟨rfl, (Below.refl _ _).alloc (Nat.le_refl _) _⟩
  | cons x d =>
    obtain rfl : false = q := hq.symm
    clear hq
    go_enter Tryz.func81, Tryz.ntmps81
    go_wp2
    go_ret
    exact ⟨rfl, (Below.refl _ _).alloc (Nat.le_refl _) _⟩
 ·cases d
  all_goals
   go_enter Tryz.func81, Tryz.ntmps81
   go_wp2
   go_ret
   exact ⟨rfl, (Below.refl _ _).alloc (Nat.le_refl _) _⟩
 ·cases d
  all_goals
   go_enter Tryz.func81, Tryz.ntmps81
   go_wp2
   go_ret
   exact ⟨rfl, (Below.refl _ _).alloc (Nat.le_refl _) _⟩
 ·have t2 : (k == 2) = false := beq_false_of_ne k2
  have t3 : (k == 3) = false := beq_false_of_ne k3
  have t4 : (k == 4) = false := beq_false_of_ne k4
  have t5 : (k == 5) = false := beq_false_of_ne k5
  clear k2 k3 k4 k5
  cases d with
  | nil =>
    obtain rfl : true = q := hq.symm
    clear hq
    go_enter Tryz.func81, Tryz.ntmps81
    go_wp2
    go_ret
    exact ⟨rfl, (Below.refl _ _).alloc (Nat.le_refl _) _⟩
  | cons x d =>
    obtain rfl : false = q := hq.symm
    clear hq
    go_enter Tryz.func81, Tryz.ntmps81
    go_wp2
    go_ret
    exact ⟨rfl, (Below.refl _ _).alloc (Nat.le_refl _) _⟩
end Go.Proofs.YtdfojkbgdoiglaaGreatDoor
namespace Go.Proofs.YtdfojkbgdoiglaaGreatDoor
open Go.RowKit Go.Shelf
attribute [local go_sem] Oper.semAt_some
set_option maxRecDepth 100000 in
set_option maxHeartbeats 4000000 in
theorem all_any (A : Option Addr) (c : Nat) (t : List UInt8) (w : World) (hs : Siz w) (ht : t.length ≤ 4294967296) (htc : t.length ≤ c) (hr : Rd w A (bs t)) :
 Calls Tryz.prog 69 #[.slice A t.length c] w (Al (allL t) w) := by
 obtain ⟨i0, hi, hz0, hz1, hz2⟩ := info_parts Tryz.intinfo
 have hg0 : 1 < w.heap.size := by obtain ⟨_, _, hh⟩ := hs; exact (Array.getElem?_eq_some_iff.1 hh).1
 have hpl := ptsL_le t
 refine (callsIn_wide (n := 3)).1 ?_
 refine callsIn_of_wp_marks Tryz.func69 rfl trivial ?_ rfl
 simp only [Tryz.ntmps69, List.size_toArray, List.length_cons, List.length_nil, Nat.reduceAdd, Nat.reduceSub, Array.replicate_succ, Array.replicate_zero, List.push_toArray, List.append_toArray, List.nil_append, List.cons_append]
 gi_wp2_with fail
 refine ⟨trivial, ?_⟩
 gi_at_call 90
 refine (callsIn_wide.2 (points_any A t.length c _)).mono ?_
 rintro e w1 ⟨rfl, rfl⟩
 gi_wp2_with fail
 have r0 := Boxed.new w 69 (.slice none 0 0)
 have r1 := Boxed.new (w.alloc (.cells #[.slice none 0 0] 69)) 4 (.bool false)
 have r2 := Boxed.new ((w.alloc (.cells #[.slice none 0 0] 69)).alloc (.cells #[.bool false] 4)) 69 (.slice none 0 0)
 have bx := Blk.new (((w.alloc (.cells #[.slice none 0 0] 69)).alloc (.cells #[.bool false] 4)).alloc (.cells #[.slice none 0 0] 69)) 27 #[.slice A t.length c]
 simp only [World.size_alloc] at r1 r2 bx
 have hB0 : Below w.heap.size w ((((w.alloc (.cells #[.slice none 0 0] 69)).alloc (.cells #[.bool false] 4)).alloc (.cells #[.slice none 0 0] 69)).alloc (.cells #[.slice A t.length c] 27)) :=
  ((((Below.refl _ w).alloc (Nat.le_refl _) _).alloc (by simp) _).alloc (by simp; omega) _).alloc (by simp; omega) _
 refine wpIn_rangeFunc_ownG rfl (by omega) (gf := 99) (lb := #[.pointer (some ⟨w.heap.size + 1 + 1 + 1, 0, none⟩)]) rfl trivial (enters_of Tryz.func99 (by kernel_rfl) rfl)
  (pts_stops 2 (by omega) (w.heap.size + 1 + 1 + 1) w.heap.size c A t ht htc hg0 _ (by simp; omega) bx (hs.below' hB0) ((RdIn.of hr).below hB0)) kp2_t (kp2_b (by simp; omega) (by simp)) (Below.refl _ _) (fun _ => rfl)
  (fun (pre : List (Int × Bool)) W => (((((∃ v, Boxed W (w.heap.size + 1 + 1) 69 v ∧ W.ownsRow w.heap.size 3 1 v pre.length (is_ (pre.map (·.1))) ∧ True) ∧ Boxed W w.heap.size 69 (.slice none 0 0)) ∧ Boxed W (w.heap.size + 1) 4 (.bool false)) ∧ Boxed W (w.heap.size + 1 + 1 + 1) 27 (.slice A t.length c)) ∧ (∀ y ∈ pre, y.2 = true)) ∧ Below w.heap.size w W)
  (fun j (pre : List (Int × Bool)) W => ((Boxed W w.heap.size 69 (.slice none 0 0) ∧ Boxed W (w.heap.size + 1) 4 (.bool false)) ∧ (j = .ret ∧ ∃ y ∈ pre, y.2 = false)) ∧ Below w.heap.size w W)
  (OwnFrom.and (OwnFrom.and (OwnFrom.and (OwnFrom.and (OwnFrom.and (Go.Own.from (holdsRow_own w.heap.size (w.heap.size + 1 + 1) 69 3 1 (fun pre : List (Int × Bool) => pre.length) (fun pre => is_ (pre.map (·.1))) (fun _ _ => True)) _) (Go.Own.from (boxed_own w.heap.size 69 fun _ => .slice none 0 0) _)) (Go.Own.from (boxed_own (w.heap.size + 1) 4 fun _ => .bool false) _)) (Go.Own.from (boxed_own (w.heap.size + 1 + 1 + 1) 27 fun _ => .slice A t.length c) _)) (ownFrom_pure _ fun (pre : List (Int × Bool)) => ∀ y ∈ pre, y.2 = true)) (ownFrom_below (Nat.le_refl _) (by simp; omega)))
  (fun j => OwnFrom.and (OwnFrom.and (OwnFrom.and (Go.Own.from (boxed_own w.heap.size 69 fun _ => .slice none 0 0) _) (Go.Own.from (boxed_own (w.heap.size + 1) 4 fun _ => .bool false) _)) (ownFrom_pure _ fun (pre : List (Int × Bool)) => j = .ret ∧ ∃ y ∈ pre, y.2 = false)) (ownFrom_below (Nat.le_refl _) (by simp; omega)))
  ⟨⟨⟨⟨⟨⟨_, r2.alloc _, World.ownsRow_nil _ _ _ _, trivial⟩, ((r0.alloc _).alloc _).alloc _⟩, (r1.alloc _).alloc _⟩, bx⟩, by simp⟩, hB0⟩
  (fun x => { tmps := #[.slice A t.length c, undef, .pointer (some ⟨w.heap.size, 0, none⟩), .pointer (some ⟨w.heap.size + 1, 0, none⟩), .pointer (some ⟨w.heap.size + 1 + 1, 0, none⟩), .int .i64 x.1, .bool x.2, .slice A t.length c, .func (.func 99) #[] #[.pointer (some ⟨w.heap.size + 1 + 1 + 1, 0, none⟩)], .int .i64 x.1, .bool x.2, undef, undef, undef, undef, undef, undef, undef], defers := [] }) ?assign ?body ?done ?stop
 case assign =>
  intro l x W K hK
  gi_wp2
  exact hK
 case body =>
  rintro l pre ⟨r, ok⟩ W ⟨⟨⟨⟨⟨⟨v, hv, hrow, _⟩, b0⟩, b1⟩, b3⟩, hall⟩, hB⟩ hlt
  have hc := hv.cell
  have c0 := b0.cell
  have f0 := b0.frozen
  have c1 := b1.cell
  have f1 := b1.frozen
  cases ok with
  | true =>
    have h63 : pre.length + 1 ≤ maxLen := by simp only [maxLen]; omega
    have hlim : (pre.length + 1) * 8 ≤ 140737488355328 := by omega
    gi_wp2_with (gi_at_builtin; refine wpListIn_append_own _ rfl _ _ 69 rfl w.heap.size 3 i0 (.int .i64 0) 1 8 Tryz.underlying69 hi hz0 hz1 hz2 rfl (by decide) _ _ _ rfl (hrow.alloc _) ⟨W.heap.size, 0, none⟩ 1 1 [.int .i64 r] rfl rfl (cell_one_new _ _ _) (by simp [Value.oneCell']) h63 hlim (by have := hB.size; simp; omega) ?_; intro v' w1 hown' hgrow _; obtain ⟨g', cap', rfl⟩ := ownsRow_succ hown'; obtain ⟨hv1, hv2, hr2, hk2, hb2⟩ := hv.appended (by decide) hrow hB.size (by omega) hown' hgrow; have hc1 := hv1.cell; have hf1 := hv1.frozen)
    have d0 : Boxed (w1.setCell ⟨w.heap.size + 1 + 1, 0, none⟩ (.slice (some ⟨g', 0, none⟩) (pre.length + 1) cap')) w.heap.size 69 (.slice none 0 0) := ((b0.alloc _).kept hgrow (b0.not_row (by decide) hrow)).other (by omega) _
    have d1 : Boxed (w1.setCell ⟨w.heap.size + 1 + 1, 0, none⟩ (.slice (some ⟨g', 0, none⟩) (pre.length + 1) cap')) (w.heap.size + 1) 4 (.bool false) := ((b1.alloc _).kept hgrow (b1.not_row (by decide) hrow)).other (by omega) _
    have d3 : Boxed (w1.setCell ⟨w.heap.size + 1 + 1, 0, none⟩ (.slice (some ⟨g', 0, none⟩) (pre.length + 1) cap')) (w.heap.size + 1 + 1 + 1) 27 (.slice A t.length c) := ((b3.alloc _).kept hgrow (b3.not_row (by decide) hrow)).other (by omega) _
    refine ⟨hk2.from _, ⟨hb2, Eq.trans d3 (Eq.symm b3)⟩, ⟨⟨⟨⟨⟨_, hv2, ?_, trivial⟩, d0⟩, d1⟩, d3⟩, fun y hy => (List.mem_append.1 hy).elim (hall y) (fun e => by simp at e; subst e; rfl)⟩, hB.trans hb2⟩
    simpa [is_] using hr2
  | false =>
    gi_wp2
    exact ⟨((KeepsOthers.setCell _ _ _).trans (KeepsOthers.setCell _ _ _)).from _, ⟨⟨(Boxed.set _ b0).other (by omega) _, Boxed.set _ (b1.other (by omega) _)⟩, rfl, ⟨(r, false), by simp, rfl⟩⟩, (hB.setCell (p := ⟨w.heap.size, 0, none⟩) (Nat.le_refl _) _).setCell (p := ⟨w.heap.size + 1, 0, none⟩) (by simp) _⟩
 case done =>
  rintro D ys W hD rfl ⟨⟨⟨⟨⟨⟨v, hv, hrow, _⟩, b0⟩, b1⟩, b3⟩, hall⟩, hB⟩ hK
  have E := Lib.hid (allL_some hall)
  obtain ⟨A2, c2, rfl, _⟩ := own_form hrow
  have hc := hv.cell
  have c0 := b0.cell
  have f0 := b0.frozen
  have c1 := b1.cell
  have f1 := b1.frozen
  gi_wp2
  have hK' := ((KeepsOthers.setCell W ⟨w.heap.size, 0, none⟩ (.slice A2 (ptsL t).length c2)).trans (KeepsOthers.setCell _ ⟨w.heap.size + 1, 0, none⟩ (.bool true))).same D _ hK rfl
  refine ⟨by simp, .inl ⟨_, _, rfl, run_takeDeferred hK', ?_⟩⟩
  have e0 : Boxed ((W.setCell ⟨w.heap.size, 0, none⟩ (.slice A2 (ptsL t).length c2)).setCell ⟨w.heap.size + 1, 0, none⟩ (.bool true)) w.heap.size 69 (.slice A2 (ptsL t).length c2) := (Boxed.set _ b0).other (by omega) _
  have e1 : Boxed ((W.setCell ⟨w.heap.size, 0, none⟩ (.slice A2 (ptsL t).length c2)).setCell ⟨w.heap.size + 1, 0, none⟩ (.bool true)) (w.heap.size + 1) 4 (.bool true) := Boxed.set _ (b1.other (by omega) _)
  have hr1 := (hrow.kept (grownBy_setCell' W w.heap.size (.slice A2 (ptsL t).length c2)) (.inr (b0.not_row (by decide) hrow).symm))
  have hr2 := hr1.kept (grownBy_setCell' _ (w.heap.size + 1) (.bool true)) (.inr ((b1.other (B' := w.heap.size) (by omega) _).not_row (by decide) hr1).symm)
  have hr3 := ownsRow_putObj hr2 (.deferred none) hK' rfl
  have hc5 := cell_kept e0.cell (grownBy_putObj' _ D (.deferred none)) (fun r e => by cases e; exact ⟨_, hK', rfl⟩)
  have hc6 := cell_kept e1.cell (grownBy_putObj' _ D (.deferred none)) (fun r e => by cases e; exact ⟨_, hK', rfl⟩)
  refine ⟨.tuple #[.slice A2 (ptsL t).length c2, .bool true], ?_, Al.yes E.out (by simp) (Own.of hr3).rd (((hB.setCell (p := ⟨w.heap.size, 0, none⟩) (Nat.le_refl _) _).setCell (p := ⟨w.heap.size + 1, 0, none⟩) (by simp) _).trans (belowK_b (w := w) (Nat.le_refl _) _ D _ _ (by simp at hD; omega) hK' rfl rfl))⟩
  simp [results, Tryz.f69, go_sem, hc5, hc6]
 case stop =>
  rintro D j pre W hD hpre ⟨⟨⟨b0, b1⟩, rfl, ⟨y, hy, hy2⟩⟩, hB⟩ hK
  have E := Lib.hid (allL_none (all_false hpre hy hy2))
  gi_wp2
  refine ⟨by simp, .inl ⟨_, _, rfl, run_takeDeferred hK, ?_⟩⟩
  have hc5 := cell_kept b0.cell (grownBy_putObj' _ D (.deferred none)) (fun r e => by cases e; exact ⟨_, hK, rfl⟩)
  have hc6 := cell_kept b1.cell (grownBy_putObj' _ D (.deferred none)) (fun r e => by cases e; exact ⟨_, hK, rfl⟩)
  refine ⟨.tuple #[.slice none 0 0, .bool false], ?_, Al.no E.out (hB.trans (belowK_b (w := w) (Nat.le_refl _) W D _ _ (by simp at hD; omega) hK rfl rfl))⟩
  simp [results, Tryz.f69, go_sem, hc5, hc6]
end Go.Proofs.YtdfojkbgdoiglaaGreatDoor
namespace Go.Proofs.YtdfojkbgdoiglaaGreatDoor
open Go.RowKit
theorem may_small {s : Sq} (h : mayS s = 0) : s.priv.toNat < 128 ∧ s.final.toNat < 128 ∧ (putS s).length ≤ 20000 ∧ (s.kind = 1 ∨ s.kind = 2 ∨ s.kind = 3 ∨ s.kind = 4 ∨ s.kind = 5) := by
 obtain ⟨hdl, hv, hp, hil, hi, hd, hl, hb⟩ := ok_parts h
 have hk : s.kind = 1 ∨ s.kind = 2 ∨ s.kind = 3 ∨ s.kind = 4 ∨ s.kind = 5 := by
  unfold lastOk at hl
  split at hl
  ·omega
  ·split at hl
   ·omega
   ·simp only [Bool.and_eq_true, decide_eq_true_eq] at hl; omega
 refine ⟨?_, ?_, ?_, hk⟩
 ·simp only [privOk, Bool.or_eq_true, decide_eq_true_eq] at hv
  rcases hv with hv | hv
  ·rw [hv]; decide
  ·have := (btw_iff _ _ _).1 hv; omega
 ·unfold lastOk at hl
  split at hl
  ·have := (btw_iff _ _ _).1 hl; omega
  ·split at hl
   ·simp only [Bool.and_eq_true] at hl
    have := (btw_iff _ _ _).1 hl.1; omega
   ·simp only [Bool.and_eq_true, decide_eq_true_eq] at hl
    rw [hl.2]; decide
 ·have h3 := body_len hp hil
  unfold putS
  (repeat' split) <;> simp <;> omega
end Go.Proofs.YtdfojkbgdoiglaaGreatDoor
