/-
  What a round over a function keeps: all blocks of cells but some. (For all layers.) A sequence of numbers, as the program's Num tells it. Cut out of LegPw. Cut out of WpQ: what names no function of any dump. Stage 17, the document's paste, walked: Send, Take, Focus, Looked.
-/
import Derived.Test.YtgaoijinchakoaaDoorG10
import Derived.Test.YtgaoijinchakoaaDoorG11
import Derived.Test.YtgaoijinchakoaaDoorG21
import Derived.Test.YtgaoijinchakoaaDoorG25
import Derived.Test.YtgaoijinchakoaaDoorG31
import Derived.RangeFuncNested
import Derived.RangeFuncBound
import Derived.RangeFuncCalls
import Derived.RangeFuncLeaves
import Derived.RangeFuncBox
import Derived.WalkKit
import Derived.OwnWalkIn
import Derived.TacticsInMore
import Derived.LoopNIn
import Derived.LoopIn
namespace Go.Proofs.YtgaoijinchakoaaDoor
open Go.RowKit
section
def KpX (X : Nat → Prop) (W W' : World) : Prop := W.heap.size ≤ W'.heap.size ∧ ∀ k o, W.heap[k]? = some o → o.isCells = true → ¬ X k → W'.heap[k]? = some o
section
variable {X : Nat → Prop} {W W' W'' : World} {A : Option Addr} {xs : List Value}
theorem KpX.refl (X : Nat → Prop) (W : World) : KpX X W W := ⟨Nat.le_refl _, fun _ _ h _ _ => h⟩
theorem KpX.trans (h : KpX X W W') (k : KpX X W' W'') : KpX X W W'' := ⟨Nat.le_trans h.1 k.1, fun i o hi ho hx => k.2 i o (h.2 i o hi ho hx) ho hx⟩
theorem KpX.put (X : Nat → Prop) (W : World) (l : Nat) (o o' : Obj) (h : W.heap[l]? = some o) (hc : o.isCells = false) : KpX X W (W.putObj l o') :=
 ⟨by simp, fun k u hk hu _ => by
   by_cases e : k = l
   ·subst e
    rw [h] at hk
    cases hk
    rw [hc] at hu
    cases hu
   ·exact (World.putObj_heap_other e).trans hk⟩
theorem KpX.of_below (h : Below W.heap.size W W') : KpX X W W' := ⟨h.size, fun k _ hk _ _ => (h.block k (Array.getElem?_eq_some_iff.1 hk).1).trans hk⟩
theorem KpX.set (h : KpX X W W') {a : Addr} (ha : X a.block) (v : Value) : KpX X W (W'.setCell a v) :=
 ⟨by simpa [World.setCell] using h.1, fun k o hk ho hx => (Below.heap_setCell W' a v k (fun e => hx (by rw [e]; exact ha))).trans (h.2 k o hk ho hx)⟩
theorem RdOff.below' (h : RdOff W X A xs) (hb : Below W.heap.size W W') : RdOff W' X A xs := h.fr (Fr.of_below hb X) (Wid.refl _ _)
end
theorem Rd.off {w : World} {X : Nat → Prop} {g o : Nat} {xs : List Value} (h : Rd w (some ⟨g, o, none⟩) xs) (hn : ¬ X g) : RdOff w X (some ⟨g, o, none⟩) xs := fun hp => by
 obtain ⟨b, o', hA, hb, hc⟩ := h hp
 simp only [Option.some.injEq, Addr.mk.injEq, and_true] at hA
 obtain ⟨rfl, rfl⟩ := hA
 exact ⟨g, o, rfl, hb, hn, hc⟩
theorem keeps_below {W W' : World} (h : Below W.heap.size W W') : KeepsOthers W W' := ⟨h.size, fun k _ hk _ => (h.block k (Array.getElem?_eq_some_iff.1 hk).1).trans hk⟩
end
def NumQ (f : Int) (l : List Int) (n : Nat) (w : World) (e : Ending) (w' : World) : Prop := ∃ A c, e = .returned (.agg #[.int .i64 1, .int .u8 0, .slice A n c, .string ⟨#[]⟩, .int .u8 f, .string ⟨#[]⟩]) ∧ RdP w' A (l.map fun n => [n]) ∧ Below w.heap.size w w'
theorem lnum_any (f : Int) (h0 : 0 ≤ f) (h1 : f < 256) (l : List Int) (n : Nat) (hn : l.length = n) (hl : n ≤ 4294967296) (A : Option Addr) (c : Nat) (w : World) (hr : Rd w A (is_ l)) : Calls Tryd.prog 39 #[.int .u8 0, .int .u8 f, .slice A n c] w (NumQ f l n w) := by
 have h := num_any 0 (byt f) A n c l w hn hl hr
 rw [byt_nat f h0 h1] at h
 refine h.mono ?_
 rintro e w' ⟨⟨B, d, rfl, hr'⟩, hb⟩
 exact ⟨B, d, by rw [show numS 0 (byt f) l = sqN 1 f l from rfl, sqn_v hn h0 h1], hr', hb⟩
theorem may_small {s : Sq} (h : mayS s = 0) : s.priv.toNat < 128 ∧ s.final.toNat < 128 ∧ (putS s).length ≤ 20000 ∧ (s.kind = 1 ∨ s.kind = 2 ∨ s.kind = 3 ∨ s.kind = 4 ∨ s.kind = 5) := by
 obtain ⟨hdl, hv, hp, hil, hi, hd, hl, hb⟩ := ok_parts h
 have hk : s.kind = 1 ∨ s.kind = 2 ∨ s.kind = 3 ∨ s.kind = 4 ∨ s.kind = 5 := by
  unfold lastOk at hl
  split at hl
  ·omega
  ·split at hl
   ·omega
   ·simp only [Bool.and_eq_true, decide_eq_true_eq] at hl; omega
 refine ⟨?_, ?_, ?_, hk⟩
 ·simp only [privOk, Bool.or_eq_true, decide_eq_true_eq] at hv
  rcases hv with hv | hv
  ·rw [hv]; decide
  ·have := (btw_iff _ _ _).1 hv; omega
 ·unfold lastOk at hl
  split at hl
  ·have := (btw_iff _ _ _).1 hl; omega
  ·split at hl
   ·simp only [Bool.and_eq_true] at hl
    have := (btw_iff _ _ _).1 hl.1; omega
   ·simp only [Bool.and_eq_true, decide_eq_true_eq] at hl
    rw [hl.2]; decide
 ·have h3 := body_len hp hil
  unfold putS
  (repeat' split) <;> simp <;> omega
section
attribute [local go_sem] Oper.semAt_some
set_option maxRecDepth 100000 in
set_option maxHeartbeats 16000000 in
theorem rsend17_any (m : Mo) (A : Option Addr) (n c : Nat) (l : List UInt8) (hn : l.length = n) (w : World) (hl : n ≤ 4000000) (hc : n ≤ c) (hr : Rd w A (bs l)) (T : List UInt8) (k : Nat) (hT : sendP m.paste l = T) (hk : T.length = k) :
 Calls Tryd.prog 13 #[moV m, .slice A n c] w (OutD T k w) := by
 obtain ⟨i0, hi0, hz0, hz1, hz2⟩ : ∃ i, Tryd.prog.info? 5 = some i ∧ i.zero = some (.int .u8 0) ∧ i.size = 1 ∧ i.bytes = 1 := ⟨_, rfl, rfl, rfl, rfl⟩
 subst hk
 obtain ⟨b0, b1, b2, b3, b4, b5, b6, i7, i8, i9⟩ := m
 simp only [moV]
 simp only at hT
 have hB : Below w.heap.size w (w.alloc (.cells #[.bool b0, .bool b1, .bool b2, .bool b3, .bool b4, .bool b5, .bool b6, .int .i64 i7, .int .i64 i8, .int .i64 i9] 23)) := (Below.refl _ _).alloc (Nat.le_refl _) _
 have k0 := Blk.new w 23 #[.bool b0, .bool b1, .bool b2, .bool b3, .bool b4, .bool b5, .bool b6, .int .i64 i7, .int .i64 i8, .int .i64 i9]
 have hle := clnL_leD l
 obtain ⟨C, hC⟩ : ∃ C, clnL l = C := ⟨_, rfl⟩
 obtain ⟨cn, hcn⟩ : ∃ cn, C.length = cn := ⟨_, rfl⟩
 have HC : Hid (∀ W, Below w.heap.size w W → Calls Tryd.prog 11 #[.slice A n c] W (OutD C cn W)) := Lib.hid fun W hW => by
  have := rclean_any A n c l hn W hl hc (hr.below hW)
  rw [hC, hcn] at this
  exact this
 unfold sendP at hT
 rw [hC] at hT hle
 rw [hcn, hn] at hle
 cases b4 with
 | false =>
   rw [if_neg (by decide)] at hT
   subst hT
   rw [hcn]
   clear hC hcn hr
   go_enter Tryd.func13, Tryd.ntmps13
   go_wp2_with fail
   refine (HC.out _ hB).mono ?_
   rintro e w1 ⟨B, d, rfl, ho, hb⟩
   have k1 := k0.below hb k0.lt
   obtain ⟨a0, a1, a2, a3, a4, a5, a6, a7, a8, a9⟩ := Blk.cells10 k1
   go_wp2_with fail
   go_ret
   exact ⟨B, d, rfl, ho.mono hB.size, hB.trans (hb.mono hB.size)⟩
 | true =>
   rw [if_pos rfl] at hT
   have HL := Lib.hid (show 6 + cn + 6 = T.length by rw [← hT]; simp only [List.length_append, hcn, openB, closeB, List.length_cons, List.length_nil]; omega)
   have HV := Lib.hid (show bs [27, 91, 50, 48, 48, 126] ++ bs C ++ bs [27, 91, 50, 48, 49, 126] = bs T by rw [← hT, bs_append, bs_append]; simp [openB, closeB, bs])
   clear hC hr hT
   go_enter Tryd.func13, Tryd.ntmps13
   go_wp2_with fail
   refine (HC.out _ hB).mono ?_
   rintro e w1 ⟨A1, c1, rfl, ho1, hb1⟩
   have hB1 := hB.trans (hb1.mono hB.size)
   have k1 := k0.below hb1 k0.lt
   obtain ⟨a0, a1, a2, a3, a4, a5, a6, a7, a8, a9⟩ := Blk.cells10 k1
   have hs1 := hB1.size
   have own2 : Own (w1.alloc (.cells #[.int .u8 27, .int .u8 91, .int .u8 50, .int .u8 48, .int .u8 48, .int .u8 126] 5 (6, 7))) w.heap.size 5 1 (.slice (some ⟨w1.heap.size, 0, none⟩) 6 6) 6 (bs [27, 91, 50, 48, 48, 126]) := own_mark17 w1 _ _ 6 #[.int .u8 27, .int .u8 91, .int .u8 50, .int .u8 48, .int .u8 48, .int .u8 126] hs1 rfl (by simp [maxLen])
   have hB2 := hB1.alloc hs1 (.cells #[.int .u8 27, .int .u8 91, .int .u8 50, .int .u8 48, .int .u8 48, .int .u8 126] 5 (6, 7))
   have hr2 := ho1.rd.alloc (.cells #[.int .u8 27, .int .u8 91, .int .u8 50, .int .u8 48, .int .u8 48, .int .u8 126] 5 (6, 7))
   have HCN := Lib.hid (show (bs C).length = cn * 1 by rw [bs_length, hcn, Nat.mul_one])
   have g1 : 6 + cn ≤ maxLen := by simp only [maxLen]; omega
   have g2 : (6 + cn) * 1 ≤ 140737488355328 := by omega
   have g3 : 6 + cn + 6 ≤ maxLen := by simp only [maxLen]; omega
   have g4 : 6 + cn + 6 ≤ 140737488355328 := by omega
   have hs2 := hB2.size
   clear hB hb1 k0 k1 ho1 HC
   have hcv := Joins.run_convert_bytes_const_at (P := Tryd.prog) w1 24 5 #[.int .u8 27, .int .u8 91, .int .u8 50, .int .u8 48, .int .u8 48, .int .u8 126] 6 6 w1.heap.size (by simp) Tryd.underlying24 Tryd.underlying5
   go_wp2_with (first
    | (at_builtin; refine list_app _ rfl (.tmp 15) (.tmp 16) 24 rfl w.heap.size 5 i0 _ 1 1 Tryd.underlying24 hi0 hz0 hz1 hz2 rfl Nat.one_pos _ 6 _ rfl own2 A1 cn c1 (bs C) rfl HCN.out hr2 (bs_one _) g1 g2 hs2 ?_; intro v3 w3 own3 hg3
       have hB3 := hB2.grown hg3 hs2 (fun j hj => (own2.lt j hj).1)
       have hs3 := hB3.size)
    | (at_builtin; refine list_app_str _ rfl (.tmp 18) (.const (.string ⟨#[27, 91, 50, 48, 49, 126]⟩)) 24 9 rfl w.heap.size 5 i0 Tryd.underlying24 Tryd.underlying9 hi0 hz0 hz1 hz2 v3 _ _ rfl own3 ⟨#[27, 91, 50, 48, 49, 126]⟩ rfl g3 g4 hs3 ?_; intro v4 w4 own4 hg4
       have hB4 := hB3.grown hg4 hs3 (fun j hj => (own3.lt j hj).1)))
   have own5 : Own w4 w.heap.size 5 1 v4 (6 + cn + 6) (bs [27, 91, 50, 48, 48, 126] ++ bs C ++ bs [27, 91, 50, 48, 49, 126]) := own4
   rw [HL.out, HV.out] at own5
   obtain ⟨A4, c4, rfl, _⟩ := own5.form
   go_ret
   exact ⟨A4, c4, rfl, own5, hB4⟩
end
end Go.Proofs.YtgaoijinchakoaaDoor
