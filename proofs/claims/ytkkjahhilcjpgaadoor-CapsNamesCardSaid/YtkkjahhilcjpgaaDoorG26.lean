/-
  Stage 20, the landed caps, walked: a pair's figures; strings.Cut at an equals sign; pairOf.
-/
import Derived.Test.YtkkjahhilcjpgaaDoorG17
import Derived.Test.YtkkjahhilcjpgaaDoorG23
import Derived.Test.YtkkjahhilcjpgaaDoorG25
import Derived.BigQuiet
namespace Go.Proofs.YtkkjahhilcjpgaaDoor
open Go.RowKit
theorem cat20 {L M : List UInt8} (h : L.length + M.length ≤ 9223372036854775807) (W : World) : (Op.stringOp .add ⟨L.toArray⟩ ⟨M.toArray⟩).run Tryd.prog W = .ok (.string ⟨(L ++ M).toArray⟩) W := by
 have hsum : (⟨L.toArray⟩ : ByteArray).size + (⟨M.toArray⟩ : ByteArray).size ≤ 9223372036854775807 := h
 have := run_string_add_sum (P := Tryd.prog) W _ _ hsum
 simpa [ByteArray.mk_append_mk] using this
theorem add20 {L M : List UInt8} (h : L.length + M.length ≤ 9223372036854775807) (x y : Operand) (W : World) : (do eqGuard .add 9 x y (.string ⟨L.toArray⟩) (.string ⟨M.toArray⟩); binOp .add 9 (.string ⟨L.toArray⟩) (.string ⟨M.toArray⟩) : Sem Value).run Tryd.prog W = .ok (.string ⟨(L ++ M).toArray⟩) W := by
 have hsum : (⟨L.toArray⟩ : ByteArray).size + (⟨M.toArray⟩ : ByteArray).size ≤ 9223372036854775807 := h
 have e : (eqGuard .add 9 x y (.string ⟨L.toArray⟩) (.string ⟨M.toArray⟩) : Sem Unit) = pure () := rfl
 rw [e, Sem.run_bind, Sem.run_pure, Result.andThen_ok]
 simp only [binOp, run_string_add_sum (P := Tryd.prog) W _ _ hsum, ByteArray.mk_append_mk]
def FBy (L : List UInt8) (v : Value) (w : World) : Prop := ∃ A c, v = .slice A L.length c ∧ Rd w A (bs L)
theorem fby_ok (i : Nat) (d : Tmp) (L : List UInt8) : (⟨i, d, FBy L⟩ : Fact).ok := fun _ _ _ ⟨A, c, e, h⟩ hb => ⟨A, c, e, h.below hb⟩
theorem fby_made {ev : Operand → Value} {o : Oper} {x : Operand} {L : List UInt8} {w : World} (ho : o.op = .convert 9 33 x) (hx : ev x = .string ⟨L.toArray⟩) (hl : L.length ≤ maxLen) :
 ∃ v w', (execOp ev o).run Tryd.prog w = .ok (.value v) w' ∧ FBy L v w' ∧ Below w.heap.size w w' := by
 obtain ⟨v', w', hrun, h2, h3⟩ := run_conv (P := Tryd.prog) w w.heap.size 9 33 5 ⟨L.toArray⟩ Tryd.underlying9 Tryd.underlying33 Tryd.underlying5 hl (Nat.le_refl _)
 obtain ⟨A, c, hv, hr⟩ := h2.form
 refine ⟨v', w', ?_, ⟨A, c, hv, hr⟩, (Below.refl _ _).grown h3 (Nat.le_refl _) (fun g hg => by cases hg)⟩
 unfold execOp
 simp only [ho, hx, Sem.run_bind, hrun, Result.andThen_ok, Sem.run_pure]
set_option maxRecDepth 100000 in
set_option maxHeartbeats 16000000 in
theorem pfig20_any (n v T : List UInt8) (hn : n.length ≤ 4294967296) (hv : v.length ≤ 4294967296) (hT : pairC n v = T) (w : World) : Calls Tryd.prog 23 #[.agg #[.string ⟨n.toArray⟩, .string ⟨v.toArray⟩]] w fun e w' => e = .returned (.string ⟨T.toArray⟩) ∧ Below w.heap.size w w' := by
 obtain ⟨N, hN⟩ : ∃ N, hexL n = N := ⟨_, rfl⟩
 obtain ⟨V, hV⟩ : ∃ V, hexL v = V := ⟨_, rfl⟩
 have hl1 : N.length = 2 * n.length := by rw [← hN]; exact hexL_length n
 have hl2 : V.length = 2 * v.length := by rw [← hV]; exact hexL_length v
 have HXn : Hid (∀ (A : Option Addr) (c : Nat) (W : World), Rd W A (bs n) → Calls Tryd.prog 40 #[.slice A n.length c] W fun e w' => e = .returned (.string ⟨N.toArray⟩) ∧ Below W.heap.size W w') := Lib.hid fun A c W hr => hN ▸ hex_any A c n W hn hr
 have HXv : Hid (∀ (A : Option Addr) (c : Nat) (W : World), Rd W A (bs v) → Calls Tryd.prog 40 #[.slice A v.length c] W fun e w' => e = .returned (.string ⟨V.toArray⟩) ∧ Below W.heap.size W w') := Lib.hid fun A c W hr => hV ▸ hex_any A c v W hv hr
 have HE := Lib.hid (show T = N ++ [61] ++ V by rw [← hT, ← hN, ← hV]; unfold pairC; simp)
 have HN := Lib.hid (show n.length ≤ maxLen by simp only [maxLen]; omega)
 have HV := Lib.hid (show v.length ≤ maxLen by simp only [maxLen]; omega)
 have hsimp1 := add20 (L := N) (M := [61]) (by simp; omega)
 have hsimp2 := add20 (L := N ++ [61]) (M := V) (by simp; omega)
 clear hT hN hV hl1 hl2 hn hv
 have kb := Blk.new w 41 #[.string ⟨n.toArray⟩, .string ⟨v.toArray⟩]
 have hB := (Below.refl w.heap.size w).alloc (Nat.le_refl _) (.cells #[.string ⟨n.toArray⟩, .string ⟨v.toArray⟩] 41)
 go_enter Tryd.func23, Tryd.ntmps23
 go_wp2_with fail
 obtain ⟨w1, hw1⟩ : ∃ x, w.alloc (.cells #[.string ⟨n.toArray⟩, .string ⟨v.toArray⟩] 41) = x := ⟨_, rfl⟩
 rw [hw1] at kb hB ⊢
 clear hw1
 have hst : ∀ f ∈ ([⟨2, 5, FBy n⟩, ⟨7, 10, FBy v⟩] : List Fact), f.ok := List.forall_mem_cons.2 ⟨fby_ok _ _ _, List.forall_mem_cons.2 ⟨fby_ok _ _ _, fun _ h => by cases h⟩⟩
 refine wp_region_told (w1 := w1) (K := [⟨2, 5, FBy n⟩, ⟨7, 10, FBy v⟩]) (ix := 1000) (R0 := fun _ _ _ => True) (R1 := fun _ _ _ => True) [5, 10] (⟨#[.agg #[.string ⟨n.toArray⟩, .string ⟨v.toArray⟩], .pointer (some ⟨w.heap.size, 0, none⟩), .string ⟨(N ++ [61] ++ V).toArray⟩, .pointer (some ⟨w.heap.size, 0, none⟩), .string ⟨n.toArray⟩, undef, .string ⟨N.toArray⟩, .string ⟨(N ++ [61]).toArray⟩, .pointer (some ⟨w.heap.size, 1, none⟩), .string ⟨v.toArray⟩, undef, .string ⟨V.toArray⟩, .string ⟨(N ++ [61] ++ V).toArray⟩], []⟩) (fun g => ⟨#[.agg #[.string ⟨n.toArray⟩, .string ⟨v.toArray⟩], .pointer (some ⟨w.heap.size, 0, none⟩), .string ⟨(N ++ [61] ++ V).toArray⟩, .pointer (some ⟨w.heap.size, 0, none⟩), .string ⟨n.toArray⟩, (g 5), .string ⟨N.toArray⟩, .string ⟨(N ++ [61]).toArray⟩, .pointer (some ⟨w.heap.size, 1, none⟩), .string ⟨v.toArray⟩, (g 10), .string ⟨V.toArray⟩, .string ⟨(N ++ [61] ++ V).toArray⟩], []⟩) [.pointer (some ⟨w.heap.size, 0, none⟩), .string ⟨n.toArray⟩, undef, .string ⟨N.toArray⟩, .string ⟨(N ++ [61]).toArray⟩, .pointer (some ⟨w.heap.size, 1, none⟩), .string ⟨v.toArray⟩, undef, .string ⟨V.toArray⟩, .string ⟨(N ++ [61] ++ V).toArray⟩, .string ⟨(N ++ [61] ++ V).toArray⟩] (by kernel_rfl) (by kernel_rfl) (by kernel_rfl) (fun g => by kernel_rfl) (by kernel_rfl) (Below.refl _ _).drew (by decide) (by kernel_rfl)
  (goes_cons (gkP (fun _ => .pointer (some ⟨w.heap.size, 0, none⟩)))
  (goes_cons (gkC hst (fun W hW => (kb.below hW kb.lt).cell 0))
  (goes_cons (goesK_any hst (ahead_none (by decide)) rfl (by decide) (by decide) 0 rfl (by kernel_rfl) (fun g => by kernel_rfl) rfl (fun g => by kernel_rfl) (fun g W hW hin => fby_made rfl rfl HN.out))
  (goes_cons (gkK (fun g => #[(g 5)]) hst (fun g W hW hin => (by obtain ⟨Ar, cr, er, hr⟩ := hin 0 _ rfl (by kernel_rfl); simp only [er]; exact HXn.out Ar cr W hr)))
  (goes_cons (goesK_bin (v := .string ⟨(N ++ [61]).toArray⟩) (xv := .string ⟨N.toArray⟩) (yv := .string ⟨#[61]⟩) rfl (by decide) (by decide) (by kernel_rfl) (fun g => by kernel_rfl) rfl (fun g => by kernel_rfl) rfl (fun g => by kernel_rfl) (fun g => by kernel_rfl) (hsimp1 _ _))
  (goes_cons (gkP (fun _ => .pointer (some ⟨w.heap.size, 1, none⟩)))
  (goes_cons (gkC hst (fun W hW => (kb.below hW kb.lt).cell 1))
  (goes_cons (goesK_any hst (ahead_none (by decide)) rfl (by decide) (by decide) 1 rfl (by kernel_rfl) (fun g => by kernel_rfl) rfl (fun g => by kernel_rfl) (fun g W hW hin => fby_made rfl rfl HV.out))
  (goes_cons (gkK (fun g => #[(g 10)]) hst (fun g W hW hin => (by obtain ⟨Ar, cr, er, hr⟩ := hin 1 _ rfl (by kernel_rfl); simp only [er]; exact HXv.out Ar cr W hr)))
  (goes_cons (goesK_bin (v := .string ⟨(N ++ [61] ++ V).toArray⟩) (xv := .string ⟨(N ++ [61]).toArray⟩) (yv := .string ⟨V.toArray⟩) rfl (by decide) (by decide) (by kernel_rfl) (fun g => by kernel_rfl) rfl (fun g => by kernel_rfl) rfl (fun g => by kernel_rfl) (fun g => by kernel_rfl) (hsimp2 _ _))
  (goes_cons (gkP (fun _ => .string ⟨(N ++ [61] ++ V).toArray⟩)) goes_nil))))))))))) ?_
 intro g w3 hW _
 have hB3 := hB.trans (hW.mono hB.size)
 clear hW hB hst HXn HXv hsimp1 hsimp2
 go_wp2_with fail
 go_ret
 exact ⟨by rw [HE.out]; rfl, hB3⟩
def cutE (s : List UInt8) : List UInt8 × List UInt8 × Bool := match eqC s with
 | some (a, b) => (a, b, true)
 | none => (s, [], false)
theorem idx_eq : ∀ t : List UInt8, (Lib.indexByte t 61 = -1 ∧ eqC t = none) ∨ ∃ k : Nat, Lib.indexByte t 61 = (k : Int) ∧ k < t.length ∧ eqC t = some (t.take k, t.drop (k + 1))
 | [] => .inl ⟨rfl, rfl⟩
 | c :: l => by
   by_cases hc : c = 61
   ·subst hc
    exact .inr ⟨0, by simp [Lib.indexByte], by simp, by simp [eqC]⟩
   ·rcases idx_eq l with ⟨h1, h2⟩ | ⟨k, h1, h2, h3⟩
    ·exact .inl ⟨by simp [Lib.indexByte, hc, h1], by simp [eqC, hc, h2]⟩
    ·refine .inr ⟨k + 1, ?_, by simp; omega, by simp [eqC, hc, h3]⟩
     have hne : ¬ ((k : Int) = -1) := by omega
     simp [Lib.indexByte, hc, h1, hne]
set_option maxRecDepth 100000 in
set_option maxHeartbeats 16000000 in
theorem cut20_any (s : List UInt8) (hs : s.length ≤ 4294967296) (w : World) : Calls Tryd.prog 56 #[.string ⟨s.toArray⟩, .string ⟨#[61]⟩] w fun e w' => e = .returned (.tuple #[.string ⟨(cutE s).1.toArray⟩, .string ⟨(cutE s).2.1.toArray⟩, .bool (cutE s).2.2]) ∧ Below w.heap.size w w' := by
 rcases idx_eq s with ⟨h1, h2⟩ | ⟨k, h1, h2, h3⟩
 ·have hc : cutE s = (s, [], false) := by unfold cutE; rw [h2]
  rw [hc]
  go_enter Tryd.func56, Tryd.ntmps56
  go_wp2_with fail
  refine (Tryd.stringslite_Index_one ⟨s.toArray⟩ 61 _).mono ?_
  rintro e w2 ⟨rfl, rfl⟩
  simp only [show Lib.indexByte (⟨s.toArray⟩ : ByteArray).data.toList 61 = -1 from h1]
  clear h1 h2 hc
  go_wp2_with fail
  refine bodyPost_ret (v := .tuple #[.string ⟨s.toArray⟩, .string ⟨#[]⟩, .bool false]) (by simp [results, Tryd.results56, go_sem]) rfl ⟨rfl, Below.refl _ _⟩
 ·have hc : cutE s = (s.take k, s.drop (k + 1), true) := by unfold cutE; rw [h3]
  rw [hc]
  have t0 : ((k : Int) < 0) = False := by simp
  have t1 : (0 : Int) ≤ (k : Int) := by omega
  have t2 : (k : Int) ≤ (s.length : Int) := by omega
  have t4 : IntKind.i64.wrap ((k : Int) + 1) = ((k + 1 : Nat) : Int) := by rw [IntKind.wrap_i64]; omega
  have t5 : (0 : Int) ≤ ((k + 1 : Nat) : Int) := by omega
  have t6 : ((k + 1 : Nat) : Int) ≤ (s.length : Int) := by omega
  have e1 := str_take s k
  have e2 := str_drop s (k + 1) (by omega)
  go_enter Tryd.func56, Tryd.ntmps56
  go_wp2_with fail
  refine (Tryd.stringslite_Index_one ⟨s.toArray⟩ 61 _).mono ?_
  rintro e w2 ⟨rfl, rfl⟩
  simp only [show Lib.indexByte (⟨s.toArray⟩ : ByteArray).data.toList 61 = (k : Int) from h1]
  clear h1 h2 h3 hc
  go_wp2_with fail
  go_quiet (fail)
  go_wp2_with fail
  refine bodyPost_ret (v := .tuple #[.string ⟨(s.take k).toArray⟩, .string ⟨(s.drop (k + 1)).toArray⟩, .bool true]) (by simp [results, Tryd.results56, go_sem]) rfl ⟨rfl, below_drewN (Below.refl _ _) _⟩
end Go.Proofs.YtkkjahhilcjpgaaDoor
