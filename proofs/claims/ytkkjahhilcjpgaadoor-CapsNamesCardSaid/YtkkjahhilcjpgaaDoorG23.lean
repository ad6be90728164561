/-
  Stage 20, walked: the document's all, Look, refused; the landed reply.
-/
import Derived.Test.YtkkjahhilcjpgaaDoorG07
import Derived.Test.YtkkjahhilcjpgaaDoorG15
import Derived.Test.YtkkjahhilcjpgaaDoorG19
import Derived.Test.YtkkjahhilcjpgaaDoorG22
namespace Go.Proofs.YtkkjahhilcjpgaaDoor
open Go.RowKit
set_option maxRecDepth 100000 in
set_option maxHeartbeats 16000000 in
theorem preply20_any (h : Int) (d : List UInt8) (w : World) : Calls Tryd.prog 24 #[.int .i64 h, .string ⟨d.toArray⟩] w (RepE (⟨3, 0, [[h]], [43], 114, d⟩ : Sq) w) := by
 have hB := (((Below.refl w.heap.size w).alloc (Nat.le_refl _) (.cells #[.int .i64 3, .int .u8 0, .slice (some ⟨w.heap.size + 1 + 1, 0, none⟩) 1 1, .string ⟨#[43]⟩, .int .u8 114, .string ⟨d.toArray⟩] 28)).alloc (by simp) (.cells #[.int .i64 h] 3)).alloc (by simp; omega) (.cells #[.slice (some ⟨w.heap.size + 1, 0, none⟩) 1 1] 45)
 have hr := rdpn_lit (w.alloc (.cells #[.int .i64 3, .int .u8 0, .slice (some ⟨w.heap.size + 1 + 1, 0, none⟩) 1 1, .string ⟨#[43]⟩, .int .u8 114, .string ⟨d.toArray⟩] 28)) h
 simp only [World.size_alloc] at hr
 go_enter Tryd.func24, Tryd.ntmps24
 go_wp2_with fail
 refine bodyPost_ret (v := .agg #[.int .i64 3, .int .u8 0, .slice (some ⟨w.heap.size + 1 + 1, 0, none⟩) 1 1, .string ⟨#[43]⟩, .int .u8 114, .string ⟨d.toArray⟩]) (by simp [results, Tryd.results24, go_sem]) rfl ⟨_, _, rfl, hr.rdp, hB⟩
def allC20 : Array Value := #[.string ⟨#[67, 111]⟩, .string ⟨#[50, 53, 54]⟩, .string ⟨#[82, 71, 66]⟩, .string ⟨#[56]⟩, .string ⟨#[84, 78]⟩, .string ⟨#[99, 108, 97, 118, 105, 101, 114]⟩, .string ⟨#[99, 111, 108, 111, 114, 115]⟩, .string ⟨#[50, 53, 54]⟩, .string ⟨#[107, 98, 115]⟩, .string ⟨#[127]⟩, .string ⟨#[107, 99, 117, 98, 49]⟩, .string ⟨#[27, 79, 68]⟩, .string ⟨#[107, 99, 117, 100, 49]⟩, .string ⟨#[27, 79, 66]⟩, .string ⟨#[107, 99, 117, 102, 49]⟩, .string ⟨#[27, 79, 67]⟩, .string ⟨#[107, 99, 117, 117, 49]⟩, .string ⟨#[27, 79, 65]⟩, .string ⟨#[107, 100, 99, 104, 49]⟩, .string ⟨#[27, 91, 51, 126]⟩, .string ⟨#[107, 102, 49]⟩, .string ⟨#[27, 79, 80]⟩, .string ⟨#[110, 97, 109, 101]⟩, .string ⟨#[99, 108, 97, 118, 105, 101, 114]⟩]
def RdPr (w : World) (A : Option Addr) : Prop := ∃ b o, A = some ⟨b, o, none⟩ ∧ b < w.heap.size ∧ ∀ k (hk : k < namesC.length), w.cell? ⟨b, o + k * 2, none⟩ = some (.string ⟨(namesC[k]).1.toArray⟩) ∧ w.cell? ⟨b, o + k * 2 + 1, none⟩ = some (.string ⟨(namesC[k]).2.toArray⟩)
theorem RdPr.below {w w' : World} {A : Option Addr} (h : RdPr w A) (hb : Below w.heap.size w w') : RdPr w' A := by
 obtain ⟨b, o, rfl, hlt, hc⟩ := h
 have e : ∀ i, w'.cell? ⟨b, i, none⟩ = w.cell? ⟨b, i, none⟩ := fun i => by simp only [World.cell?, hb.block b hlt]
 exact ⟨b, o, rfl, Nat.lt_of_lt_of_le hlt hb.size, fun k hk => by rw [e, e]; exact hc k hk⟩
theorem rdpr_of {w : World} {b : Nat} {t : TypeId} (h : Blk w b t allC20) : RdPr w (some ⟨b, 0, none⟩) := by
 refine ⟨b, 0, rfl, h.lt, fun k hk => ?_⟩
 rw [h.cell, h.cell]
 match k, hk with
 | 0, _ | 1, _ | 2, _ | 3, _ | 4, _ | 5, _ | 6, _ | 7, _ | 8, _ | 9, _ | 10, _ | 11, _ => exact ⟨rfl, rfl⟩
set_option maxRecDepth 100000 in
set_option maxHeartbeats 16000000 in
theorem rall20_any (w : World) : Calls Tryd.prog 20 #[] w fun e w' => ∃ A, e = .returned (.slice A 12 12) ∧ RdPr w' A ∧ Below w.heap.size w w' := by
 have hk : Blk (w.alloc (.cells #[.string ⟨#[67, 111]⟩, .string ⟨#[50, 53, 54]⟩, .string ⟨#[82, 71, 66]⟩, .string ⟨#[56]⟩, .string ⟨#[84, 78]⟩, .string ⟨#[99, 108, 97, 118, 105, 101, 114]⟩, .string ⟨#[99, 111, 108, 111, 114, 115]⟩, .string ⟨#[50, 53, 54]⟩, .string ⟨#[107, 98, 115]⟩, .string ⟨#[127]⟩, .string ⟨#[107, 99, 117, 98, 49]⟩, .string ⟨#[27, 79, 68]⟩, .string ⟨#[107, 99, 117, 100, 49]⟩, .string ⟨#[27, 79, 66]⟩, .string ⟨#[107, 99, 117, 102, 49]⟩, .string ⟨#[27, 79, 67]⟩, .string ⟨#[107, 99, 117, 117, 49]⟩, .string ⟨#[27, 79, 65]⟩, .string ⟨#[107, 100, 99, 104, 49]⟩, .string ⟨#[27, 91, 51, 126]⟩, .string ⟨#[107, 102, 49]⟩, .string ⟨#[27, 79, 80]⟩, .string ⟨#[110, 97, 109, 101]⟩, .string ⟨#[99, 108, 97, 118, 105, 101, 114]⟩] 53)) w.heap.size 53 allC20 := Blk.new w _ _
 have hB := (Below.refl w.heap.size w).alloc (Nat.le_refl _) (.cells #[.string ⟨#[67, 111]⟩, .string ⟨#[50, 53, 54]⟩, .string ⟨#[82, 71, 66]⟩, .string ⟨#[56]⟩, .string ⟨#[84, 78]⟩, .string ⟨#[99, 108, 97, 118, 105, 101, 114]⟩, .string ⟨#[99, 111, 108, 111, 114, 115]⟩, .string ⟨#[50, 53, 54]⟩, .string ⟨#[107, 98, 115]⟩, .string ⟨#[127]⟩, .string ⟨#[107, 99, 117, 98, 49]⟩, .string ⟨#[27, 79, 68]⟩, .string ⟨#[107, 99, 117, 100, 49]⟩, .string ⟨#[27, 79, 66]⟩, .string ⟨#[107, 99, 117, 102, 49]⟩, .string ⟨#[27, 79, 67]⟩, .string ⟨#[107, 99, 117, 117, 49]⟩, .string ⟨#[27, 79, 65]⟩, .string ⟨#[107, 100, 99, 104, 49]⟩, .string ⟨#[27, 91, 51, 126]⟩, .string ⟨#[107, 102, 49]⟩, .string ⟨#[27, 79, 80]⟩, .string ⟨#[110, 97, 109, 101]⟩, .string ⟨#[99, 108, 97, 118, 105, 101, 114]⟩] 53)
 go_enter Tryd.func20, Tryd.ntmps20
 go_wp2_with fail
 go_ret
 exact ⟨_, rfl, rdpr_of hk, hB⟩
theorem look_hit20 {k : Nat} (hk : k < namesC.length) : lookC (namesC[k]).1 = some (namesC[k]).2 := (names_know _ (List.getElem_mem hk)).1
theorem look_miss20 {n : List UInt8} (h : ∀ k (hk : k < namesC.length), (namesC[k]).1 ≠ n) : lookC n = none := by
 have h2 : (namesC.any fun q => q.1 == n) = false := List.any_eq_false.2 fun q hq => by
  obtain ⟨k, hk, rfl⟩ := List.getElem_of_mem hq
  simpa using h k hk
 have := look_in n
 rw [h2] at this
 simpa using this
set_option maxRecDepth 100000 in
set_option maxHeartbeats 16000000 in
theorem rLook20_any (n : List UInt8) (w : World) : Calls Tryd.prog 10 #[.string ⟨n.toArray⟩] w fun e w' => e = .returned (.tuple #[.string ⟨(capV n).toArray⟩, .bool (lookC n).isSome]) ∧ Below w.heap.size w w' := by
 obtain ⟨V, hV⟩ : ∃ V, capV n = V := ⟨_, rfl⟩
 obtain ⟨q, hq⟩ : ∃ q, (lookC n).isSome = q := ⟨_, rfl⟩
 have HV := Lib.hid hV
 have HQ := Lib.hid hq
 rw [hV, hq]
 clear hV hq
 go_enter Tryd.func10, Tryd.ntmps10
 go_wp2_with fail
 refine (rall20_any _).mono ?_
 rintro e w1 ⟨A, rfl, hpr, hb1⟩
 go_wp2_with fail
 go_loopw [5] (fun z wr => ∃ k : Nat, k ≤ 12 ∧ z = .int .i64 k ∧ Hid (∀ j (hj : j < namesC.length), j < k → (namesC[j]).1 ≠ n) ∧ Below w1.heap.size w1 wr) (fun z _ => 12 - (intOf z).toNat)
 case atStart => exact ⟨0, Nat.zero_le _, rfl, Lib.hid fun j _ h => absurd h (Nat.not_lt_zero j), Below.refl _ _⟩
 case round =>
  obtain ⟨k, hk, rfl, HP, hbw⟩ := hrel
  have hB := hb1.trans (hbw.mono hb1.size)
  by_cases hlt : k < 12
  ·have v1 : (k : Int) < 12 := by omega
   have v0 : (0 : Int) ≤ (k : Int) := by omega
   have v2 : IntKind.i64.wrap ((k : Int) + 1) = (k : Int) + 1 := by rw [IntKind.wrap_i64]; omega
   have hkl : k < namesC.length := hlt
   obtain ⟨b, o, rfl, _, hc⟩ := hpr.below hbw
   obtain ⟨c0, c1⟩ := hc k hkl
   have HH := Lib.hid (look_hit20 hkl)
   obtain ⟨N, hN⟩ : ∃ N, (namesC[k]).1 = N := ⟨_, rfl⟩
   obtain ⟨M, hM⟩ : ∃ M, (namesC[k]).2 = M := ⟨_, rfl⟩
   rw [hN] at c0 HH
   rw [hM] at c1 HH
   have HN := Lib.hid hN
   clear hc hN hM hpr
   by_cases he : N = n
   ·subst he
    have E1 := Lib.hid (show V = M by rw [← HV.out]; unfold capV; rw [HH.out]; rfl)
    have E2 := Lib.hid (show q = true by rw [← HQ.out, HH.out]; rfl)
    clear HV HQ HH HP
    go_wp2_with fail
    refine bodyPost_ret (v := .tuple #[.string ⟨M.toArray⟩, .bool true]) (by simp [results, Tryd.results10, go_sem]) rfl ⟨by rw [E1.out, E2.out], hB⟩
   ·have t0 : (N == n) = false := beq_false_of_ne he
    have HP2 : Hid (∀ j (hj : j < namesC.length), j < k + 1 → (namesC[j]).1 ≠ n) := Lib.hid fun j hj h => by
     by_cases hjk : j < k
     ·exact HP.out j hj hjk
     ·obtain rfl : j = k := by omega
      rw [HN.out]
      exact he
    clear HP HH he
    go_wp2_with fail
    go_roundw
    case rel => exact ⟨k + 1, by omega, by go_num, HP2, hbw⟩
    case measure => simp [intOf]; omega
  ·have v1 : ¬ ((k : Int) < 12) := by omega
   have H0 := look_miss20 (n := n) fun j hj => HP.out j hj (by have : namesC.length = 12 := rfl; omega)
   have E1 := Lib.hid (show V = [] by rw [← HV.out]; unfold capV; rw [H0]; rfl)
   have E2 := Lib.hid (show q = false by rw [← HQ.out, H0]; rfl)
   clear HV HQ HP H0
   go_wp2_with fail
   refine bodyPost_ret (v := .tuple #[.string ⟨#[]⟩, .bool false]) (by simp [results, Tryd.results10, go_sem]) rfl ⟨by rw [E1.out, E2.out], hB⟩
end Go.Proofs.YtkkjahhilcjpgaaDoor
