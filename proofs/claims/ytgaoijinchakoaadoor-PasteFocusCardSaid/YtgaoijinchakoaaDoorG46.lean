/-
  Stage 17's laws, walked: PasteFocus.
-/
import Derived.Test.YtgaoijinchakoaaDoorG41
namespace Go.Proofs.YtgaoijinchakoaaDoor
open Go.RowKit
theorem foc_len (q : Bool) : (focB true q).length = 3 := by cases q <;> rfl
theorem foc_is (q : Bool) (l : List UInt8) : begB (focB true q ++ l) inB = q ∧ (begB (focB true q ++ l) inB || begB (focB true q ++ l) outB) = true := by
 cases q <;> exact ⟨rfl, rfl⟩
set_option maxRecDepth 100000 in
set_option maxHeartbeats 16000000 in
theorem pasteFocus_walk (m : Mo) (_hm : okM m) (q : Bool) (A : Option Addr) (l : List UInt8) (c : Nat) (_hlc : l.length ≤ c) (w : World) (hr : Rd w A (bs l)) (hi : Siz w ∧ Tab w) : Calls Tryd.prog 8 #[moV m, .bool q, .slice A l.length c] w fun e w' => e = .returned (.bool true) ∧ Below w.heap.size w w' := by
 obtain ⟨n, hn⟩ : ∃ n, l.length = n := ⟨_, rfl⟩
 rw [hn]
 obtain ⟨i0, hi0, hz0, hz1, hz2⟩ : ∃ i, Tryd.prog.info? 5 = some i ∧ i.zero = some (.int .u8 0) ∧ i.size = 1 ∧ i.bytes = 1 := ⟨_, rfl, rfl, rfl, rfl⟩
 have HT : Hid (∀ W, Below w.heap.size w W → Tab W) := Lib.hid fun W hW => hi.2.below hW
 have HS : Hid (∀ W, Below w.heap.size w W → Siz W) := Lib.hid fun W hW => hi.1.below' hW
 obtain ⟨b0, b1, b2, b3, b4, b5, b6, i7, i8, i9⟩ := m
 unfold moV
 simp only
 have HF0 : Hid (∀ X, focB b3 q = X → ∀ W, Below w.heap.size w W → Calls Tryd.prog 14 #[.agg #[.bool b0, .bool b1, .bool b2, .bool b3, .bool b4, .bool b5, .bool b6, .int .i64 i7, .int .i64 i8, .int .i64 i9], .bool q] W (OutP X X.length W)) := Lib.hid fun X hX W hW => pasfocus_any ⟨b0, b1, b2, b3, b4, b5, b6, i7, i8, i9⟩ q W (HT.out W hW) X _ hX rfl
 have k0 := Blk.new w 23 #[.bool b0, .bool b1, .bool b2, .bool b3, .bool b4, .bool b5, .bool b6, .int .i64 i7, .int .i64 i8, .int .i64 i9]
 have HB0 : Below w.heap.size w (w.alloc (.cells #[.bool b0, .bool b1, .bool b2, .bool b3, .bool b4, .bool b5, .bool b6, .int .i64 i7, .int .i64 i8, .int .i64 i9] 23)) := (Below.refl _ w).alloc (Nat.le_refl _) _
 by_cases h : 100 < n
 ·have h2 : (100 : Int) < (n : Int) := by omega
  clear HF0
  go_enter Tryd.func8, Tryd.ntmps8
  go_wp2_with fail
  refine (pasAwake _ (HT.out _ HB0) (HS.out _ HB0)).mono ?_
  rintro e w1 ⟨rfl, hb1⟩
  go_wp2_with fail
  go_ret
  exact ⟨rfl, HB0.trans (hb1.mono HB0.size)⟩
 have h2 : ¬ ((100 : Int) < (n : Int)) := by omega
 cases b3 with
 | false =>
   have HF := Lib.hid (HF0.out [] rfl)
   clear HF0
   go_enter Tryd.func8, Tryd.ntmps8
   go_wp2_with fail
   refine (pasAwake _ (HT.out _ HB0) (HS.out _ HB0)).mono ?_
   rintro e w1 ⟨rfl, hb1⟩
   have hB1 := HB0.trans (hb1.mono HB0.size)
   have k1 := k0.below hb1 k0.lt
   clear hb1 HB0 k0
   obtain ⟨a0, a1, a2, a3, a4, a5, a6, a7, a8, a9⟩ := Blk.cells10 k1
   go_wp2_with fail
   refine (HF.out _ hB1).mono ?_
   rintro e w2 ⟨A2, c2, rfl, ho2, hb2⟩
   have hB2 := hB1.trans (hb2.mono hB1.size)
   have k2 := k1.below hb2 k1.lt
   clear a0 a1 a2 a3 a4 a5 a6 a7 a8 a9
   obtain ⟨a0, a1, a2, a3, a4, a5, a6, a7, a8, a9⟩ := Blk.cells10 k2
   simp only [List.length_nil]
   go_wp2_with fail
   go_ret
   exact ⟨rfl, hB2⟩
 | true =>
   obtain ⟨F, hF⟩ : ∃ F, focB true q = F := ⟨_, rfl⟩
   have hF3 : F.length = 3 := by rw [← hF]; exact foc_len q
   have HF := Lib.hid (HF0.out F hF)
   rw [hF3] at HF
   obtain ⟨g1, g2⟩ := foc_is q l
   rw [hF] at g1 g2
   have HL : Hid (∀ (B : Option Addr) (d : Nat) (W : World), Below w.heap.size w W → 3 + n ≤ d → Rd W B (bs (F ++ l)) → Calls Tryd.prog 18 #[.slice B (0 + 3 + n) d] W fun e w' => e = .returned (.tuple #[.bool q, .bool true]) ∧ Below W.heap.size W w') := Lib.hid fun B d W hW hd hr => by
    have := paslooked_any B (0 + 3 + n) d (F ++ l) (by rw [List.length_append]; omega) W (HT.out W hW) (by omega) hr
    rw [g2, g1] at this
    exact this
   have HN := Lib.hid hn
   have HF3 := Lib.hid hF3
   clear HF0 g1 g2 hF hn hF3
   go_enter Tryd.func8, Tryd.ntmps8
   go_wp2_with fail
   refine (pasAwake _ (HT.out _ HB0) (HS.out _ HB0)).mono ?_
   rintro e w1 ⟨rfl, hb1⟩
   have hB1 := HB0.trans (hb1.mono HB0.size)
   have k1 := k0.below hb1 k0.lt
   clear hb1 HB0 k0
   obtain ⟨a0, a1, a2, a3, a4, a5, a6, a7, a8, a9⟩ := Blk.cells10 k1
   go_wp2_with fail
   refine (HF.out _ hB1).mono ?_
   rintro e w2 ⟨A2, c2, rfl, ho2, hb2⟩
   have hB2 := hB1.trans (hb2.mono hB1.size)
   have k2 := k1.below hb2 k1.lt
   clear a0 a1 a2 a3 a4 a5 a6 a7 a8 a9
   obtain ⟨a0, a1, a2, a3, a4, a5, a6, a7, a8, a9⟩ := Blk.cells10 k2
   have rd2 := ho2.rd
   have rl2 := hr.below hB2
   clear ho2 k1 hB1 hb2
   have hmk : Own (w2.alloc (.cells #[] 5)) w2.heap.size 5 1 (.slice (some ⟨w2.heap.size, 0, none⟩) 0 0) 0 [] := Own.of (World.ownsRow_made w2 #[] 0 (Nat.le_refl _) (by decide) rfl)
   have hr1k := Rd.alloc (rd2) (.cells #[] 5)
   have qk : Below w2.heap.size w2 (w2.alloc (.cells #[] 5)) := (Below.refl _ _).alloc (Nat.le_refl _) _
   have szk := qk.size
   go_wp2_with (first
    | (at_builtin; refine list_app _ rfl (.tmp 29) (.tmp 30) 24 rfl w2.heap.size 5 i0 _ 1 1 Tryd.underlying24 hi0 hz0 hz1 hz2 rfl Nat.one_pos (.slice (some ⟨w2.heap.size, 0, none⟩) 0 0) 0 [] rfl hmk A2 3 c2 (bs F) rfl (by simp [bs, HF3.out]) hr1k (bs_one _) (by simp only [maxLen]; omega) (by omega) szk ?_; intro v5 w5 ho5 hg5
       have q5 := qk.grown hg5 szk (fun g hg => (hmk.lt g hg).1)
       have hr2k := Rd.below (rl2) q5
       have sz5 := q5.size)
    | (at_builtin; refine list_app _ rfl (.tmp 31) (.tmp 32) 24 rfl w2.heap.size 5 i0 _ 1 1 Tryd.underlying24 hi0 hz0 hz1 hz2 rfl Nat.one_pos v5 _ _ rfl ho5 A n c (bs l) rfl (by simp [bs, HN.out]) hr2k (bs_one _) (by simp only [maxLen]; omega) (by omega) sz5 ?_; intro v6 w6 ho6 hg6))
   have q6 := q5.grown hg6 sz5 (fun g hg => (ho5.lt g hg).1)
   obtain ⟨A6, c6, rfl, hr6⟩ := ho6.form
   have hc6 := ho6.cap.1
   have hr6 : Rd w6 A6 (bs (F ++ l)) := by rw [bs_append]; simpa using hr6
   have hB6 : Below w.heap.size w w6 := hB2.trans (q6.mono hB2.size)
   clear ho5 ho6 hg5 hg6 hmk hr1k hr2k rd2 rl2 a0 a1 a2 a3 a4 a5 a6 a7 a8 a9 k2
   go_wp2_with fail
   refine (HL.out A6 c6 _ hB6 (by omega) hr6).mono ?_
   rintro e w7 ⟨rfl, hb7⟩
   have hB7 : Below w.heap.size w w7 := hB6.trans (hb7.mono hB6.size)
   clear HL HF HT HS hB6 hb7 q5 q6 qk
   cases q with
   | true =>
     go_wp2_with fail
     go_ret
     exact ⟨rfl, hB7⟩
   | false =>
     go_wp2_with fail
     go_ret
     exact ⟨rfl, hB7⟩
end Go.Proofs.YtgaoijinchakoaaDoor
