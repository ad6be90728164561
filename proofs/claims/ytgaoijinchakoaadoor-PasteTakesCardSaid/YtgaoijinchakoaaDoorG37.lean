/-
  Stage 17, the landed paste, walked: Send, Focus.
-/
import Derived.Test.YtgaoijinchakoaaDoorG11
import Derived.Test.YtgaoijinchakoaaDoorG25
import Derived.Test.YtgaoijinchakoaaDoorG36
namespace Go.Proofs.YtgaoijinchakoaaDoor
open Go.RowKit Go.Maps
theorem clnL_le (l : List UInt8) : (clnL l).length ≤ l.length := cln_le _ _
set_option maxRecDepth 100000 in
set_option maxHeartbeats 8000000 in
theorem passend_any (m : Mo) (A : Option Addr) (n c : Nat) (l : List UInt8) (hn : l.length = n) (w : World) (hs : Siz w) (ht : Tab w) (hl : n ≤ 4000000) (hc : n ≤ c) (hr : Rd w A (bs l)) (T : List UInt8) (k : Nat) (hT : sendP m.paste l = T) (hk : T.length = k) :
 Calls Tryd.prog 12 #[moV m, .slice A n c] w (OutP T k w) := by
 subst hk
 obtain ⟨b0, b1, b2, b3, b4, b5, b6, i7, i8, i9⟩ := m
 simp only [moV]
 simp only at hT
 have hB : Below w.heap.size w (w.alloc (.cells #[.bool b0, .bool b1, .bool b2, .bool b3, .bool b4, .bool b5, .bool b6, .int .i64 i7, .int .i64 i8, .int .i64 i9] 23)) := (Below.refl _ _).alloc (Nat.le_refl _) _
 have k0 := Blk.new w 23 #[.bool b0, .bool b1, .bool b2, .bool b3, .bool b4, .bool b5, .bool b6, .int .i64 i7, .int .i64 i8, .int .i64 i9]
 obtain ⟨a0, a1, a2, a3, a4, a5, a6, a7, a8, a9⟩ := Blk.cells10 k0
 have hle := clnL_le l
 obtain ⟨C, hC⟩ : ∃ C, clnL l = C := ⟨_, rfl⟩
 obtain ⟨cn, hcn⟩ : ∃ cn, C.length = cn := ⟨_, rfl⟩
 have HC : Hid (∀ W, Below w.heap.size w W → Calls Tryd.prog 10 #[.slice A n c] W (OutP C cn W)) := Lib.hid fun W hW => by
  have := pclean_any A n c l hn W (hs.below' hW) hl hc (hr.below hW)
  rw [hC, hcn] at this
  exact this
 unfold sendP at hT
 rw [hC] at hT hle
 rw [hcn, hn] at hle
 cases b4 with
 | false =>
   rw [if_neg (by decide)] at hT
   subst hT
   rw [hcn]
   clear hC hcn hr hs ht
   go_enter Tryd.func12, Tryd.ntmps12
   go_wp2_with fail
   refine (HC.out _ hB).mono ?_
   rintro e w1 ⟨B, d, rfl, ho, hb⟩
   go_wp2_with fail
   go_ret
   exact ⟨B, d, rfl, ho.mono hB.size, hB.trans (hb.mono hB.size)⟩
 | true =>
   rw [if_pos rfl] at hT
   have HM : Hid (∀ W, Below w.heap.size w W → Calls Tryd.prog 26 #[.int .i64 200] W (OutP openB 6 W)) := Lib.hid fun W hW => pasmark_any 200 openB 6 (by decide) (by decide) mark_open rfl W (ht.below hW)
   have HM2 : Hid (∀ W, Below w.heap.size w W → Calls Tryd.prog 26 #[.int .i64 201] W (OutP closeB 6 W)) := Lib.hid fun W hW => pasmark_any 201 closeB 6 (by decide) (by decide) mark_close rfl W (ht.below hW)
   have HCC : Hid (∀ A c W, RdBs W A [openB, C, closeB] → Calls Tryd.prog 25 #[.slice A 3 c] W fun e w' => ∃ B d, e = .returned (.slice B T.length d) ∧ Own w' W.heap.size 5 1 (.slice B T.length d) T.length (bs T) ∧ Below W.heap.size W w') := Lib.hid fun A c W hr => concat_any A c [openB, C, closeB] T 3 T.length rfl (by decide) (by rw [← hT]; simp) rfl (by rw [← hT]; simp only [List.length_append, hcn, openB, closeB, List.length_cons, List.length_nil]; omega) W hr
   clear hC hr hs ht hT
   go_enter Tryd.func12, Tryd.ntmps12
   go_wp2_with fail
   refine (HM.out _ hB).mono ?_
   rintro e w1 ⟨A1, c1, rfl, ho1, hb1⟩
   have hB1 := hB.trans (hb1.mono hB.size)
   go_wp2_with fail
   refine (HC.out _ hB1).mono ?_
   rintro e w2 ⟨A2, c2, rfl, ho2, hb2⟩
   have hB2 := hB1.trans (hb2.mono hB1.size)
   have hr1 := ho1.rd.below hb2
   go_wp2_with fail
   refine (HM2.out _ hB2).mono ?_
   rintro e w3 ⟨A3, c3, rfl, ho3, hb3⟩
   have hB3 := hB2.trans (hb3.mono hB2.size)
   have hr1 := hr1.below hb3
   have hr2 := ho2.rd.below hb3
   have hr3 := ho3.rd
   have hrows : RdBs (w3.alloc (.cells #[.slice A1 6 c1, .slice A2 cn c2, .slice A3 6 c3] 24)) (some ⟨w3.heap.size, 0, none⟩) [openB, C, closeB] := rdbs_new w3 _ _ _ fun k hk => by
    match k, hk with
    | 0, _ => exact ⟨_, _, rfl, hr1⟩
    | 1, _ => exact ⟨A2, c2, by show _ = some (Value.slice A2 C.length c2); rw [hcn]; rfl, hr2⟩
    | 2, _ => exact ⟨_, _, rfl, hr3⟩
   have hB4 := hB3.alloc hB3.size (.cells #[.slice A1 6 c1, .slice A2 cn c2, .slice A3 6 c3] 24)
   go_wp2_with fail
   refine (HCC.out _ _ _ hrows).mono ?_
   rintro e w4 ⟨A4, c4, rfl, ho4, hb4⟩
   go_wp2_with fail
   go_ret
   exact ⟨A4, c4, rfl, ho4.mono hB4.size, hB4.trans (hb4.mono hB4.size)⟩
def focB (foc q : Bool) : List UInt8 := if foc = true then (if q = true then inB else outB) else []
theorem lk_put (A : Option Addr) (c : Nat) (W : World) (ht : Tab W) : Calls Tryd.prog 27 #[lkV A c 73] W (OutP inB 3 W) := pasput_any (f := 73) (l := []) inB 3 rfl (by decide) (by decide) (may_csi (by decide) (by decide) (by simp) (by simp)) paslook_in rfl A c W ht (fun h => absurd h (by simp))
theorem lk_put2 (A : Option Addr) (c : Nat) (W : World) (ht : Tab W) : Calls Tryd.prog 27 #[lkV A c 79] W (OutP outB 3 W) := pasput_any (f := 79) (l := []) outB 3 rfl (by decide) (by decide) (may_csi (by decide) (by decide) (by simp) (by simp)) paslook_out rfl A c W ht (fun h => absurd h (by simp))
set_option maxRecDepth 100000 in
set_option maxHeartbeats 8000000 in
theorem pasfocus_any (m : Mo) (q : Bool) (w : World) (ht : Tab w) (T : List UInt8) (k : Nat) (hT : focB m.focus q = T) (hk : T.length = k) :
 Calls Tryd.prog 14 #[moV m, .bool q] w (OutP T k w) := by
 subst hk
 obtain ⟨b0, b1, b2, b3, b4, b5, b6, i7, i8, i9⟩ := m
 simp only [moV]
 simp only at hT
 have hB : Below w.heap.size w (w.alloc (.cells #[.bool b0, .bool b1, .bool b2, .bool b3, .bool b4, .bool b5, .bool b6, .int .i64 i7, .int .i64 i8, .int .i64 i9] 23)) := (Below.refl _ _).alloc (Nat.le_refl _) _
 have k0 := Blk.new w 23 #[.bool b0, .bool b1, .bool b2, .bool b3, .bool b4, .bool b5, .bool b6, .int .i64 i7, .int .i64 i8, .int .i64 i9]
 obtain ⟨a0, a1, a2, a3, a4, a5, a6, a7, a8, a9⟩ := Blk.cells10 k0
 cases b3 with
 | false =>
   subst hT
   go_enter Tryd.func14, Tryd.ntmps14
   go_wp2_with fail
   go_ret
   exact ⟨none, 0, rfl, Own.nil_ _ _ _ _, hB⟩
 | true =>
   cases q with
   | true =>
     subst hT
     go_enter Tryd.func14, Tryd.ntmps14
     go_wp2_with fail
     refine (paslooks_any _).mono ?_
     rintro e w1 ⟨b, n, A, B, c, d, rfl, ho, hb⟩
     have hB1 := hB.trans (hb.mono hB.size)
     have hlk : (Instr.lookup 54 (.map (some b)) (.bool true) false).run Tryd.prog w1 = .ok (lkV A c 73) w1 := paslooks_at true ho
     go_wp2_with fail
     refine (lk_put A c _ (ht.below hB1)).mono ?_
     rintro e w2 ⟨A2, c2, rfl, ho2, hb2⟩
     go_wp2_with fail
     go_ret
     exact ⟨A2, c2, rfl, ho2.mono hB1.size, hB1.trans (hb2.mono hB1.size)⟩
   | false =>
     subst hT
     go_enter Tryd.func14, Tryd.ntmps14
     go_wp2_with fail
     refine (paslooks_any _).mono ?_
     rintro e w1 ⟨b, n, A, B, c, d, rfl, ho, hb⟩
     have hB1 := hB.trans (hb.mono hB.size)
     have hlk : (Instr.lookup 54 (.map (some b)) (.bool false) false).run Tryd.prog w1 = .ok (lkV B d 79) w1 := paslooks_at false ho
     go_wp2_with fail
     refine (lk_put2 B d _ (ht.below hB1)).mono ?_
     rintro e w2 ⟨A2, c2, rfl, ho2, hb2⟩
     go_wp2_with fail
     go_ret
     exact ⟨A2, c2, rfl, ho2.mono hB1.size, hB1.trans (hb2.mono hB1.size)⟩
end Go.Proofs.YtgaoijinchakoaaDoor
