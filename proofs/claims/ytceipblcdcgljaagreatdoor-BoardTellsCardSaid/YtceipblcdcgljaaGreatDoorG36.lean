/-
  Layer 12, walked: the document's Key.
-/
import Derived.Test.YtceipblcdcgljaaGreatDoorG32
import Derived.Test.YtceipblcdcgljaaGreatDoorG35
namespace Go.Proofs.YtceipblcdcgljaaGreatDoor
open Go.RowKit
def isG (v : Bool) (typ o K ov : Int) (le : Bool) : Bool := !(!v || typ == 3 || (o != 1 && o != 2) || (K != 1 && K != 2) || ov == 0 || (K == 1 && ov == 1) || (o == 1 && !le))
theorem isO_G (o : Int) (k : Ky) : isO o k = isG (mayK k) k.typ o (lookE k.code).kind (oldN k.mods) (lessK k) := rfl
def OutG (b : Bool) (p c : Int) : World → Ending → World → Prop := OutB (if b = true then othB p c else []) (if b = true then othB p c else []).length b
theorem OutG.no {b : Bool} {p c : Int} (h : b = false) {w w' : World} (hb : Below w.heap.size w w') : OutG b p c w (.returned (.tuple #[.slice none 0 0, .bool false])) w' := by
 subst h
 exact ⟨none, 0, rfl, Rd.nil _ _, hb⟩
theorem OutG.yes {b : Bool} {p c : Int} (h : b = true) {w w' : World} {A : Option Addr} {n d : Nat} (hn : n = (othB p c).length) (hr : Rd w' A (bs (othB p c))) (hb : Below w.heap.size w w') : OutG b p c w (.returned (.tuple #[.slice A n d, .bool true])) w' := by
 subst h hn
 exact ⟨A, d, rfl, hr, hb⟩
theorem rdp_three {w : World} {g g0 g1 g2 : Nat} {t t1 : TypeId} {a b c : Int} (h : Blk w g t #[.slice (some ⟨g0, 0, none⟩) 1 1, .slice (some ⟨g1, 0, none⟩) 1 1, .slice (some ⟨g2, 0, none⟩) 1 1]) (h0 : Blk w g0 t1 #[.int .i64 a]) (h1 : Blk w g1 t1 #[.int .i64 b]) (h2 : Blk w g2 t1 #[.int .i64 c]) :
 RdP w (some ⟨g, 0, none⟩) ([a, b, c].map fun n => [n]) := fun _ => by
 refine ⟨g, 0, rfl, h.lt, fun k hk => ?_⟩
 match k, hk with
 | 0, _ => exact ⟨_, 1, h.cell 0, Rd.block h0 rfl⟩
 | 1, _ => exact ⟨_, 1, h.cell 1, Rd.block h1 rfl⟩
 | 2, _ => exact ⟨_, 1, h.cell 2, Rd.block h2 rfl⟩
set_option maxRecDepth 100000 in
set_option maxHeartbeats 32000000 in
theorem rkey12_any (m : Mo) (k : Ky) (hk : okK k) (hs : k.text.size ≤ 4294967296) (w : World) :
 Calls Tryz.prog 20 #[moV m, kyV k] w (OutB (othL m.other k) (othL m.other k).length (isO m.other k) w) := by
 show Calls Tryz.prog 20 #[moV m, kyV k] w (OutG (isO m.other k) (1 + oldN k.mods) (charK k) w)
 have HM : Hid (∀ W, Calls Tryz.prog 14 #[kyV k] W fun e w' => e = .returned (.bool (mayK k)) ∧ Below W.heap.size W w') := Lib.hid fun W => rmay10_any k hs W
 have HO : Hid (∀ W, Calls Tryz.prog 44 #[.int .i64 k.mods] W fun e w' => e = .returned (.int .i64 (oldN k.mods)) ∧ Below W.heap.size W w') := Lib.hid fun W => rold_any k.mods W
 have HL : Hid (∀ W, Calls Tryz.prog 22 #[.int .i64 k.code] W fun e w' => e = .returned (enV (lookE k.code)) ∧ Below W.heap.size W w') := Lib.hid fun W => rlook_any k.code W
 have HC : Hid (∀ W, Calls Tryz.prog 46 #[kyV k] W fun e w' => e = .returned (.int .i64 (charK k)) ∧ Below W.heap.size W w') := Lib.hid fun W => rchar_any k hk W
 have HS : Hid (∀ W, Calls Tryz.prog 45 #[kyV k] W fun e w' => e = .returned (.bool (lessK k)) ∧ Below W.heap.size W w') := Lib.hid fun W => rless_any k hk W
 obtain ⟨K, hK⟩ : ∃ K, (lookE k.code).kind = K := ⟨_, rfl⟩
 have hf : ∀ W : World, (Instr.field 53 (enV (lookE k.code)) 0).run Tryz.prog W = .ok (.int .i64 K) W := fun W => by
  rw [← hK]
  exact (by kernel_rfl : (Instr.field 53 (enV (lookE k.code)) 0).run Tryz.prog W = .ok (.int .i64 (lookE k.code).kind) W)
 obtain ⟨E, hE⟩ : ∃ E, enV (lookE k.code) = E := ⟨_, rfl⟩
 rw [hE] at HL hf
 have hr := old_rng k.mods
 obtain ⟨ov, hov⟩ : ∃ x, oldN k.mods = x := ⟨_, rfl⟩
 obtain ⟨ch, hch⟩ : ∃ x, charK k = x := ⟨_, rfl⟩
 obtain ⟨v, hv⟩ : ∃ x, mayK k = x := ⟨_, rfl⟩
 obtain ⟨le, hle⟩ : ∃ x, lessK k = x := ⟨_, rfl⟩
 rw [isO_G, hK, hov, hch, hv, hle]
 rw [hov] at HO hr
 rw [hch] at HC
 rw [hv] at HM
 rw [hle] at HS
 have hw : IntKind.i64.wrap (1 + ov) = 1 + ov := by rw [IntKind.wrap_i64]; omega
 clear hE hk hs hK hov hch hv hle
 obtain ⟨code, mods, typ, shift, base, text⟩ := k
 obtain ⟨m0, m1, m2, m3, m4, m5, m6, m7, m8, m9⟩ := m
 simp only [kyV] at HM HO HL HC HS
 simp only
 obtain ⟨b, hb⟩ : ∃ b, isG v typ m9 K ov le = b := ⟨_, rfl⟩
 rw [hb]
 have HB := Lib.hid hb
 clear hb
 rw [kyV, moV]
 have k2 := (Blk.new w 23 #[.bool m0, .bool m1, .bool m2, .bool m3, .bool m4, .bool m5, .bool m6, .int .i64 m7, .int .i64 m8, .int .i64 m9]).alloc (.cells #[.int .i64 code, .int .i64 mods, .int .i64 typ, .int .i64 shift, .int .i64 base, .string text] 25)
 have k3 := Blk.new (w.alloc (.cells #[.bool m0, .bool m1, .bool m2, .bool m3, .bool m4, .bool m5, .bool m6, .int .i64 m7, .int .i64 m8, .int .i64 m9] 23)) 25 #[.int .i64 code, .int .i64 mods, .int .i64 typ, .int .i64 shift, .int .i64 base, .string text]
 rw [World.size_alloc] at k3
 have hB0 : Below w.heap.size w ((w.alloc (.cells #[.bool m0, .bool m1, .bool m2, .bool m3, .bool m4, .bool m5, .bool m6, .int .i64 m7, .int .i64 m8, .int .i64 m9] 23)).alloc (.cells #[.int .i64 code, .int .i64 mods, .int .i64 typ, .int .i64 shift, .int .i64 base, .string text] 25)) := ((Below.refl _ w).alloc (Nat.le_refl _) _).alloc (by simp) _
 have a0 := k3.cell 0
 go_enter Tryz.func20, Tryz.ntmps20
 go_wp2_with fail
 refine (HL.out _).mono ?_
 rintro e w1 ⟨rfl, hb1⟩
 have q2 := k2.below hb1 k2.lt
 have q3 := k3.below hb1 k3.lt
 have hB1 := hB0.trans (hb1.mono hB0.size)
 clear k2 k3 hB0 hb1 a0 HL
 have a1 := q3.cell 1
 go_wp2_with fail
 refine (HO.out _).mono ?_
 rintro e w2 ⟨rfl, hb2⟩
 have k2 := q2.below hb2 q2.lt
 have k3 := q3.below hb2 q3.lt
 have hB2 := hB1.trans (hb2.mono hB1.size)
 clear q2 q3 hB1 hb2 a1 hf HO
 obtain ⟨a0, a1, a2, a3, a4, a5⟩ := Blk.cells6 k3
 go_wp2_with fail
 refine (HM.out _).mono ?_
 rintro e w3 ⟨rfl, hb3⟩
 have q2 := k2.below hb3 k2.lt
 have q3 := k3.below hb3 k3.lt
 have hB3 := hB2.trans (hb3.mono hB2.size)
 clear k2 k3 hB2 hb3 a0 a1 a2 a3 a4 a5 HM
 obtain ⟨a0, a1, a2, a3, a4, a5⟩ := Blk.cells6 q3
 have b9 := q2.cell 9
 cases v with
 | false =>
   have HE := Lib.hid (show b = false by rw [← HB.out]; simp [isG])
   clear HB
   go_wp2_with fail
   refine bodyPost_ret (v := .tuple #[.slice none 0 0, .bool false]) (by simp [results, Tryz.results20, go_sem]) rfl (OutG.no HE.out hB3)
 | true =>
 by_cases h3 : typ = 3
 ·subst h3
  have HE := Lib.hid (show b = false by rw [← HB.out]; simp [isG])
  clear HB
  go_wp2_with fail
  refine bodyPost_ret (v := .tuple #[.slice none 0 0, .bool false]) (by simp [results, Tryz.results20, go_sem]) rfl (OutG.no HE.out hB3)
 have t3 : (typ == 3) = false := beq_false_of_ne h3
 clear h3
 by_cases h9 : m9 = 1
 ·subst h9
  by_cases hk1 : K = 1
  ·subst hk1
   by_cases z0 : ov = 0
   ·subst z0
    have HE := Lib.hid (show b = false by rw [← HB.out]; simp [isG, t3])
    clear HB
    go_wp2_with fail
    refine bodyPost_ret (v := .tuple #[.slice none 0 0, .bool false]) (by simp [results, Tryz.results20, go_sem]) rfl (OutG.no HE.out hB3)
   have t0 : (ov == 0) = false := beq_false_of_ne z0
   clear z0
   by_cases z1 : ov = 1
   ·subst z1
    have HE := Lib.hid (show b = false by rw [← HB.out]; simp [isG, t3])
    clear HB
    go_wp2_with fail
    refine bodyPost_ret (v := .tuple #[.slice none 0 0, .bool false]) (by simp [results, Tryz.results20, go_sem]) rfl (OutG.no HE.out hB3)
   have t1 : (ov == 1) = false := beq_false_of_ne z1
   clear z1
   go_wp2_with fail
   refine (HS.out _).mono ?_
   rintro e w4 ⟨rfl, hb4⟩
   have k3 := q3.below hb4 q3.lt
   have hB4 := hB3.trans (hb4.mono hB3.size)
   clear q2 q3 hB3 hb4 a0 a1 a2 a3 a4 a5 b9 HS
   cases le with
   | false =>
     have HE := Lib.hid (show b = false by rw [← HB.out]; simp [isG, t3, t0, t1])
     clear HB
     go_wp2_with fail
     refine bodyPost_ret (v := .tuple #[.slice none 0 0, .bool false]) (by simp [results, Tryz.results20, go_sem]) rfl (OutG.no HE.out hB4)
   | true =>
     have HE := Lib.hid (show b = true by rw [← HB.out]; simp [isG, t3, t0, t1])
     have z0 : ∀ o1 o2, ((w4.alloc o1).alloc o2).cell? ⟨w.heap.size + 1, 0, none⟩ = some (.int .i64 code) := fun o1 o2 => ((k3.alloc o1).alloc o2).cell 0
     have z1 : ∀ o1 o2, ((w4.alloc o1).alloc o2).cell? ⟨w.heap.size + 1, 1, none⟩ = some (.int .i64 mods) := fun o1 o2 => ((k3.alloc o1).alloc o2).cell 1
     have z2 : ∀ o1 o2, ((w4.alloc o1).alloc o2).cell? ⟨w.heap.size + 1, 2, none⟩ = some (.int .i64 typ) := fun o1 o2 => ((k3.alloc o1).alloc o2).cell 2
     have z3 : ∀ o1 o2, ((w4.alloc o1).alloc o2).cell? ⟨w.heap.size + 1, 3, none⟩ = some (.int .i64 shift) := fun o1 o2 => ((k3.alloc o1).alloc o2).cell 3
     have z4 : ∀ o1 o2, ((w4.alloc o1).alloc o2).cell? ⟨w.heap.size + 1, 4, none⟩ = some (.int .i64 base) := fun o1 o2 => ((k3.alloc o1).alloc o2).cell 4
     have z5 : ∀ o1 o2, ((w4.alloc o1).alloc o2).cell? ⟨w.heap.size + 1, 5, none⟩ = some (.string text) := fun o1 o2 => ((k3.alloc o1).alloc o2).cell 5
     have r0 := (Blk.new w4 3 #[.int .i64 27]).alloc (.cells #[.int .i64 (1 + ov)] 3)
     have r1 := Blk.new (w4.alloc (.cells #[.int .i64 27] 3)) 3 #[.int .i64 (1 + ov)]
     rw [World.size_alloc] at r1
     have hBt : Below w.heap.size w ((w4.alloc (.cells #[.int .i64 27] 3)).alloc (.cells #[.int .i64 (1 + ov)] 3)) := (hB4.alloc hB4.size _).alloc (Nat.le_trans hB4.size (by simp)) _
     clear HB
     go_wp2_with fail
     refine (HC.out _).mono ?_
     clear z0 z1 z2 z3 z4 z5
     rintro e w9 ⟨rfl, hb9⟩
     have s0 := r0.below hb9 r0.lt
     have s1 := r1.below hb9 r1.lt
     have hB9 := hBt.trans (hb9.mono hBt.size)
     have t0 := ((s0.alloc (.cells #[.int .i64 ch] 3)).alloc (.cells #[.slice (some ⟨w4.heap.size, 0, none⟩) 1 1, .slice (some ⟨w4.heap.size + 1, 0, none⟩) 1 1, .slice (some ⟨w9.heap.size, 0, none⟩) 1 1] 57)).alloc (.cells #[.int .i64 1, .int .u8 0, .slice (some ⟨w9.heap.size + 1, 0, none⟩) 3 3, .string ⟨#[]⟩, .int .u8 126, .string ⟨#[]⟩] 40)
     have t1 := ((s1.alloc (.cells #[.int .i64 ch] 3)).alloc (.cells #[.slice (some ⟨w4.heap.size, 0, none⟩) 1 1, .slice (some ⟨w4.heap.size + 1, 0, none⟩) 1 1, .slice (some ⟨w9.heap.size, 0, none⟩) 1 1] 57)).alloc (.cells #[.int .i64 1, .int .u8 0, .slice (some ⟨w9.heap.size + 1, 0, none⟩) 3 3, .string ⟨#[]⟩, .int .u8 126, .string ⟨#[]⟩] 40)
     have t2 := ((Blk.new w9 3 #[.int .i64 ch]).alloc (.cells #[.slice (some ⟨w4.heap.size, 0, none⟩) 1 1, .slice (some ⟨w4.heap.size + 1, 0, none⟩) 1 1, .slice (some ⟨w9.heap.size, 0, none⟩) 1 1] 57)).alloc (.cells #[.int .i64 1, .int .u8 0, .slice (some ⟨w9.heap.size + 1, 0, none⟩) 3 3, .string ⟨#[]⟩, .int .u8 126, .string ⟨#[]⟩] 40)
     have t3 := (Blk.new (w9.alloc (.cells #[.int .i64 ch] 3)) 57 #[.slice (some ⟨w4.heap.size, 0, none⟩) 1 1, .slice (some ⟨w4.heap.size + 1, 0, none⟩) 1 1, .slice (some ⟨w9.heap.size, 0, none⟩) 1 1]).alloc (.cells #[.int .i64 1, .int .u8 0, .slice (some ⟨w9.heap.size + 1, 0, none⟩) 3 3, .string ⟨#[]⟩, .int .u8 126, .string ⟨#[]⟩] 40)
     rw [World.size_alloc] at t3
     have hrp := rdp_three t3 t0 t1 t2
     have hBx : Below w.heap.size w (((w9.alloc (.cells #[.int .i64 ch] 3)).alloc (.cells #[.slice (some ⟨w4.heap.size, 0, none⟩) 1 1, .slice (some ⟨w4.heap.size + 1, 0, none⟩) 1 1, .slice (some ⟨w9.heap.size, 0, none⟩) 1 1] 57)).alloc (.cells #[.int .i64 1, .int .u8 0, .slice (some ⟨w9.heap.size + 1, 0, none⟩) 3 3, .string ⟨#[]⟩, .int .u8 126, .string ⟨#[]⟩] 40)) := ((hB9.alloc hB9.size _).alloc (Nat.le_trans hB9.size (by simp)) _).alloc (Nat.le_trans hB9.size (by simp; omega)) _
     clear s0 s1 r0 r1 hBt hb9 hB9 t0 t1 t2 t3
     go_wp2_with fail
     refine (rput_sqn (kind := 1) (f := 126) (l := [27, 1 + ov, ch]) (n := 3) rfl (by decide) (by decide) (by decide) _ _ _ hrp).mono ?_
     rintro e wa ⟨⟨C, d2, mm, rfl, hrC⟩, hbC⟩
     obtain ⟨nn, hnn⟩ : ∃ x, (seqB 1 126 [27, 1 + ov, ch]).length = x := ⟨_, rfl⟩
     have HNN := Lib.hid hnn
     rw [hnn]
     clear hnn hrp
     go_wp2_with fail
     refine bodyPost_ret (v := .tuple #[.slice C nn d2, .bool true]) (by simp [results, Tryz.results20, go_sem]) rfl (OutG.yes HE.out HNN.out.symm hrC (hBx.trans (hbC.mono hBx.size)))
  by_cases hk2 : K = 2
  ·subst hk2
   by_cases z0 : ov = 0
   ·subst z0
    have HE := Lib.hid (show b = false by rw [← HB.out]; simp [isG, t3])
    clear HB
    go_wp2_with fail
    refine bodyPost_ret (v := .tuple #[.slice none 0 0, .bool false]) (by simp [results, Tryz.results20, go_sem]) rfl (OutG.no HE.out hB3)
   have t0 : (ov == 0) = false := beq_false_of_ne z0
   clear z0
   go_wp2_with fail
   refine (HS.out _).mono ?_
   rintro e w4 ⟨rfl, hb4⟩
   have k3 := q3.below hb4 q3.lt
   have hB4 := hB3.trans (hb4.mono hB3.size)
   clear q2 q3 hB3 hb4 a0 a1 a2 a3 a4 a5 b9 HS
   cases le with
   | false =>
     have HE := Lib.hid (show b = false by rw [← HB.out]; simp [isG, t3, t0])
     clear HB
     go_wp2_with fail
     refine bodyPost_ret (v := .tuple #[.slice none 0 0, .bool false]) (by simp [results, Tryz.results20, go_sem]) rfl (OutG.no HE.out hB4)
   | true =>
     have HE := Lib.hid (show b = true by rw [← HB.out]; simp [isG, t3, t0])
     have z0 : ∀ o1 o2, ((w4.alloc o1).alloc o2).cell? ⟨w.heap.size + 1, 0, none⟩ = some (.int .i64 code) := fun o1 o2 => ((k3.alloc o1).alloc o2).cell 0
     have z1 : ∀ o1 o2, ((w4.alloc o1).alloc o2).cell? ⟨w.heap.size + 1, 1, none⟩ = some (.int .i64 mods) := fun o1 o2 => ((k3.alloc o1).alloc o2).cell 1
     have z2 : ∀ o1 o2, ((w4.alloc o1).alloc o2).cell? ⟨w.heap.size + 1, 2, none⟩ = some (.int .i64 typ) := fun o1 o2 => ((k3.alloc o1).alloc o2).cell 2
     have z3 : ∀ o1 o2, ((w4.alloc o1).alloc o2).cell? ⟨w.heap.size + 1, 3, none⟩ = some (.int .i64 shift) := fun o1 o2 => ((k3.alloc o1).alloc o2).cell 3
     have z4 : ∀ o1 o2, ((w4.alloc o1).alloc o2).cell? ⟨w.heap.size + 1, 4, none⟩ = some (.int .i64 base) := fun o1 o2 => ((k3.alloc o1).alloc o2).cell 4
     have z5 : ∀ o1 o2, ((w4.alloc o1).alloc o2).cell? ⟨w.heap.size + 1, 5, none⟩ = some (.string text) := fun o1 o2 => ((k3.alloc o1).alloc o2).cell 5
     have r0 := (Blk.new w4 3 #[.int .i64 27]).alloc (.cells #[.int .i64 (1 + ov)] 3)
     have r1 := Blk.new (w4.alloc (.cells #[.int .i64 27] 3)) 3 #[.int .i64 (1 + ov)]
     rw [World.size_alloc] at r1
     have hBt : Below w.heap.size w ((w4.alloc (.cells #[.int .i64 27] 3)).alloc (.cells #[.int .i64 (1 + ov)] 3)) := (hB4.alloc hB4.size _).alloc (Nat.le_trans hB4.size (by simp)) _
     clear HB
     go_wp2_with fail
     refine (HC.out _).mono ?_
     clear z0 z1 z2 z3 z4 z5
     rintro e w9 ⟨rfl, hb9⟩
     have s0 := r0.below hb9 r0.lt
     have s1 := r1.below hb9 r1.lt
     have hB9 := hBt.trans (hb9.mono hBt.size)
     have t0 := ((s0.alloc (.cells #[.int .i64 ch] 3)).alloc (.cells #[.slice (some ⟨w4.heap.size, 0, none⟩) 1 1, .slice (some ⟨w4.heap.size + 1, 0, none⟩) 1 1, .slice (some ⟨w9.heap.size, 0, none⟩) 1 1] 57)).alloc (.cells #[.int .i64 1, .int .u8 0, .slice (some ⟨w9.heap.size + 1, 0, none⟩) 3 3, .string ⟨#[]⟩, .int .u8 126, .string ⟨#[]⟩] 40)
     have t1 := ((s1.alloc (.cells #[.int .i64 ch] 3)).alloc (.cells #[.slice (some ⟨w4.heap.size, 0, none⟩) 1 1, .slice (some ⟨w4.heap.size + 1, 0, none⟩) 1 1, .slice (some ⟨w9.heap.size, 0, none⟩) 1 1] 57)).alloc (.cells #[.int .i64 1, .int .u8 0, .slice (some ⟨w9.heap.size + 1, 0, none⟩) 3 3, .string ⟨#[]⟩, .int .u8 126, .string ⟨#[]⟩] 40)
     have t2 := ((Blk.new w9 3 #[.int .i64 ch]).alloc (.cells #[.slice (some ⟨w4.heap.size, 0, none⟩) 1 1, .slice (some ⟨w4.heap.size + 1, 0, none⟩) 1 1, .slice (some ⟨w9.heap.size, 0, none⟩) 1 1] 57)).alloc (.cells #[.int .i64 1, .int .u8 0, .slice (some ⟨w9.heap.size + 1, 0, none⟩) 3 3, .string ⟨#[]⟩, .int .u8 126, .string ⟨#[]⟩] 40)
     have t3 := (Blk.new (w9.alloc (.cells #[.int .i64 ch] 3)) 57 #[.slice (some ⟨w4.heap.size, 0, none⟩) 1 1, .slice (some ⟨w4.heap.size + 1, 0, none⟩) 1 1, .slice (some ⟨w9.heap.size, 0, none⟩) 1 1]).alloc (.cells #[.int .i64 1, .int .u8 0, .slice (some ⟨w9.heap.size + 1, 0, none⟩) 3 3, .string ⟨#[]⟩, .int .u8 126, .string ⟨#[]⟩] 40)
     rw [World.size_alloc] at t3
     have hrp := rdp_three t3 t0 t1 t2
     have hBx : Below w.heap.size w (((w9.alloc (.cells #[.int .i64 ch] 3)).alloc (.cells #[.slice (some ⟨w4.heap.size, 0, none⟩) 1 1, .slice (some ⟨w4.heap.size + 1, 0, none⟩) 1 1, .slice (some ⟨w9.heap.size, 0, none⟩) 1 1] 57)).alloc (.cells #[.int .i64 1, .int .u8 0, .slice (some ⟨w9.heap.size + 1, 0, none⟩) 3 3, .string ⟨#[]⟩, .int .u8 126, .string ⟨#[]⟩] 40)) := ((hB9.alloc hB9.size _).alloc (Nat.le_trans hB9.size (by simp)) _).alloc (Nat.le_trans hB9.size (by simp; omega)) _
     clear s0 s1 r0 r1 hBt hb9 hB9 t0 t1 t2 t3
     go_wp2_with fail
     refine (rput_sqn (kind := 1) (f := 126) (l := [27, 1 + ov, ch]) (n := 3) rfl (by decide) (by decide) (by decide) _ _ _ hrp).mono ?_
     rintro e wa ⟨⟨C, d2, mm, rfl, hrC⟩, hbC⟩
     obtain ⟨nn, hnn⟩ : ∃ x, (seqB 1 126 [27, 1 + ov, ch]).length = x := ⟨_, rfl⟩
     have HNN := Lib.hid hnn
     rw [hnn]
     clear hnn hrp
     go_wp2_with fail
     refine bodyPost_ret (v := .tuple #[.slice C nn d2, .bool true]) (by simp [results, Tryz.results20, go_sem]) rfl (OutG.yes HE.out HNN.out.symm hrC (hBx.trans (hbC.mono hBx.size)))
  have u1 : (K == 1) = false := beq_false_of_ne hk1
  have u2 : (K == 2) = false := beq_false_of_ne hk2
  have u3 : (K != 1) = true := by simp [bne, u1]
  have u4 : (K != 2) = true := by simp [bne, u2]
  clear hk1 hk2
  have HE := Lib.hid (show b = false by rw [← HB.out]; simp [isG, t3, u1, u3, u4])
  clear HB
  go_wp2_with fail
  refine bodyPost_ret (v := .tuple #[.slice none 0 0, .bool false]) (by simp [results, Tryz.results20, go_sem]) rfl (OutG.no HE.out hB3)
 have t91 : (m9 == 1) = false := beq_false_of_ne h9
 have n91 : (m9 != 1) = true := by simp [bne, t91]
 clear h9
 by_cases h9 : m9 = 2
 ·subst h9
  by_cases hk1 : K = 1
  ·subst hk1
   by_cases z0 : ov = 0
   ·subst z0
    have HE := Lib.hid (show b = false by rw [← HB.out]; simp [isG, t3])
    clear HB
    go_wp2_with fail
    refine bodyPost_ret (v := .tuple #[.slice none 0 0, .bool false]) (by simp [results, Tryz.results20, go_sem]) rfl (OutG.no HE.out hB3)
   have t0 : (ov == 0) = false := beq_false_of_ne z0
   clear z0
   by_cases z1 : ov = 1
   ·subst z1
    have HE := Lib.hid (show b = false by rw [← HB.out]; simp [isG, t3])
    clear HB
    go_wp2_with fail
    refine bodyPost_ret (v := .tuple #[.slice none 0 0, .bool false]) (by simp [results, Tryz.results20, go_sem]) rfl (OutG.no HE.out hB3)
   have t1 : (ov == 1) = false := beq_false_of_ne z1
   clear z1
   have HE := Lib.hid (show b = true by rw [← HB.out]; simp [isG, t3, t0, t1])
   have z0 : ∀ o1 o2, ((w3.alloc o1).alloc o2).cell? ⟨w.heap.size + 1, 0, none⟩ = some (.int .i64 code) := fun o1 o2 => ((q3.alloc o1).alloc o2).cell 0
   have z1 : ∀ o1 o2, ((w3.alloc o1).alloc o2).cell? ⟨w.heap.size + 1, 1, none⟩ = some (.int .i64 mods) := fun o1 o2 => ((q3.alloc o1).alloc o2).cell 1
   have z2 : ∀ o1 o2, ((w3.alloc o1).alloc o2).cell? ⟨w.heap.size + 1, 2, none⟩ = some (.int .i64 typ) := fun o1 o2 => ((q3.alloc o1).alloc o2).cell 2
   have z3 : ∀ o1 o2, ((w3.alloc o1).alloc o2).cell? ⟨w.heap.size + 1, 3, none⟩ = some (.int .i64 shift) := fun o1 o2 => ((q3.alloc o1).alloc o2).cell 3
   have z4 : ∀ o1 o2, ((w3.alloc o1).alloc o2).cell? ⟨w.heap.size + 1, 4, none⟩ = some (.int .i64 base) := fun o1 o2 => ((q3.alloc o1).alloc o2).cell 4
   have z5 : ∀ o1 o2, ((w3.alloc o1).alloc o2).cell? ⟨w.heap.size + 1, 5, none⟩ = some (.string text) := fun o1 o2 => ((q3.alloc o1).alloc o2).cell 5
   have r0 := (Blk.new w3 3 #[.int .i64 27]).alloc (.cells #[.int .i64 (1 + ov)] 3)
   have r1 := Blk.new (w3.alloc (.cells #[.int .i64 27] 3)) 3 #[.int .i64 (1 + ov)]
   rw [World.size_alloc] at r1
   have hBt : Below w.heap.size w ((w3.alloc (.cells #[.int .i64 27] 3)).alloc (.cells #[.int .i64 (1 + ov)] 3)) := (hB3.alloc hB3.size _).alloc (Nat.le_trans hB3.size (by simp)) _
   clear HB
   go_wp2_with fail
   refine (HC.out _).mono ?_
   clear z0 z1 z2 z3 z4 z5
   rintro e w9 ⟨rfl, hb9⟩
   have s0 := r0.below hb9 r0.lt
   have s1 := r1.below hb9 r1.lt
   have hB9 := hBt.trans (hb9.mono hBt.size)
   have t0 := ((s0.alloc (.cells #[.int .i64 ch] 3)).alloc (.cells #[.slice (some ⟨w3.heap.size, 0, none⟩) 1 1, .slice (some ⟨w3.heap.size + 1, 0, none⟩) 1 1, .slice (some ⟨w9.heap.size, 0, none⟩) 1 1] 57)).alloc (.cells #[.int .i64 1, .int .u8 0, .slice (some ⟨w9.heap.size + 1, 0, none⟩) 3 3, .string ⟨#[]⟩, .int .u8 126, .string ⟨#[]⟩] 40)
   have t1 := ((s1.alloc (.cells #[.int .i64 ch] 3)).alloc (.cells #[.slice (some ⟨w3.heap.size, 0, none⟩) 1 1, .slice (some ⟨w3.heap.size + 1, 0, none⟩) 1 1, .slice (some ⟨w9.heap.size, 0, none⟩) 1 1] 57)).alloc (.cells #[.int .i64 1, .int .u8 0, .slice (some ⟨w9.heap.size + 1, 0, none⟩) 3 3, .string ⟨#[]⟩, .int .u8 126, .string ⟨#[]⟩] 40)
   have t2 := ((Blk.new w9 3 #[.int .i64 ch]).alloc (.cells #[.slice (some ⟨w3.heap.size, 0, none⟩) 1 1, .slice (some ⟨w3.heap.size + 1, 0, none⟩) 1 1, .slice (some ⟨w9.heap.size, 0, none⟩) 1 1] 57)).alloc (.cells #[.int .i64 1, .int .u8 0, .slice (some ⟨w9.heap.size + 1, 0, none⟩) 3 3, .string ⟨#[]⟩, .int .u8 126, .string ⟨#[]⟩] 40)
   have t3 := (Blk.new (w9.alloc (.cells #[.int .i64 ch] 3)) 57 #[.slice (some ⟨w3.heap.size, 0, none⟩) 1 1, .slice (some ⟨w3.heap.size + 1, 0, none⟩) 1 1, .slice (some ⟨w9.heap.size, 0, none⟩) 1 1]).alloc (.cells #[.int .i64 1, .int .u8 0, .slice (some ⟨w9.heap.size + 1, 0, none⟩) 3 3, .string ⟨#[]⟩, .int .u8 126, .string ⟨#[]⟩] 40)
   rw [World.size_alloc] at t3
   have hrp := rdp_three t3 t0 t1 t2
   have hBx : Below w.heap.size w (((w9.alloc (.cells #[.int .i64 ch] 3)).alloc (.cells #[.slice (some ⟨w3.heap.size, 0, none⟩) 1 1, .slice (some ⟨w3.heap.size + 1, 0, none⟩) 1 1, .slice (some ⟨w9.heap.size, 0, none⟩) 1 1] 57)).alloc (.cells #[.int .i64 1, .int .u8 0, .slice (some ⟨w9.heap.size + 1, 0, none⟩) 3 3, .string ⟨#[]⟩, .int .u8 126, .string ⟨#[]⟩] 40)) := ((hB9.alloc hB9.size _).alloc (Nat.le_trans hB9.size (by simp)) _).alloc (Nat.le_trans hB9.size (by simp; omega)) _
   clear s0 s1 r0 r1 hBt hb9 hB9 t0 t1 t2 t3
   go_wp2_with fail
   refine (rput_sqn (kind := 1) (f := 126) (l := [27, 1 + ov, ch]) (n := 3) rfl (by decide) (by decide) (by decide) _ _ _ hrp).mono ?_
   rintro e wa ⟨⟨C, d2, mm, rfl, hrC⟩, hbC⟩
   obtain ⟨nn, hnn⟩ : ∃ x, (seqB 1 126 [27, 1 + ov, ch]).length = x := ⟨_, rfl⟩
   have HNN := Lib.hid hnn
   rw [hnn]
   clear hnn hrp
   go_wp2_with fail
   refine bodyPost_ret (v := .tuple #[.slice C nn d2, .bool true]) (by simp [results, Tryz.results20, go_sem]) rfl (OutG.yes HE.out HNN.out.symm hrC (hBx.trans (hbC.mono hBx.size)))
  by_cases hk2 : K = 2
  ·subst hk2
   by_cases z0 : ov = 0
   ·subst z0
    have HE := Lib.hid (show b = false by rw [← HB.out]; simp [isG, t3])
    clear HB
    go_wp2_with fail
    refine bodyPost_ret (v := .tuple #[.slice none 0 0, .bool false]) (by simp [results, Tryz.results20, go_sem]) rfl (OutG.no HE.out hB3)
   have t0 : (ov == 0) = false := beq_false_of_ne z0
   clear z0
   have HE := Lib.hid (show b = true by rw [← HB.out]; simp [isG, t3, t0])
   have z0 : ∀ o1 o2, ((w3.alloc o1).alloc o2).cell? ⟨w.heap.size + 1, 0, none⟩ = some (.int .i64 code) := fun o1 o2 => ((q3.alloc o1).alloc o2).cell 0
   have z1 : ∀ o1 o2, ((w3.alloc o1).alloc o2).cell? ⟨w.heap.size + 1, 1, none⟩ = some (.int .i64 mods) := fun o1 o2 => ((q3.alloc o1).alloc o2).cell 1
   have z2 : ∀ o1 o2, ((w3.alloc o1).alloc o2).cell? ⟨w.heap.size + 1, 2, none⟩ = some (.int .i64 typ) := fun o1 o2 => ((q3.alloc o1).alloc o2).cell 2
   have z3 : ∀ o1 o2, ((w3.alloc o1).alloc o2).cell? ⟨w.heap.size + 1, 3, none⟩ = some (.int .i64 shift) := fun o1 o2 => ((q3.alloc o1).alloc o2).cell 3
   have z4 : ∀ o1 o2, ((w3.alloc o1).alloc o2).cell? ⟨w.heap.size + 1, 4, none⟩ = some (.int .i64 base) := fun o1 o2 => ((q3.alloc o1).alloc o2).cell 4
   have z5 : ∀ o1 o2, ((w3.alloc o1).alloc o2).cell? ⟨w.heap.size + 1, 5, none⟩ = some (.string text) := fun o1 o2 => ((q3.alloc o1).alloc o2).cell 5
   have r0 := (Blk.new w3 3 #[.int .i64 27]).alloc (.cells #[.int .i64 (1 + ov)] 3)
   have r1 := Blk.new (w3.alloc (.cells #[.int .i64 27] 3)) 3 #[.int .i64 (1 + ov)]
   rw [World.size_alloc] at r1
   have hBt : Below w.heap.size w ((w3.alloc (.cells #[.int .i64 27] 3)).alloc (.cells #[.int .i64 (1 + ov)] 3)) := (hB3.alloc hB3.size _).alloc (Nat.le_trans hB3.size (by simp)) _
   clear HB
   go_wp2_with fail
   refine (HC.out _).mono ?_
   clear z0 z1 z2 z3 z4 z5
   rintro e w9 ⟨rfl, hb9⟩
   have s0 := r0.below hb9 r0.lt
   have s1 := r1.below hb9 r1.lt
   have hB9 := hBt.trans (hb9.mono hBt.size)
   have t0 := ((s0.alloc (.cells #[.int .i64 ch] 3)).alloc (.cells #[.slice (some ⟨w3.heap.size, 0, none⟩) 1 1, .slice (some ⟨w3.heap.size + 1, 0, none⟩) 1 1, .slice (some ⟨w9.heap.size, 0, none⟩) 1 1] 57)).alloc (.cells #[.int .i64 1, .int .u8 0, .slice (some ⟨w9.heap.size + 1, 0, none⟩) 3 3, .string ⟨#[]⟩, .int .u8 126, .string ⟨#[]⟩] 40)
   have t1 := ((s1.alloc (.cells #[.int .i64 ch] 3)).alloc (.cells #[.slice (some ⟨w3.heap.size, 0, none⟩) 1 1, .slice (some ⟨w3.heap.size + 1, 0, none⟩) 1 1, .slice (some ⟨w9.heap.size, 0, none⟩) 1 1] 57)).alloc (.cells #[.int .i64 1, .int .u8 0, .slice (some ⟨w9.heap.size + 1, 0, none⟩) 3 3, .string ⟨#[]⟩, .int .u8 126, .string ⟨#[]⟩] 40)
   have t2 := ((Blk.new w9 3 #[.int .i64 ch]).alloc (.cells #[.slice (some ⟨w3.heap.size, 0, none⟩) 1 1, .slice (some ⟨w3.heap.size + 1, 0, none⟩) 1 1, .slice (some ⟨w9.heap.size, 0, none⟩) 1 1] 57)).alloc (.cells #[.int .i64 1, .int .u8 0, .slice (some ⟨w9.heap.size + 1, 0, none⟩) 3 3, .string ⟨#[]⟩, .int .u8 126, .string ⟨#[]⟩] 40)
   have t3 := (Blk.new (w9.alloc (.cells #[.int .i64 ch] 3)) 57 #[.slice (some ⟨w3.heap.size, 0, none⟩) 1 1, .slice (some ⟨w3.heap.size + 1, 0, none⟩) 1 1, .slice (some ⟨w9.heap.size, 0, none⟩) 1 1]).alloc (.cells #[.int .i64 1, .int .u8 0, .slice (some ⟨w9.heap.size + 1, 0, none⟩) 3 3, .string ⟨#[]⟩, .int .u8 126, .string ⟨#[]⟩] 40)
   rw [World.size_alloc] at t3
   have hrp := rdp_three t3 t0 t1 t2
   have hBx : Below w.heap.size w (((w9.alloc (.cells #[.int .i64 ch] 3)).alloc (.cells #[.slice (some ⟨w3.heap.size, 0, none⟩) 1 1, .slice (some ⟨w3.heap.size + 1, 0, none⟩) 1 1, .slice (some ⟨w9.heap.size, 0, none⟩) 1 1] 57)).alloc (.cells #[.int .i64 1, .int .u8 0, .slice (some ⟨w9.heap.size + 1, 0, none⟩) 3 3, .string ⟨#[]⟩, .int .u8 126, .string ⟨#[]⟩] 40)) := ((hB9.alloc hB9.size _).alloc (Nat.le_trans hB9.size (by simp)) _).alloc (Nat.le_trans hB9.size (by simp; omega)) _
   clear s0 s1 r0 r1 hBt hb9 hB9 t0 t1 t2 t3
   go_wp2_with fail
   refine (rput_sqn (kind := 1) (f := 126) (l := [27, 1 + ov, ch]) (n := 3) rfl (by decide) (by decide) (by decide) _ _ _ hrp).mono ?_
   rintro e wa ⟨⟨C, d2, mm, rfl, hrC⟩, hbC⟩
   obtain ⟨nn, hnn⟩ : ∃ x, (seqB 1 126 [27, 1 + ov, ch]).length = x := ⟨_, rfl⟩
   have HNN := Lib.hid hnn
   rw [hnn]
   clear hnn hrp
   go_wp2_with fail
   refine bodyPost_ret (v := .tuple #[.slice C nn d2, .bool true]) (by simp [results, Tryz.results20, go_sem]) rfl (OutG.yes HE.out HNN.out.symm hrC (hBx.trans (hbC.mono hBx.size)))
  have u1 : (K == 1) = false := beq_false_of_ne hk1
  have u2 : (K == 2) = false := beq_false_of_ne hk2
  have u3 : (K != 1) = true := by simp [bne, u1]
  have u4 : (K != 2) = true := by simp [bne, u2]
  clear hk1 hk2
  have HE := Lib.hid (show b = false by rw [← HB.out]; simp [isG, t3, u1, u3, u4])
  clear HB
  go_wp2_with fail
  refine bodyPost_ret (v := .tuple #[.slice none 0 0, .bool false]) (by simp [results, Tryz.results20, go_sem]) rfl (OutG.no HE.out hB3)
 have t92 : (m9 == 2) = false := beq_false_of_ne h9
 have n92 : (m9 != 2) = true := by simp [bne, t92]
 clear h9
 have HE := Lib.hid (show b = false by rw [← HB.out]; simp [isG, t3, t91, n91, n92])
 clear HB
 go_wp2_with fail
 refine bodyPost_ret (v := .tuple #[.slice none 0 0, .bool false]) (by simp [results, Tryz.results20, go_sem]) rfl (OutG.no HE.out hB3)
end Go.Proofs.YtceipblcdcgljaaGreatDoor
