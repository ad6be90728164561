/-
  Layer 12, walked: the document's Key. Layer 12, the laws' walks over the bundle: OtherTells, OtherBacks. Layer 12, the laws' walks over the bundle: OtherSame.
-/
import Derived.Test.YtmagokkegadmiaaGreatDoorG10
import Derived.Test.YtmagokkegadmiaaGreatDoorG29
import Derived.Test.YtmagokkegadmiaaGreatDoorG30
import Derived.Test.YtmagokkegadmiaaGreatDoorG39
namespace Go.Proofs.YtmagokkegadmiaaGreatDoor
open Go.RowKit

def isG (v : Bool) (typ o K ov : Int) (le : Bool) : Bool := !(!v || typ == 3 || (o != 1 && o != 2) || (K != 1 && K != 2) || ov == 0 || (K == 1 && ov == 1) || (o == 1 && !le))
theorem isO_G (o : Int) (k : Ky) : isO o k = isG (mayK k) k.typ o (lookE k.code).kind (oldN k.mods) (lessK k) := rfl
/-- Bytes, where there are any. -/
def OutG (b : Bool) (p c : Int) : World → Ending → World → Prop := OutB (if b = true then othB p c else []) (if b = true then othB p c else []).length b
theorem OutG.no {b : Bool} {p c : Int} (h : b = false) {w w' : World} (hb : Below w.heap.size w w') : OutG b p c w (.returned (.tuple #[.slice none 0 0, .bool false])) w' := by
  subst h
  exact ⟨none, 0, rfl, Rd.nil _ _, hb⟩
theorem OutG.yes {b : Bool} {p c : Int} (h : b = true) {w w' : World} {A : Option Addr} {n d : Nat} (hn : n = (othB p c).length) (hr : Rd w' A (bs (othB p c))) (hb : Below w.heap.size w w') : OutG b p c w (.returned (.tuple #[.slice A n d, .bool true])) w' := by
  subst h hn
  exact ⟨A, d, rfl, hr, hb⟩
theorem rdp_three {w : World} {g g0 g1 g2 : Nat} {t t1 : TypeId} {a b c : Int} (h : Blk w g t #[.slice (some ⟨g0, 0, none⟩) 1 1, .slice (some ⟨g1, 0, none⟩) 1 1, .slice (some ⟨g2, 0, none⟩) 1 1]) (h0 : Blk w g0 t1 #[.int .i64 a]) (h1 : Blk w g1 t1 #[.int .i64 b]) (h2 : Blk w g2 t1 #[.int .i64 c]) :
    RdP w (some ⟨g, 0, none⟩) ([a, b, c].map fun n => [n]) := fun _ => by
  refine ⟨g, 0, rfl, h.lt, fun k hk => ?_⟩
  match k, hk with
  | 0, _ => exact ⟨_, 1, h.cell 0, Rd.block h0 rfl⟩
  | 1, _ => exact ⟨_, 1, h.cell 1, Rd.block h1 rfl⟩
  | 2, _ => exact ⟨_, 1, h.cell 2, Rd.block h2 rfl⟩
set_option maxRecDepth 100000 in
set_option maxHeartbeats 32000000 in
theorem rkey12_any (m : Mo) (k : Ky) (hk : okK k) (hs : k.text.size ≤ 4294967296) (w : World) :
    Calls Tryz.prog 10 #[moV m, kyV k] w (OutB (othL m.other k) (othL m.other k).length (isO m.other k) w) := by
  show Calls Tryz.prog 10 #[moV m, kyV k] w (OutG (isO m.other k) (1 + oldN k.mods) (charK k) w)
  have HM : Hid (∀ W, Calls Tryz.prog 13 #[kyV k] W fun e w' => e = .returned (.bool (mayK k)) ∧ Below W.heap.size W w') := Lib.hid fun W => rmay10_any k hs W
  have HO : Hid (∀ W, Calls Tryz.prog 16 #[.int .i64 k.mods] W fun e w' => e = .returned (.int .i64 (oldN k.mods)) ∧ Below W.heap.size W w') := Lib.hid fun W => rold_any k.mods W
  have HL : Hid (∀ W, Calls Tryz.prog 22 #[.int .i64 k.code] W fun e w' => e = .returned (enV (lookE k.code)) ∧ Below W.heap.size W w') := Lib.hid fun W => rlook_any k.code W
  have HC : Hid (∀ W, Calls Tryz.prog 24 #[kyV k] W fun e w' => e = .returned (.int .i64 (charK k)) ∧ Below W.heap.size W w') := Lib.hid fun W => rchar_any k hk W
  have HS : Hid (∀ W, Calls Tryz.prog 23 #[kyV k] W fun e w' => e = .returned (.bool (lessK k)) ∧ Below W.heap.size W w') := Lib.hid fun W => rless_any k hk W
  obtain ⟨K, hK⟩ : ∃ K, (lookE k.code).kind = K := ⟨_, rfl⟩
  have hf : ∀ W : World, (Instr.field 54 (enV (lookE k.code)) 0).run Tryz.prog W = .ok (.int .i64 K) W := fun W => by
    rw [← hK]
    exact (by kernel_rfl : (Instr.field 54 (enV (lookE k.code)) 0).run Tryz.prog W = .ok (.int .i64 (lookE k.code).kind) W)
  obtain ⟨E, hE⟩ : ∃ E, enV (lookE k.code) = E := ⟨_, rfl⟩
  rw [hE] at HL hf
  have hr := old_rng k.mods
  obtain ⟨ov, hov⟩ : ∃ x, oldN k.mods = x := ⟨_, rfl⟩
  obtain ⟨ch, hch⟩ : ∃ x, charK k = x := ⟨_, rfl⟩
  obtain ⟨v, hv⟩ : ∃ x, mayK k = x := ⟨_, rfl⟩
  obtain ⟨le, hle⟩ : ∃ x, lessK k = x := ⟨_, rfl⟩
  rw [isO_G, hK, hov, hch, hv, hle]
  rw [hov] at HO hr
  rw [hch] at HC
  rw [hv] at HM
  rw [hle] at HS
  have hw : IntKind.i64.wrap (1 + ov) = 1 + ov := by rw [IntKind.wrap_i64]; omega
  clear hE hk hs hK hov hch hv hle
  obtain ⟨code, mods, typ, shift, base, text⟩ := k
  obtain ⟨m0, m1, m2, m3, m4, m5, m6, m7, m8, m9⟩ := m
  simp only [kyV] at HM HO HL HC HS
  simp only
  obtain ⟨b, hb⟩ : ∃ b, isG v typ m9 K ov le = b := ⟨_, rfl⟩
  rw [hb]
  have HB := Lib.hid hb
  clear hb
  rw [kyV, moV]
  have k2 := (Blk.new w 23 #[.bool m0, .bool m1, .bool m2, .bool m3, .bool m4, .bool m5, .bool m6, .int .i64 m7, .int .i64 m8, .int .i64 m9]).alloc (.cells #[.int .i64 code, .int .i64 mods, .int .i64 typ, .int .i64 shift, .int .i64 base, .string text] 25)
  have k3 := Blk.new (w.alloc (.cells #[.bool m0, .bool m1, .bool m2, .bool m3, .bool m4, .bool m5, .bool m6, .int .i64 m7, .int .i64 m8, .int .i64 m9] 23)) 25 #[.int .i64 code, .int .i64 mods, .int .i64 typ, .int .i64 shift, .int .i64 base, .string text]
  rw [World.size_alloc] at k3
  have hB0 : Below w.heap.size w ((w.alloc (.cells #[.bool m0, .bool m1, .bool m2, .bool m3, .bool m4, .bool m5, .bool m6, .int .i64 m7, .int .i64 m8, .int .i64 m9] 23)).alloc (.cells #[.int .i64 code, .int .i64 mods, .int .i64 typ, .int .i64 shift, .int .i64 base, .string text] 25)) := ((Below.refl _ w).alloc (Nat.le_refl _) _).alloc (by simp) _
  have a0 := k3.cell 0
  go_enter Tryz.func10, Tryz.ntmps10
  go_wp2_with fail
  refine (HL.out _).mono ?_
  rintro e w1 ⟨rfl, hb1⟩
  have q2 := k2.below hb1 k2.lt
  have q3 := k3.below hb1 k3.lt
  have hB1 := hB0.trans (hb1.mono hB0.size)
  clear k2 k3 hB0 hb1 a0 HL
  have a1 := q3.cell 1
  go_wp2_with fail
  refine (HO.out _).mono ?_
  rintro e w2 ⟨rfl, hb2⟩
  have k2 := q2.below hb2 q2.lt
  have k3 := q3.below hb2 q3.lt
  have hB2 := hB1.trans (hb2.mono hB1.size)
  clear q2 q3 hB1 hb2 a1 hf HO
  obtain ⟨a0, a1, a2, a3, a4, a5⟩ := Blk.cells6 k3
  go_wp2_with fail
  refine (HM.out _).mono ?_
  rintro e w3 ⟨rfl, hb3⟩
  have q2 := k2.below hb3 k2.lt
  have q3 := k3.below hb3 k3.lt
  have hB3 := hB2.trans (hb3.mono hB2.size)
  clear k2 k3 hB2 hb3 a0 a1 a2 a3 a4 a5 HM
  obtain ⟨a0, a1, a2, a3, a4, a5⟩ := Blk.cells6 q3
  have b9 := q2.cell 9
  cases v with
  | false =>
    have HE := Lib.hid (show b = false by rw [← HB.out]; simp [isG])
    clear HB
    go_wp2_with fail
    refine bodyPost_ret (v := .tuple #[.slice none 0 0, .bool false]) (by simp [results, Tryz.results10, go_sem]) rfl (OutG.no HE.out hB3)
  | true =>
  by_cases h3 : typ = 3
  · subst h3
    have HE := Lib.hid (show b = false by rw [← HB.out]; simp [isG])
    clear HB
    go_wp2_with fail
    refine bodyPost_ret (v := .tuple #[.slice none 0 0, .bool false]) (by simp [results, Tryz.results10, go_sem]) rfl (OutG.no HE.out hB3)
  have t3 : (typ == 3) = false := beq_false_of_ne h3
  clear h3
  by_cases h9 : m9 = 1
  · subst h9
    by_cases hk1 : K = 1
    · subst hk1
      by_cases z0 : ov = 0
      · subst z0
        have HE := Lib.hid (show b = false by rw [← HB.out]; simp [isG, t3])
        clear HB
        go_wp2_with fail
        refine bodyPost_ret (v := .tuple #[.slice none 0 0, .bool false]) (by simp [results, Tryz.results10, go_sem]) rfl (OutG.no HE.out hB3)
      have t0 : (ov == 0) = false := beq_false_of_ne z0
      clear z0
      by_cases z1 : ov = 1
      · subst z1
        have HE := Lib.hid (show b = false by rw [← HB.out]; simp [isG, t3])
        clear HB
        go_wp2_with fail
        refine bodyPost_ret (v := .tuple #[.slice none 0 0, .bool false]) (by simp [results, Tryz.results10, go_sem]) rfl (OutG.no HE.out hB3)
      have t1 : (ov == 1) = false := beq_false_of_ne z1
      clear z1
      go_wp2_with fail
      refine (HS.out _).mono ?_
      rintro e w4 ⟨rfl, hb4⟩
      have k3 := q3.below hb4 q3.lt
      have hB4 := hB3.trans (hb4.mono hB3.size)
      clear q2 q3 hB3 hb4 a0 a1 a2 a3 a4 a5 b9 HS
      cases le with
      | false =>
        have HE := Lib.hid (show b = false by rw [← HB.out]; simp [isG, t3, t0, t1])
        clear HB
        go_wp2_with fail
        refine bodyPost_ret (v := .tuple #[.slice none 0 0, .bool false]) (by simp [results, Tryz.results10, go_sem]) rfl (OutG.no HE.out hB4)
      | true =>
        have HE := Lib.hid (show b = true by rw [← HB.out]; simp [isG, t3, t0, t1])
        have z0 : ∀ o1 o2, ((w4.alloc o1).alloc o2).cell? ⟨w.heap.size + 1, 0, none⟩ = some (.int .i64 code) := fun o1 o2 => ((k3.alloc o1).alloc o2).cell 0
        have z1 : ∀ o1 o2, ((w4.alloc o1).alloc o2).cell? ⟨w.heap.size + 1, 1, none⟩ = some (.int .i64 mods) := fun o1 o2 => ((k3.alloc o1).alloc o2).cell 1
        have z2 : ∀ o1 o2, ((w4.alloc o1).alloc o2).cell? ⟨w.heap.size + 1, 2, none⟩ = some (.int .i64 typ) := fun o1 o2 => ((k3.alloc o1).alloc o2).cell 2
        have z3 : ∀ o1 o2, ((w4.alloc o1).alloc o2).cell? ⟨w.heap.size + 1, 3, none⟩ = some (.int .i64 shift) := fun o1 o2 => ((k3.alloc o1).alloc o2).cell 3
        have z4 : ∀ o1 o2, ((w4.alloc o1).alloc o2).cell? ⟨w.heap.size + 1, 4, none⟩ = some (.int .i64 base) := fun o1 o2 => ((k3.alloc o1).alloc o2).cell 4
        have z5 : ∀ o1 o2, ((w4.alloc o1).alloc o2).cell? ⟨w.heap.size + 1, 5, none⟩ = some (.string text) := fun o1 o2 => ((k3.alloc o1).alloc o2).cell 5
        have r0 := (Blk.new w4 3 #[.int .i64 27]).alloc (.cells #[.int .i64 (1 + ov)] 3)
        have r1 := Blk.new (w4.alloc (.cells #[.int .i64 27] 3)) 3 #[.int .i64 (1 + ov)]
        rw [World.size_alloc] at r1
        have hBt : Below w.heap.size w ((w4.alloc (.cells #[.int .i64 27] 3)).alloc (.cells #[.int .i64 (1 + ov)] 3)) := (hB4.alloc hB4.size _).alloc (Nat.le_trans hB4.size (by simp)) _
        clear HB
        go_wp2_with fail
        refine (HC.out _).mono ?_
        clear z0 z1 z2 z3 z4 z5
        rintro e w9 ⟨rfl, hb9⟩
        have s0 := r0.below hb9 r0.lt
        have s1 := r1.below hb9 r1.lt
        have hB9 := hBt.trans (hb9.mono hBt.size)
        have t0 := ((s0.alloc (.cells #[.int .i64 ch] 3)).alloc (.cells #[.slice (some ⟨w4.heap.size, 0, none⟩) 1 1, .slice (some ⟨w4.heap.size + 1, 0, none⟩) 1 1, .slice (some ⟨w9.heap.size, 0, none⟩) 1 1] 56)).alloc (.cells #[.int .i64 1, .int .u8 0, .slice (some ⟨w9.heap.size + 1, 0, none⟩) 3 3, .string ⟨#[]⟩, .int .u8 126, .string ⟨#[]⟩] 52)
        have t1 := ((s1.alloc (.cells #[.int .i64 ch] 3)).alloc (.cells #[.slice (some ⟨w4.heap.size, 0, none⟩) 1 1, .slice (some ⟨w4.heap.size + 1, 0, none⟩) 1 1, .slice (some ⟨w9.heap.size, 0, none⟩) 1 1] 56)).alloc (.cells #[.int .i64 1, .int .u8 0, .slice (some ⟨w9.heap.size + 1, 0, none⟩) 3 3, .string ⟨#[]⟩, .int .u8 126, .string ⟨#[]⟩] 52)
        have t2 := ((Blk.new w9 3 #[.int .i64 ch]).alloc (.cells #[.slice (some ⟨w4.heap.size, 0, none⟩) 1 1, .slice (some ⟨w4.heap.size + 1, 0, none⟩) 1 1, .slice (some ⟨w9.heap.size, 0, none⟩) 1 1] 56)).alloc (.cells #[.int .i64 1, .int .u8 0, .slice (some ⟨w9.heap.size + 1, 0, none⟩) 3 3, .string ⟨#[]⟩, .int .u8 126, .string ⟨#[]⟩] 52)
        have t3 := (Blk.new (w9.alloc (.cells #[.int .i64 ch] 3)) 56 #[.slice (some ⟨w4.heap.size, 0, none⟩) 1 1, .slice (some ⟨w4.heap.size + 1, 0, none⟩) 1 1, .slice (some ⟨w9.heap.size, 0, none⟩) 1 1]).alloc (.cells #[.int .i64 1, .int .u8 0, .slice (some ⟨w9.heap.size + 1, 0, none⟩) 3 3, .string ⟨#[]⟩, .int .u8 126, .string ⟨#[]⟩] 52)
        rw [World.size_alloc] at t3
        have hrp := rdp_three t3 t0 t1 t2
        have hBx : Below w.heap.size w (((w9.alloc (.cells #[.int .i64 ch] 3)).alloc (.cells #[.slice (some ⟨w4.heap.size, 0, none⟩) 1 1, .slice (some ⟨w4.heap.size + 1, 0, none⟩) 1 1, .slice (some ⟨w9.heap.size, 0, none⟩) 1 1] 56)).alloc (.cells #[.int .i64 1, .int .u8 0, .slice (some ⟨w9.heap.size + 1, 0, none⟩) 3 3, .string ⟨#[]⟩, .int .u8 126, .string ⟨#[]⟩] 52)) := ((hB9.alloc hB9.size _).alloc (Nat.le_trans hB9.size (by simp)) _).alloc (Nat.le_trans hB9.size (by simp; omega)) _
        clear s0 s1 r0 r1 hBt hb9 hB9 t0 t1 t2 t3
        go_wp2_with fail
        refine (rput_sqn (kind := 1) (f := 126) (l := [27, 1 + ov, ch]) (n := 3) rfl (by decide) (by decide) (by decide) _ _ _ hrp).mono ?_
        rintro e wa ⟨⟨C, d2, mm, rfl, hrC⟩, hbC⟩
        obtain ⟨nn, hnn⟩ : ∃ x, (seqB 1 126 [27, 1 + ov, ch]).length = x := ⟨_, rfl⟩
        have HNN := Lib.hid hnn
        rw [hnn]
        clear hnn hrp
        go_wp2_with fail
        refine bodyPost_ret (v := .tuple #[.slice C nn d2, .bool true]) (by simp [results, Tryz.results10, go_sem]) rfl (OutG.yes HE.out HNN.out.symm hrC (hBx.trans (hbC.mono hBx.size)))
    by_cases hk2 : K = 2
    · subst hk2
      by_cases z0 : ov = 0
      · subst z0
        have HE := Lib.hid (show b = false by rw [← HB.out]; simp [isG, t3])
        clear HB
        go_wp2_with fail
        refine bodyPost_ret (v := .tuple #[.slice none 0 0, .bool false]) (by simp [results, Tryz.results10, go_sem]) rfl (OutG.no HE.out hB3)
      have t0 : (ov == 0) = false := beq_false_of_ne z0
      clear z0
      go_wp2_with fail
      refine (HS.out _).mono ?_
      rintro e w4 ⟨rfl, hb4⟩
      have k3 := q3.below hb4 q3.lt
      have hB4 := hB3.trans (hb4.mono hB3.size)
      clear q2 q3 hB3 hb4 a0 a1 a2 a3 a4 a5 b9 HS
      cases le with
      | false =>
        have HE := Lib.hid (show b = false by rw [← HB.out]; simp [isG, t3, t0])
        clear HB
        go_wp2_with fail
        refine bodyPost_ret (v := .tuple #[.slice none 0 0, .bool false]) (by simp [results, Tryz.results10, go_sem]) rfl (OutG.no HE.out hB4)
      | true =>
        have HE := Lib.hid (show b = true by rw [← HB.out]; simp [isG, t3, t0])
        have z0 : ∀ o1 o2, ((w4.alloc o1).alloc o2).cell? ⟨w.heap.size + 1, 0, none⟩ = some (.int .i64 code) := fun o1 o2 => ((k3.alloc o1).alloc o2).cell 0
        have z1 : ∀ o1 o2, ((w4.alloc o1).alloc o2).cell? ⟨w.heap.size + 1, 1, none⟩ = some (.int .i64 mods) := fun o1 o2 => ((k3.alloc o1).alloc o2).cell 1
        have z2 : ∀ o1 o2, ((w4.alloc o1).alloc o2).cell? ⟨w.heap.size + 1, 2, none⟩ = some (.int .i64 typ) := fun o1 o2 => ((k3.alloc o1).alloc o2).cell 2
        have z3 : ∀ o1 o2, ((w4.alloc o1).alloc o2).cell? ⟨w.heap.size + 1, 3, none⟩ = some (.int .i64 shift) := fun o1 o2 => ((k3.alloc o1).alloc o2).cell 3
        have z4 : ∀ o1 o2, ((w4.alloc o1).alloc o2).cell? ⟨w.heap.size + 1, 4, none⟩ = some (.int .i64 base) := fun o1 o2 => ((k3.alloc o1).alloc o2).cell 4
        have z5 : ∀ o1 o2, ((w4.alloc o1).alloc o2).cell? ⟨w.heap.size + 1, 5, none⟩ = some (.string text) := fun o1 o2 => ((k3.alloc o1).alloc o2).cell 5
        have r0 := (Blk.new w4 3 #[.int .i64 27]).alloc (.cells #[.int .i64 (1 + ov)] 3)
        have r1 := Blk.new (w4.alloc (.cells #[.int .i64 27] 3)) 3 #[.int .i64 (1 + ov)]
        rw [World.size_alloc] at r1
        have hBt : Below w.heap.size w ((w4.alloc (.cells #[.int .i64 27] 3)).alloc (.cells #[.int .i64 (1 + ov)] 3)) := (hB4.alloc hB4.size _).alloc (Nat.le_trans hB4.size (by simp)) _
        clear HB
        go_wp2_with fail
        refine (HC.out _).mono ?_
        clear z0 z1 z2 z3 z4 z5
        rintro e w9 ⟨rfl, hb9⟩
        have s0 := r0.below hb9 r0.lt
        have s1 := r1.below hb9 r1.lt
        have hB9 := hBt.trans (hb9.mono hBt.size)
        have t0 := ((s0.alloc (.cells #[.int .i64 ch] 3)).alloc (.cells #[.slice (some ⟨w4.heap.size, 0, none⟩) 1 1, .slice (some ⟨w4.heap.size + 1, 0, none⟩) 1 1, .slice (some ⟨w9.heap.size, 0, none⟩) 1 1] 56)).alloc (.cells #[.int .i64 1, .int .u8 0, .slice (some ⟨w9.heap.size + 1, 0, none⟩) 3 3, .string ⟨#[]⟩, .int .u8 126, .string ⟨#[]⟩] 52)
        have t1 := ((s1.alloc (.cells #[.int .i64 ch] 3)).alloc (.cells #[.slice (some ⟨w4.heap.size, 0, none⟩) 1 1, .slice (some ⟨w4.heap.size + 1, 0, none⟩) 1 1, .slice (some ⟨w9.heap.size, 0, none⟩) 1 1] 56)).alloc (.cells #[.int .i64 1, .int .u8 0, .slice (some ⟨w9.heap.size + 1, 0, none⟩) 3 3, .string ⟨#[]⟩, .int .u8 126, .string ⟨#[]⟩] 52)
        have t2 := ((Blk.new w9 3 #[.int .i64 ch]).alloc (.cells #[.slice (some ⟨w4.heap.size, 0, none⟩) 1 1, .slice (some ⟨w4.heap.size + 1, 0, none⟩) 1 1, .slice (some ⟨w9.heap.size, 0, none⟩) 1 1] 56)).alloc (.cells #[.int .i64 1, .int .u8 0, .slice (some ⟨w9.heap.size + 1, 0, none⟩) 3 3, .string ⟨#[]⟩, .int .u8 126, .string ⟨#[]⟩] 52)
        have t3 := (Blk.new (w9.alloc (.cells #[.int .i64 ch] 3)) 56 #[.slice (some ⟨w4.heap.size, 0, none⟩) 1 1, .slice (some ⟨w4.heap.size + 1, 0, none⟩) 1 1, .slice (some ⟨w9.heap.size, 0, none⟩) 1 1]).alloc (.cells #[.int .i64 1, .int .u8 0, .slice (some ⟨w9.heap.size + 1, 0, none⟩) 3 3, .string ⟨#[]⟩, .int .u8 126, .string ⟨#[]⟩] 52)
        rw [World.size_alloc] at t3
        have hrp := rdp_three t3 t0 t1 t2
        have hBx : Below w.heap.size w (((w9.alloc (.cells #[.int .i64 ch] 3)).alloc (.cells #[.slice (some ⟨w4.heap.size, 0, none⟩) 1 1, .slice (some ⟨w4.heap.size + 1, 0, none⟩) 1 1, .slice (some ⟨w9.heap.size, 0, none⟩) 1 1] 56)).alloc (.cells #[.int .i64 1, .int .u8 0, .slice (some ⟨w9.heap.size + 1, 0, none⟩) 3 3, .string ⟨#[]⟩, .int .u8 126, .string ⟨#[]⟩] 52)) := ((hB9.alloc hB9.size _).alloc (Nat.le_trans hB9.size (by simp)) _).alloc (Nat.le_trans hB9.size (by simp; omega)) _
        clear s0 s1 r0 r1 hBt hb9 hB9 t0 t1 t2 t3
        go_wp2_with fail
        refine (rput_sqn (kind := 1) (f := 126) (l := [27, 1 + ov, ch]) (n := 3) rfl (by decide) (by decide) (by decide) _ _ _ hrp).mono ?_
        rintro e wa ⟨⟨C, d2, mm, rfl, hrC⟩, hbC⟩
        obtain ⟨nn, hnn⟩ : ∃ x, (seqB 1 126 [27, 1 + ov, ch]).length = x := ⟨_, rfl⟩
        have HNN := Lib.hid hnn
        rw [hnn]
        clear hnn hrp
        go_wp2_with fail
        refine bodyPost_ret (v := .tuple #[.slice C nn d2, .bool true]) (by simp [results, Tryz.results10, go_sem]) rfl (OutG.yes HE.out HNN.out.symm hrC (hBx.trans (hbC.mono hBx.size)))
    have u1 : (K == 1) = false := beq_false_of_ne hk1
    have u2 : (K == 2) = false := beq_false_of_ne hk2
    have u3 : (K != 1) = true := by simp [bne, u1]
    have u4 : (K != 2) = true := by simp [bne, u2]
    clear hk1 hk2
    have HE := Lib.hid (show b = false by rw [← HB.out]; simp [isG, t3, u1, u3, u4])
    clear HB
    go_wp2_with fail
    refine bodyPost_ret (v := .tuple #[.slice none 0 0, .bool false]) (by simp [results, Tryz.results10, go_sem]) rfl (OutG.no HE.out hB3)
  have t91 : (m9 == 1) = false := beq_false_of_ne h9
  have n91 : (m9 != 1) = true := by simp [bne, t91]
  clear h9
  by_cases h9 : m9 = 2
  · subst h9
    by_cases hk1 : K = 1
    · subst hk1
      by_cases z0 : ov = 0
      · subst z0
        have HE := Lib.hid (show b = false by rw [← HB.out]; simp [isG, t3])
        clear HB
        go_wp2_with fail
        refine bodyPost_ret (v := .tuple #[.slice none 0 0, .bool false]) (by simp [results, Tryz.results10, go_sem]) rfl (OutG.no HE.out hB3)
      have t0 : (ov == 0) = false := beq_false_of_ne z0
      clear z0
      by_cases z1 : ov = 1
      · subst z1
        have HE := Lib.hid (show b = false by rw [← HB.out]; simp [isG, t3])
        clear HB
        go_wp2_with fail
        refine bodyPost_ret (v := .tuple #[.slice none 0 0, .bool false]) (by simp [results, Tryz.results10, go_sem]) rfl (OutG.no HE.out hB3)
      have t1 : (ov == 1) = false := beq_false_of_ne z1
      clear z1
      have HE := Lib.hid (show b = true by rw [← HB.out]; simp [isG, t3, t0, t1])
      have z0 : ∀ o1 o2, ((w3.alloc o1).alloc o2).cell? ⟨w.heap.size + 1, 0, none⟩ = some (.int .i64 code) := fun o1 o2 => ((q3.alloc o1).alloc o2).cell 0
      have z1 : ∀ o1 o2, ((w3.alloc o1).alloc o2).cell? ⟨w.heap.size + 1, 1, none⟩ = some (.int .i64 mods) := fun o1 o2 => ((q3.alloc o1).alloc o2).cell 1
      have z2 : ∀ o1 o2, ((w3.alloc o1).alloc o2).cell? ⟨w.heap.size + 1, 2, none⟩ = some (.int .i64 typ) := fun o1 o2 => ((q3.alloc o1).alloc o2).cell 2
      have z3 : ∀ o1 o2, ((w3.alloc o1).alloc o2).cell? ⟨w.heap.size + 1, 3, none⟩ = some (.int .i64 shift) := fun o1 o2 => ((q3.alloc o1).alloc o2).cell 3
      have z4 : ∀ o1 o2, ((w3.alloc o1).alloc o2).cell? ⟨w.heap.size + 1, 4, none⟩ = some (.int .i64 base) := fun o1 o2 => ((q3.alloc o1).alloc o2).cell 4
      have z5 : ∀ o1 o2, ((w3.alloc o1).alloc o2).cell? ⟨w.heap.size + 1, 5, none⟩ = some (.string text) := fun o1 o2 => ((q3.alloc o1).alloc o2).cell 5
      have r0 := (Blk.new w3 3 #[.int .i64 27]).alloc (.cells #[.int .i64 (1 + ov)] 3)
      have r1 := Blk.new (w3.alloc (.cells #[.int .i64 27] 3)) 3 #[.int .i64 (1 + ov)]
      rw [World.size_alloc] at r1
      have hBt : Below w.heap.size w ((w3.alloc (.cells #[.int .i64 27] 3)).alloc (.cells #[.int .i64 (1 + ov)] 3)) := (hB3.alloc hB3.size _).alloc (Nat.le_trans hB3.size (by simp)) _
      clear HB
      go_wp2_with fail
      refine (HC.out _).mono ?_
      clear z0 z1 z2 z3 z4 z5
      rintro e w9 ⟨rfl, hb9⟩
      have s0 := r0.below hb9 r0.lt
      have s1 := r1.below hb9 r1.lt
      have hB9 := hBt.trans (hb9.mono hBt.size)
      have t0 := ((s0.alloc (.cells #[.int .i64 ch] 3)).alloc (.cells #[.slice (some ⟨w3.heap.size, 0, none⟩) 1 1, .slice (some ⟨w3.heap.size + 1, 0, none⟩) 1 1, .slice (some ⟨w9.heap.size, 0, none⟩) 1 1] 56)).alloc (.cells #[.int .i64 1, .int .u8 0, .slice (some ⟨w9.heap.size + 1, 0, none⟩) 3 3, .string ⟨#[]⟩, .int .u8 126, .string ⟨#[]⟩] 52)
      have t1 := ((s1.alloc (.cells #[.int .i64 ch] 3)).alloc (.cells #[.slice (some ⟨w3.heap.size, 0, none⟩) 1 1, .slice (some ⟨w3.heap.size + 1, 0, none⟩) 1 1, .slice (some ⟨w9.heap.size, 0, none⟩) 1 1] 56)).alloc (.cells #[.int .i64 1, .int .u8 0, .slice (some ⟨w9.heap.size + 1, 0, none⟩) 3 3, .string ⟨#[]⟩, .int .u8 126, .string ⟨#[]⟩] 52)
      have t2 := ((Blk.new w9 3 #[.int .i64 ch]).alloc (.cells #[.slice (some ⟨w3.heap.size, 0, none⟩) 1 1, .slice (some ⟨w3.heap.size + 1, 0, none⟩) 1 1, .slice (some ⟨w9.heap.size, 0, none⟩) 1 1] 56)).alloc (.cells #[.int .i64 1, .int .u8 0, .slice (some ⟨w9.heap.size + 1, 0, none⟩) 3 3, .string ⟨#[]⟩, .int .u8 126, .string ⟨#[]⟩] 52)
      have t3 := (Blk.new (w9.alloc (.cells #[.int .i64 ch] 3)) 56 #[.slice (some ⟨w3.heap.size, 0, none⟩) 1 1, .slice (some ⟨w3.heap.size + 1, 0, none⟩) 1 1, .slice (some ⟨w9.heap.size, 0, none⟩) 1 1]).alloc (.cells #[.int .i64 1, .int .u8 0, .slice (some ⟨w9.heap.size + 1, 0, none⟩) 3 3, .string ⟨#[]⟩, .int .u8 126, .string ⟨#[]⟩] 52)
      rw [World.size_alloc] at t3
      have hrp := rdp_three t3 t0 t1 t2
      have hBx : Below w.heap.size w (((w9.alloc (.cells #[.int .i64 ch] 3)).alloc (.cells #[.slice (some ⟨w3.heap.size, 0, none⟩) 1 1, .slice (some ⟨w3.heap.size + 1, 0, none⟩) 1 1, .slice (some ⟨w9.heap.size, 0, none⟩) 1 1] 56)).alloc (.cells #[.int .i64 1, .int .u8 0, .slice (some ⟨w9.heap.size + 1, 0, none⟩) 3 3, .string ⟨#[]⟩, .int .u8 126, .string ⟨#[]⟩] 52)) := ((hB9.alloc hB9.size _).alloc (Nat.le_trans hB9.size (by simp)) _).alloc (Nat.le_trans hB9.size (by simp; omega)) _
      clear s0 s1 r0 r1 hBt hb9 hB9 t0 t1 t2 t3
      go_wp2_with fail
      refine (rput_sqn (kind := 1) (f := 126) (l := [27, 1 + ov, ch]) (n := 3) rfl (by decide) (by decide) (by decide) _ _ _ hrp).mono ?_
      rintro e wa ⟨⟨C, d2, mm, rfl, hrC⟩, hbC⟩
      obtain ⟨nn, hnn⟩ : ∃ x, (seqB 1 126 [27, 1 + ov, ch]).length = x := ⟨_, rfl⟩
      have HNN := Lib.hid hnn
      rw [hnn]
      clear hnn hrp
      go_wp2_with fail
      refine bodyPost_ret (v := .tuple #[.slice C nn d2, .bool true]) (by simp [results, Tryz.results10, go_sem]) rfl (OutG.yes HE.out HNN.out.symm hrC (hBx.trans (hbC.mono hBx.size)))
    by_cases hk2 : K = 2
    · subst hk2
      by_cases z0 : ov = 0
      · subst z0
        have HE := Lib.hid (show b = false by rw [← HB.out]; simp [isG, t3])
        clear HB
        go_wp2_with fail
        refine bodyPost_ret (v := .tuple #[.slice none 0 0, .bool false]) (by simp [results, Tryz.results10, go_sem]) rfl (OutG.no HE.out hB3)
      have t0 : (ov == 0) = false := beq_false_of_ne z0
      clear z0
      have HE := Lib.hid (show b = true by rw [← HB.out]; simp [isG, t3, t0])
      have z0 : ∀ o1 o2, ((w3.alloc o1).alloc o2).cell? ⟨w.heap.size + 1, 0, none⟩ = some (.int .i64 code) := fun o1 o2 => ((q3.alloc o1).alloc o2).cell 0
      have z1 : ∀ o1 o2, ((w3.alloc o1).alloc o2).cell? ⟨w.heap.size + 1, 1, none⟩ = some (.int .i64 mods) := fun o1 o2 => ((q3.alloc o1).alloc o2).cell 1
      have z2 : ∀ o1 o2, ((w3.alloc o1).alloc o2).cell? ⟨w.heap.size + 1, 2, none⟩ = some (.int .i64 typ) := fun o1 o2 => ((q3.alloc o1).alloc o2).cell 2
      have z3 : ∀ o1 o2, ((w3.alloc o1).alloc o2).cell? ⟨w.heap.size + 1, 3, none⟩ = some (.int .i64 shift) := fun o1 o2 => ((q3.alloc o1).alloc o2).cell 3
      have z4 : ∀ o1 o2, ((w3.alloc o1).alloc o2).cell? ⟨w.heap.size + 1, 4, none⟩ = some (.int .i64 base) := fun o1 o2 => ((q3.alloc o1).alloc o2).cell 4
      have z5 : ∀ o1 o2, ((w3.alloc o1).alloc o2).cell? ⟨w.heap.size + 1, 5, none⟩ = some (.string text) := fun o1 o2 => ((q3.alloc o1).alloc o2).cell 5
      have r0 := (Blk.new w3 3 #[.int .i64 27]).alloc (.cells #[.int .i64 (1 + ov)] 3)
      have r1 := Blk.new (w3.alloc (.cells #[.int .i64 27] 3)) 3 #[.int .i64 (1 + ov)]
      rw [World.size_alloc] at r1
      have hBt : Below w.heap.size w ((w3.alloc (.cells #[.int .i64 27] 3)).alloc (.cells #[.int .i64 (1 + ov)] 3)) := (hB3.alloc hB3.size _).alloc (Nat.le_trans hB3.size (by simp)) _
      clear HB
      go_wp2_with fail
      refine (HC.out _).mono ?_
      clear z0 z1 z2 z3 z4 z5
      rintro e w9 ⟨rfl, hb9⟩
      have s0 := r0.below hb9 r0.lt
      have s1 := r1.below hb9 r1.lt
      have hB9 := hBt.trans (hb9.mono hBt.size)
      have t0 := ((s0.alloc (.cells #[.int .i64 ch] 3)).alloc (.cells #[.slice (some ⟨w3.heap.size, 0, none⟩) 1 1, .slice (some ⟨w3.heap.size + 1, 0, none⟩) 1 1, .slice (some ⟨w9.heap.size, 0, none⟩) 1 1] 56)).alloc (.cells #[.int .i64 1, .int .u8 0, .slice (some ⟨w9.heap.size + 1, 0, none⟩) 3 3, .string ⟨#[]⟩, .int .u8 126, .string ⟨#[]⟩] 52)
      have t1 := ((s1.alloc (.cells #[.int .i64 ch] 3)).alloc (.cells #[.slice (some ⟨w3.heap.size, 0, none⟩) 1 1, .slice (some ⟨w3.heap.size + 1, 0, none⟩) 1 1, .slice (some ⟨w9.heap.size, 0, none⟩) 1 1] 56)).alloc (.cells #[.int .i64 1, .int .u8 0, .slice (some ⟨w9.heap.size + 1, 0, none⟩) 3 3, .string ⟨#[]⟩, .int .u8 126, .string ⟨#[]⟩] 52)
      have t2 := ((Blk.new w9 3 #[.int .i64 ch]).alloc (.cells #[.slice (some ⟨w3.heap.size, 0, none⟩) 1 1, .slice (some ⟨w3.heap.size + 1, 0, none⟩) 1 1, .slice (some ⟨w9.heap.size, 0, none⟩) 1 1] 56)).alloc (.cells #[.int .i64 1, .int .u8 0, .slice (some ⟨w9.heap.size + 1, 0, none⟩) 3 3, .string ⟨#[]⟩, .int .u8 126, .string ⟨#[]⟩] 52)
      have t3 := (Blk.new (w9.alloc (.cells #[.int .i64 ch] 3)) 56 #[.slice (some ⟨w3.heap.size, 0, none⟩) 1 1, .slice (some ⟨w3.heap.size + 1, 0, none⟩) 1 1, .slice (some ⟨w9.heap.size, 0, none⟩) 1 1]).alloc (.cells #[.int .i64 1, .int .u8 0, .slice (some ⟨w9.heap.size + 1, 0, none⟩) 3 3, .string ⟨#[]⟩, .int .u8 126, .string ⟨#[]⟩] 52)
      rw [World.size_alloc] at t3
      have hrp := rdp_three t3 t0 t1 t2
      have hBx : Below w.heap.size w (((w9.alloc (.cells #[.int .i64 ch] 3)).alloc (.cells #[.slice (some ⟨w3.heap.size, 0, none⟩) 1 1, .slice (some ⟨w3.heap.size + 1, 0, none⟩) 1 1, .slice (some ⟨w9.heap.size, 0, none⟩) 1 1] 56)).alloc (.cells #[.int .i64 1, .int .u8 0, .slice (some ⟨w9.heap.size + 1, 0, none⟩) 3 3, .string ⟨#[]⟩, .int .u8 126, .string ⟨#[]⟩] 52)) := ((hB9.alloc hB9.size _).alloc (Nat.le_trans hB9.size (by simp)) _).alloc (Nat.le_trans hB9.size (by simp; omega)) _
      clear s0 s1 r0 r1 hBt hb9 hB9 t0 t1 t2 t3
      go_wp2_with fail
      refine (rput_sqn (kind := 1) (f := 126) (l := [27, 1 + ov, ch]) (n := 3) rfl (by decide) (by decide) (by decide) _ _ _ hrp).mono ?_
      rintro e wa ⟨⟨C, d2, mm, rfl, hrC⟩, hbC⟩
      obtain ⟨nn, hnn⟩ : ∃ x, (seqB 1 126 [27, 1 + ov, ch]).length = x := ⟨_, rfl⟩
      have HNN := Lib.hid hnn
      rw [hnn]
      clear hnn hrp
      go_wp2_with fail
      refine bodyPost_ret (v := .tuple #[.slice C nn d2, .bool true]) (by simp [results, Tryz.results10, go_sem]) rfl (OutG.yes HE.out HNN.out.symm hrC (hBx.trans (hbC.mono hBx.size)))
    have u1 : (K == 1) = false := beq_false_of_ne hk1
    have u2 : (K == 2) = false := beq_false_of_ne hk2
    have u3 : (K != 1) = true := by simp [bne, u1]
    have u4 : (K != 2) = true := by simp [bne, u2]
    clear hk1 hk2
    have HE := Lib.hid (show b = false by rw [← HB.out]; simp [isG, t3, u1, u3, u4])
    clear HB
    go_wp2_with fail
    refine bodyPost_ret (v := .tuple #[.slice none 0 0, .bool false]) (by simp [results, Tryz.results10, go_sem]) rfl (OutG.no HE.out hB3)
  have t92 : (m9 == 2) = false := beq_false_of_ne h9
  have n92 : (m9 != 2) = true := by simp [bne, t92]
  clear h9
  have HE := Lib.hid (show b = false by rw [← HB.out]; simp [isG, t3, t91, n91, n92])
  clear HB
  go_wp2_with fail
  refine bodyPost_ret (v := .tuple #[.slice none 0 0, .bool false]) (by simp [results, Tryz.results10, go_sem]) rfl (OutG.no HE.out hB3)
end Go.Proofs.YtmagokkegadmiaaGreatDoor
namespace Go.Proofs.YtmagokkegadmiaaGreatDoor
open Go.RowKit

variable {Inv : World → Prop}
set_option maxRecDepth 100000 in
set_option maxHeartbeats 8000000 in
theorem otherBacks_walk (H : OthC Inv) (A : Option Addr) (l : List UInt8) (c : Nat) (hlc : l.length ≤ c) (w : World) (hr : Rd w A (bs l)) (hv : Inv w) :
    Calls Tryz.prog 4 #[.slice A l.length c] w fun e w' => e = .returned (.bool true) ∧ Below w.heap.size w w' := by
  obtain ⟨n, hn⟩ : ∃ n, l.length = n := ⟨_, rfl⟩
  have HN := Lib.hid hn
  rw [hn] at hlc ⊢
  clear hn
  have HLC := Lib.hid hlc
  clear hlc
  go_enter Tryz.func4, Tryz.ntmps4
  go_wp2_with fail
  refine (othAwake H _ hv).mono ?_
  rintro e w1 ⟨rfl, hb1⟩
  have hv1 := H.invB hv hb1
  have hr1 := hr.below hb1
  clear hr
  by_cases h : 100 < n
  · have t1 : decide (100 < (n : Int)) = true := decide_eq_true (by omega)
    clear h
    go_wp2_with fail
    go_ret
    exact ⟨rfl, hb1⟩
  · have t1 : decide (100 < (n : Int)) = false := decide_eq_false (by omega)
    have HSM := Lib.hid (show n ≤ 100 by omega)
    clear h
    obtain ⟨⟨x, y, q⟩, hx⟩ : ∃ x, backO l = x := ⟨_, rfl⟩
    have hk := H.back_at A c l hx w1 hv1 HN.out HLC.out (by have := HSM.out; omega) hr1
    go_wp2_with fail
    refine hk.mono ?_
    clear hk
    rintro e w2 ⟨rfl, hb2⟩
    have hB2 := hb1.trans (hb2.mono hb1.size)
    have hk2 := rback_any A n c l w2 HN.out HLC.out (by have := HSM.out; omega) (hr1.below hb2)
    rw [hx] at hk2
    have hk3 : Calls Tryz.prog 12 #[.slice A n c] w2 fun e w' => e = .returned (.tuple #[.int .i64 x, .int .i64 y, .bool q]) ∧ Below w2.heap.size w2 w' := hk2
    clear hk2 hx hr1 hb1 hb2
    go_wp2_with fail
    refine hk3.mono ?_
    clear hk3
    rintro e w3 ⟨rfl, hb3⟩
    go_wp2_with fail
    go_ret
    exact ⟨ret_b (by simp), hB2.trans (hb3.mono hB2.size)⟩
set_option maxRecDepth 100000 in
set_option maxHeartbeats 8000000 in
theorem otherTells_walk (H : OthC Inv) (m : Mo) (_ : okM m) (k : Ky) (hk : okK k) (hs : k.text.size ≤ maxLen) (w : World) (hv : Inv w) : Calls Tryz.prog 3 #[moV m, kyV k] w fun e w' => e = .returned (.bool true) ∧ Below w.heap.size w w' := by
  obtain ⟨L, hL⟩ : ∃ L, othL m.other k = L := ⟨_, rfl⟩
  obtain ⟨q, hq⟩ : ∃ q, isO m.other k = q := ⟨_, rfl⟩
  obtain ⟨n, hn⟩ : ∃ n, L.length = n := ⟨_, rfl⟩
  have HKA0 : Hid (k.text.size ≤ 4294967296 → ∀ W, Inv W → Calls Tryz.prog 9 #[moV m, kyV k] W (OutC L n q W)) := Lib.hid fun h W hW => H.key_at m k rfl hL hn hq hk h W hW
  have HKB0 : Hid (k.text.size ≤ 4294967296 → ∀ W, Calls Tryz.prog 10 #[moV m, kyV k] W (OutB L n q W)) := Lib.hid fun h W => by
    have := rkey12_any m k hk h W
    rw [hL, hq, hn] at this
    exact this
  have HN := Lib.hid hn
  clear hL hk hq hn
  simp only [moV, kyV] at HKA0 HKB0 ⊢
  obtain ⟨code, mods, typ, shift, base, text⟩ := k
  obtain ⟨m0, m1, m2, m3, m4, m5, m6, m7, m8, m9⟩ := m
  have hB : Below w.heap.size w ((w.alloc (.cells #[.bool m0, .bool m1, .bool m2, .bool m3, .bool m4, .bool m5, .bool m6, .int .i64 m7, .int .i64 m8, .int .i64 m9] 23)).alloc (.cells #[.int .i64 code, .int .i64 mods, .int .i64 typ, .int .i64 shift, .int .i64 base, .string text] 25)) := ((Below.refl _ w).alloc (Nat.le_refl _) _).alloc (by simp) _
  have a0 := (Blk.new w 23 #[.bool m0, .bool m1, .bool m2, .bool m3, .bool m4, .bool m5, .bool m6, .int .i64 m7, .int .i64 m8, .int .i64 m9]).alloc (.cells #[.int .i64 code, .int .i64 mods, .int .i64 typ, .int .i64 shift, .int .i64 base, .string text] 25)
  have b0 := Blk.new (w.alloc (.cells #[.bool m0, .bool m1, .bool m2, .bool m3, .bool m4, .bool m5, .bool m6, .int .i64 m7, .int .i64 m8, .int .i64 m9] 23)) 25 #[.int .i64 code, .int .i64 mods, .int .i64 typ, .int .i64 shift, .int .i64 base, .string text]
  rw [World.size_alloc] at b0
  have hv0 := H.invB hv hB
  simp only at HKA0 HKB0 hs
  have HSZ := Lib.hid hs
  clear hs
  go_enter Tryz.func3, Tryz.ntmps3
  go_wp2_with fail
  refine (othAwake H _ hv0).mono ?_
  rintro e w1 ⟨rfl, hb1⟩
  have a1 := a0.below hb1 a0.lt
  have b1 := b0.below hb1 b0.lt
  have hB1 := hB.trans (hb1.mono hB.size)
  have hv1 := H.invB hv hB1
  clear hv0 a0 b0 hB hb1
  have c5 := b1.cell 5
  have hsz : (text.size : Int) ≤ 9223372036854775807 := by
    have := HSZ.out
    simp only [maxLen] at this
    omega
  by_cases h : 100 < text.size
  · have t1 : decide (100 < (text.size : Int)) = true := decide_eq_true (by omega)
    clear h
    go_wp2_with fail
    go_ret
    exact ⟨rfl, hB1⟩
  · have t1 : decide (100 < (text.size : Int)) = false := decide_eq_false (by omega)
    have HKA := Lib.hid (HKA0.out (by omega))
    have HKB := Lib.hid (HKB0.out (by omega))
    clear h HKA0 HKB0
    obtain ⟨x0, x1, x2, x3, x4, x5, x6, x7, x8, x9⟩ := Blk.cells10 a1
    obtain ⟨y0, y1, y2, y3, y4, y5⟩ := Blk.cells6 b1
    go_wp2_with fail
    refine (HKA.out _ hv1).mono ?_
    rintro e w2 ⟨A2, d2, rfl, _, hr2, hb2⟩
    have a2 := a1.below hb2 a1.lt
    have b2 := b1.below hb2 b1.lt
    have hB2 := hB1.trans (hb2.mono hB1.size)
    clear x0 x1 x2 x3 x4 x5 x6 x7 x8 x9 y0 y1 y2 y3 y4 y5 a1 b1 hB1 hb2 c5 hv1
    obtain ⟨x0, x1, x2, x3, x4, x5, x6, x7, x8, x9⟩ := Blk.cells10 a2
    obtain ⟨y0, y1, y2, y3, y4, y5⟩ := Blk.cells6 b2
    go_wp2_with fail
    refine (HKB.out _).mono ?_
    rintro e w3 ⟨A3, d3, rfl, hr3, hb3⟩
    have s2 := str_bs (c := d2) HN.out (hr2.below hb3)
    have s3 := str_bs (c := d3) HN.out hr3
    have hB3 := hB2.trans (hb3.mono hB2.size)
    clear x0 x1 x2 x3 x4 x5 x6 x7 x8 x9 y0 y1 y2 y3 y4 y5 a2 b2 hB2 hb3 hr2 hr3
    go_wp2_with fail
    go_ret
    exact ⟨ret_b (by simp), hB3⟩
end Go.Proofs.YtmagokkegadmiaaGreatDoor
namespace Go.Proofs.YtmagokkegadmiaaGreatDoor
open Go.RowKit

variable {Inv : World → Prop}
set_option maxRecDepth 100000 in
set_option maxHeartbeats 16000000 in
theorem otherSame_walk (H : OthC Inv) (k : Ky) (hk : okK k) (hs : k.text.size ≤ 4294967296) (j : Ky) (hj : okK j) (hsj : j.text.size ≤ 4294967296) (w : World) (hv : Inv w) : Calls Tryz.prog 6 #[kyV k, kyV j] w fun e w' => e = .returned (.bool true) ∧ Below w.heap.size w w' := by
  obtain ⟨L, hL⟩ : ∃ L, othL 2 k = L := ⟨_, rfl⟩
  obtain ⟨q, hq⟩ : ∃ q, isO 2 k = q := ⟨_, rfl⟩
  obtain ⟨n, hn⟩ : ∃ n, L.length = n := ⟨_, rfl⟩
  obtain ⟨v, hmv⟩ : ∃ v, mayK k = v := ⟨_, rfl⟩
  obtain ⟨ch, hch⟩ : ∃ v, charK k = v := ⟨_, rfl⟩
  obtain ⟨ov, hov⟩ : ∃ v, oldN k.mods = v := ⟨_, rfl⟩
  obtain ⟨L2, hL2⟩ : ∃ L, othL 2 j = L := ⟨_, rfl⟩
  obtain ⟨q2, hq2⟩ : ∃ q, isO 2 j = q := ⟨_, rfl⟩
  obtain ⟨n2, hn2⟩ : ∃ n, L2.length = n := ⟨_, rfl⟩
  obtain ⟨v2, hmv2⟩ : ∃ v, mayK j = v := ⟨_, rfl⟩
  obtain ⟨ch2, hch2⟩ : ∃ v, charK j = v := ⟨_, rfl⟩
  obtain ⟨ov2, hov2⟩ : ∃ v, oldN j.mods = v := ⟨_, rfl⟩
  have HNL : Hid (n ≤ 20000 ∧ n2 ≤ 20000) := Lib.hid (by rw [← hn, ← hL, ← hn2, ← hL2]; exact ⟨oth_len _ _, oth_len _ _⟩)
  have HK1 : Hid (∀ W, Inv W → Calls Tryz.prog 9 #[moV { mo0 with other := 2 }, kyV k] W (OutC L n q W)) := Lib.hid fun W hW => H.key_at { mo0 with other := 2 } k rfl hL hn hq hk hs W hW
  have HK2 : Hid (∀ W, Inv W → Calls Tryz.prog 9 #[moV { mo0 with other := 2 }, kyV j] W (OutC L2 n2 q2 W)) := Lib.hid fun W hW => H.key_at { mo0 with other := 2 } j rfl hL2 hn2 hq2 hj hsj W hW
  have HM1 : Hid (∀ W, Calls Tryz.prog 13 #[kyV k] W fun e w' => e = .returned (.bool v) ∧ Below W.heap.size W w') := Lib.hid fun W => by rw [← hmv]; exact rmay10_any k hs W
  have HM2 : Hid (∀ W, Calls Tryz.prog 13 #[kyV j] W fun e w' => e = .returned (.bool v2) ∧ Below W.heap.size W w') := Lib.hid fun W => by rw [← hmv2]; exact rmay10_any j hsj W
  have HB1 : Hid (q = true → backO L = (ch, ov, true)) := Lib.hid fun h => by rw [h] at hq; rw [← hL, back_is hq, hch, hov]
  have HB2 : Hid (q2 = true → backO L2 = (ch2, ov2, true)) := Lib.hid fun h => by rw [h] at hq2; rw [← hL2, back_is hq2, hch2, hov2]
  have HSM : Hid (q = true → q2 = true → (L = L2 ↔ ch = ch2 ∧ ov = ov2)) := Lib.hid fun h h2 => by
    rw [h] at hq
    rw [h2] at hq2
    have := oth_same hq hq2
    rw [hL, hL2, hch, hch2, hov, hov2] at this
    exact this
  have HN := Lib.hid hn
  have HN2 := Lib.hid hn2
  clear hL hq hn hmv hch hov hL2 hq2 hn2 hmv2 hch2 hov2 hk hs hj hsj
  simp only [moV, mo0, kyV] at HK1 HK2 HM1 HM2 ⊢
  obtain ⟨code, mods, typ, shift, base, text⟩ := k
  obtain ⟨code2, mods2, typ2, shift2, base2, text2⟩ := j
  simp only at HK1 HK2 HM1 HM2
  have hB : Below w.heap.size w ((w.alloc (.cells #[.int .i64 code, .int .i64 mods, .int .i64 typ, .int .i64 shift, .int .i64 base, .string text] 25)).alloc (.cells #[.int .i64 code2, .int .i64 mods2, .int .i64 typ2, .int .i64 shift2, .int .i64 base2, .string text2] 25)) := ((Below.refl _ w).alloc (Nat.le_refl _) _).alloc (by simp) _
  have a0 := (Blk.new w 25 #[.int .i64 code, .int .i64 mods, .int .i64 typ, .int .i64 shift, .int .i64 base, .string text]).alloc (.cells #[.int .i64 code2, .int .i64 mods2, .int .i64 typ2, .int .i64 shift2, .int .i64 base2, .string text2] 25)
  have b0 := Blk.new (w.alloc (.cells #[.int .i64 code, .int .i64 mods, .int .i64 typ, .int .i64 shift, .int .i64 base, .string text] 25)) 25 #[.int .i64 code2, .int .i64 mods2, .int .i64 typ2, .int .i64 shift2, .int .i64 base2, .string text2]
  rw [World.size_alloc] at b0
  have hv0 := H.invB hv hB
  go_enter Tryz.func6, Tryz.ntmps6
  go_wp2_with fail
  refine (othAwake H _ hv0).mono ?_
  rintro e w1 ⟨rfl, hb1⟩
  have a1 := a0.below hb1 a0.lt
  have b1 := b0.below hb1 b0.lt
  have hB1 := hB.trans (hb1.mono hB.size)
  clear hv0 a0 b0 hB hb1
  obtain ⟨x0, x1, x2, x3, x4, x5⟩ := Blk.cells6 a1
  go_wp2_with fail
  refine (HM1.out _).mono ?_
  rintro e w2 ⟨rfl, hb2⟩
  have a2 := a1.below hb2 a1.lt
  have b2 := b1.below hb2 b1.lt
  have hB2 := hB1.trans (hb2.mono hB1.size)
  clear a1 b1 hB1 hb2 x0 x1 x2 x3 x4 x5 HM1
  cases v with
  | false =>
    go_wp2_with fail
    go_ret
    exact ⟨rfl, hB2⟩
  | true =>
  obtain ⟨y0, y1, y2, y3, y4, y5⟩ := Blk.cells6 b2
  go_wp2_with fail
  refine (HM2.out _).mono ?_
  rintro e w3 ⟨rfl, hb3⟩
  have a3 := a2.below hb3 a2.lt
  have b3 := b2.below hb3 b2.lt
  have hB3 := hB2.trans (hb3.mono hB2.size)
  clear a2 b2 hB2 hb3 y0 y1 y2 y3 y4 y5 HM2
  cases v2 with
  | false =>
    go_wp2_with fail
    go_ret
    exact ⟨rfl, hB3⟩
  | true =>
  have a4 := a3.alloc (.cells #[.bool false, .bool false, .bool false, .bool false, .bool false, .bool false, .bool false, .int .i64 0, .int .i64 0, .int .i64 2] 23)
  have b4 := b3.alloc (.cells #[.bool false, .bool false, .bool false, .bool false, .bool false, .bool false, .bool false, .int .i64 0, .int .i64 0, .int .i64 2] 23)
  have m4 := Blk.new w3 23 #[.bool false, .bool false, .bool false, .bool false, .bool false, .bool false, .bool false, .int .i64 0, .int .i64 0, .int .i64 2]
  have hB4 := hB3.alloc hB3.size (.cells #[.bool false, .bool false, .bool false, .bool false, .bool false, .bool false, .bool false, .int .i64 0, .int .i64 0, .int .i64 2] 23)
  go_upto_region 5 with (fail)
  generalize hW4 : w3.alloc (.cells #[.bool false, .bool false, .bool false, .bool false, .bool false, .bool false, .bool false, .int .i64 0, .int .i64 0, .int .i64 2] 23) = W4 at *
  clear hW4 a3 b3 hB3
  obtain ⟨x0, x1, x2, x3, x4, x5⟩ := Blk.cells6 a4
  obtain ⟨c0, c1, c2, c3, c4, c5, c6, c7, c8, c9⟩ := Blk.cells10 m4
  go_wp2_with fail
  refine (HK1.out _ (H.invB hv hB4)).mono ?_
  rintro e w5 ⟨A5, d5, rfl, hd5, hr5, hb5⟩
  have b5 := b4.below hb5 b4.lt
  have m5 := m4.below hb5 m4.lt
  have hB5 := hB4.trans (hb5.mono hB4.size)
  clear a4 b4 m4 hB4 hb5 x0 x1 x2 x3 x4 x5 c0 c1 c2 c3 c4 c5 c6 c7 c8 c9 HK1
  obtain ⟨y0, y1, y2, y3, y4, y5⟩ := Blk.cells6 b5
  obtain ⟨c0, c1, c2, c3, c4, c5, c6, c7, c8, c9⟩ := Blk.cells10 m5
  go_wp2_with fail
  refine (HK2.out _ (H.invB hv hB5)).mono ?_
  rintro e w6 ⟨A6, d6, rfl, hd6, hr6, hb6⟩
  have hr56 := hr5.below hb6
  have hB6 := hB5.trans (hb6.mono hB5.size)
  clear b5 m5 hB5 hb6 hr5 y0 y1 y2 y3 y4 y5 c0 c1 c2 c3 c4 c5 c6 c7 c8 c9 HK2
  cases q with
  | false =>
    go_wp2_with fail
    go_ret
    exact ⟨rfl, hB6⟩
  | true =>
  cases q2 with
  | false =>
    go_wp2_with fail
    go_ret
    exact ⟨rfl, hB6⟩
  | true =>
  have hx1 := Lib.hid (HB1.out rfl)
  have hx2 := Lib.hid (HB2.out rfl)
  have HS := Lib.hid (HSM.out rfl rfl)
  clear HSM HB1 HB2
  have hk1 := H.back_at A5 d5 L hx1.out w6 (H.invB hv hB6) HN.out hd5 (by have := HNL.out; omega) hr56
  go_wp2_with fail
  refine hk1.mono ?_
  clear hk1
  rintro e w7 ⟨rfl, hb7⟩
  have hr57 := hr56.below hb7
  have hr67 := hr6.below hb7
  have hB7 := hB6.trans (hb7.mono hB6.size)
  clear hr56 hr6 hB6 hb7
  have hk2 := H.back_at A6 d6 L2 hx2.out w7 (H.invB hv hB7) HN2.out hd6 (by have := HNL.out; omega) hr67
  go_wp2_with fail
  refine hk2.mono ?_
  clear hk2
  rintro e w8 ⟨rfl, hb8⟩
  have s1 := str_bs (c := d5) HN.out (hr57.below hb8)
  have s2 := str_bs (c := d6) HN2.out (hr67.below hb8)
  have hB8 := hB7.trans (hb8.mono hB7.size)
  clear hr57 hr67 hB7 hb8 HNL hd5 hd6
  by_cases he : L = L2
  · obtain ⟨rfl, rfl⟩ := HS.out.1 he
    subst he
    go_wp2_with fail
    go_ret
    exact ⟨ret_b (by simp), hB8⟩
  · have t0 : (L == L2) = false := beq_false_of_ne he
    have HNE := Lib.hid (fun h => he (HS.out.2 h) : ¬ (ch = ch2 ∧ ov = ov2))
    clear he HS
    by_cases hc : ch = ch2
    · subst hc
      have t1 : (ov == ov2) = false := beq_false_of_ne fun h => HNE.out ⟨rfl, h⟩
      go_wp2_with fail
      go_ret
      exact ⟨ret_b (by simp), hB8⟩
    · have t1 : (ch == ch2) = false := beq_false_of_ne hc
      clear hc
      go_wp2_with fail
      go_ret
      exact ⟨ret_b (by simp), hB8⟩
end Go.Proofs.YtmagokkegadmiaaGreatDoor
