/-
  Stage 13, the landed kitty: what an event's sequence is.
-/
import Derived.Test.YtceipblcdcgljaaGreatDoorG10
import Derived.Test.YtceipblcdcgljaaGreatDoorG26
namespace Go.Proofs.YtceipblcdcgljaaGreatDoor
open Go.RowKit
def FThree (A B P : List Int) (na nb np : Nat) (v : Value) (w : World) : Prop := ∃ b A1 c1 A2 c2 A3 c3, v = .slice (some ⟨b, 0, none⟩) 3 3 ∧ Blk w b 57 #[.slice A1 na c1, .slice A2 nb c2, .slice A3 np c3] ∧ Rd w A1 (is_ A) ∧ Rd w A2 (is_ B) ∧ Rd w A3 (is_ P)
theorem fthree_ok (i : Nat) (d : Tmp) (A B P : List Int) (na nb np : Nat) : (⟨i, d, FThree A B P na nb np⟩ : Fact).ok := fun _ _ _ ⟨b, A1, c1, A2, c2, A3, c3, e, h, r1, r2, r3⟩ hb => ⟨b, A1, c1, A2, c2, A3, c3, e, h.below hb h.lt, r1.below hb, r2.below hb, r3.below hb⟩
theorem three_made {ev : Operand → Value} {o : Oper} {x y z : Operand} {A1 : Option Addr} {c1 : Nat} {A B P : List Int} {na nb np : Nat} (ho : o.op = .buildSlice 38 3 #[(0, x), (1, y), (2, z)]) (vy vz : Value) (hx : ev x = .slice A1 na c1) (hvy : ev y = vy) (hvz : ev z = vz) {w : World} (r1 : Rd w A1 (is_ A)) (h2 : FI B nb vy w) (h3 : FI P np vz w) :
 ∃ v w', (execOp ev o).run Tryz.prog w = .ok (.value v) w' ∧ FThree A B P na nb np v w' ∧ Below w.heap.size w w' := by
 obtain ⟨A2, c2, rfl, r2⟩ := h2
 obtain ⟨A3, c3, rfl, r3⟩ := h3
 have hb : Below w.heap.size w (w.alloc (.cells #[.slice A1 na c1, .slice A2 nb c2, .slice A3 np c3] 57)) := (Below.refl _ _).alloc (Nat.le_refl _) _
 refine ⟨.slice (some ⟨w.heap.size, 0, none⟩) 3 3, w.alloc (.cells #[.slice A1 na c1, .slice A2 nb c2, .slice A3 np c3] 57), ?_, ⟨_, _, _, _, _, _, _, rfl, Blk.new w _ _, r1.below hb, r2.below hb, r3.below hb⟩, hb⟩
 unfold execOp
 simp only [ho]
 rw [show Array.map (fun x => (x.fst, ev x.snd)) #[(0, x), (1, y), (2, z)] = #[(0, .slice A1 na c1), (1, .slice A2 nb c2), (2, .slice A3 np c3)] by simp [hx, hvy, hvz]]
 kernel_rfl
def FOut (L : List UInt8) (v : Value) (w : World) : Prop := ∃ A n c, v = .slice A n c ∧ L.length = n ∧ n ≤ c ∧ Rd w A (bs L)
theorem fout_ok (i : Nat) (d : Tmp) (L : List UInt8) : (⟨i, d, FOut L⟩ : Fact).ok := fun _ _ _ ⟨A, n, c, e, hn, hc, h⟩ hb => ⟨A, n, c, e, hn, hc, h.below hb⟩
theorem fout_out {L : List UInt8} {P : Program} {w : World} {f : FuncId} {args : Array Value} (h : Calls P f args w (OutC L w)) : Calls P f args w fun e w' => ∃ v, e = .returned v ∧ FOut L v w' ∧ Below w.heap.size w w' :=
 h.mono fun _ _ ⟨A, c, he, hc, hr, hb⟩ => ⟨_, he, ⟨A, _, c, rfl, rfl, hc, hr⟩, hb⟩
def fstK (n : Int) (u b4 : Bool) (O : List Int) : List Int := if (u && b4) = true then [n] ++ O else [n]
set_option maxRecDepth 100000 in
set_option maxHeartbeats 8000000 in
theorem kseq_any (k : Ky) (s K : Int) (hm : mayK k = true) (hs : k.text.size ≤ 4294967296) (f : Int) (hf : f ≤ 9223372036854775807) (hS : s = max f 0) (w : World) (hz : Siz w) (hR : Rws w) (ht : Tab w) : Calls Tryz.prog 71 #[evV13 k s K] w (OutC (putS (sqK f k)) w) := by
 obtain ⟨⟨hkd, m0, m1, y0, y1⟩, hsh, hba, hcl⟩ := (may_parts k).1 hm
 obtain ⟨ks, k1, k2, k3, k4⟩ := clean_pts hcl
 obtain ⟨⟨n, ff⟩, hnf⟩ : ∃ x, frmK k.code = x := ⟨_, rfl⟩
 have hfr := frm_rng hkd
 obtain ⟨fo1, fo2⟩ := first_ok f hm
 obtain ⟨⟨so0, so1⟩, so2⟩ := second_ok f hm
 have h4 := kip_has (d := 4) hf (by omega)
 have h2 := kip_has (d := 2) hf (by omega)
 have h16 := kip_has (d := 16) hf (by omega)
 rw [← hS] at h4 h2 h16
 obtain ⟨b4, hb4⟩ : ∃ x, flagK f 4 = x := ⟨_, rfl⟩
 obtain ⟨b2, hb2⟩ : ∃ x, flagK f 2 = x := ⟨_, rfl⟩
 obtain ⟨b16, hb16⟩ : ∃ x, flagK f 16 = x := ⟨_, rfl⟩
 rw [hb4] at h4
 rw [hb2] at h2
 rw [hb16] at h16
 obtain ⟨b1, hb1⟩ : ∃ x, hasN k.mods 1 = x := ⟨_, rfl⟩
 have h1 := kip_shift m0 m1
 rw [hb1] at h1
 obtain ⟨O, hO⟩ : ∃ O, altK k.shift k.base k.code b1 = O := ⟨_, rfl⟩
 obtain ⟨A, hA⟩ : ∃ A, firstK f k = A := ⟨_, rfl⟩
 obtain ⟨B, hB⟩ : ∃ B, secondK f k = B := ⟨_, rfl⟩
 obtain ⟨P, hP⟩ : ∃ P, thirdK f k = P := ⟨_, rfl⟩
 obtain ⟨u, hu⟩ : ∃ u, (ff == 117) = u := ⟨_, rfl⟩
 have hA2 : fstK n u b4 O = A := by
  rw [← hA, ← hO, ← hu, ← hb4, ← hb1]
  unfold fstK firstK
  rw [hnf]
  by_cases h : flagK f 4 = true ∧ ff = 117
  ·rw [if_pos h, if_pos (show (ff == 117 && flagK f 4) = true by rw [h.1, h.2]; rfl)]
   rfl
  ·rw [if_neg h, if_neg (fun e => h (by simpa [and_comm] using e))]
 have hB2 : staB b2 (k.typ != 1) (k.mods != 0) (1 + k.mods) k.typ = B := by
  rw [← hB, ← hb2]
  unfold staB secondK
  by_cases h : flagK f 2 = true ∧ k.typ ≠ 1
  ·rw [if_pos h, if_pos (by simpa using h)]
  ·rw [if_neg h, if_neg (by simpa using h)]
   by_cases hz : k.mods = 0
   ·rw [if_neg (show ¬ (k.mods ≠ 0) from fun e => e hz), if_neg (show ¬ ((k.mods != 0) = true) by simpa using hz)]
   ·rw [if_pos (show k.mods ≠ 0 from hz), if_pos (show (k.mods != 0) = true by simpa using hz)]
 have hP2 : (if (!b16 || k.typ == 3) = true then [] else ks) = P := by
  rw [← hP, ← hb16, ← pts_is k1]
  unfold thirdK
  by_cases h : flagK f 16 = false ∨ k.typ = 3
  ·rw [if_pos h, if_pos (by simpa using h)]
  ·rw [if_neg h, if_neg (by simpa using h)]
 have hpl : P.length ≤ 4294967296 := by
  rw [← hP2]
  split
  ·simp
  ·omega
 have hq : sqK f k = sq13 (trimK A B P) ff := by
  unfold sqK sq13
  rw [kip_params f hm, hA, hB, hP, hnf]
 have hms := may_kit f hm
 rw [hq] at hms
 rw [hq]
 rw [hA] at fo1
 rw [hB] at so1
 rw [hnf] at hfr
 obtain ⟨L, hL⟩ : ∃ L, putS (sq13 (trimK A B P) ff) = L := ⟨_, rfl⟩
 obtain ⟨na, hna⟩ : ∃ n, A.length = n := ⟨_, rfl⟩
 obtain ⟨nb, hnb⟩ : ∃ n, B.length = n := ⟨_, rfl⟩
 obtain ⟨np, hnp⟩ : ∃ n, P.length = n := ⟨_, rfl⟩
 obtain ⟨no, hno⟩ : ∃ n, O.length = n := ⟨_, rfl⟩
 have hol : no ≤ 2 := by
  rw [← hno, ← hO]
  exact (alt_rng (pt_rng hsh) (pt_rng hba)).1
 have HPU : Hid (∀ (b : Nat) (A1 A2 A3 : Option Addr) (c1 c2 c3 : Nat) (W : World), Below w.heap.size w W → Blk W b 57 #[.slice A1 na c1, .slice A2 nb c2, .slice A3 np c3] → Rd W A1 (is_ A) → Rd W A2 (is_ B) → Rd W A3 (is_ P) → Calls Tryz.prog 107 #[.int .u8 ff, .slice (some ⟨b, 0, none⟩) 3 3] W (OutC L W)) := Lib.hid fun b A1 A2 A3 c1 c2 c3 W hW hb r1 r2 r3 => kput_any ff (by omega) (by omega) A B P na nb np hna hnb hnp (by omega) (by omega) (by omega) _ rfl L hL _ rfl hms b A1 A2 A3 c1 c2 c3 W (ht.below hW) hb r1 r2 r3
 have HFO : Hid (∀ W, Below w.heap.size w W → Calls Tryz.prog 105 #[.int .i64 k.code] W fun e w' => e = .returned (.tuple #[.int .i64 n, .int .u8 ff]) ∧ Below W.heap.size W w') := Lib.hid fun W hW => by have := kform_any k.code W (hz.below' hW) (hR.below hW); rw [hnf] at this; exact this
 have HST : Hid (∀ W, Calls Tryz.prog 108 #[evV13 k s K] W (OutJ B nb W)) := Lib.hid fun W => kstate_any k s K m0 m1 b2 h2 B hB2 nb hnb W
 have HPT : Hid (∀ W, Below w.heap.size w W → Calls Tryz.prog 109 #[evV13 k s K] W (OutJ P np W)) := Lib.hid fun W hW => kpoints_any k s K hs b16 h16 ks k1 P hP2 np hnp W (hz.below' hW)
 have HOT : Hid (∀ W, Calls Tryz.prog 106 #[evV13 k s K] W (OutJ O no W)) := Lib.hid fun W => kothers_any k s K (pt_rng hsh).1 b1 h1 O hO no hno W
 have H4 : Hid (∀ W, Calls Tryz.prog 68 #[.int .i64 s, .int .i64 4] W fun e w' => e = .returned (.bool b4) ∧ Below W.heap.size W w') := Lib.hid fun W => khas_any s 4 b4 h4 W
 rw [hL]
 have HA := Lib.hid hA2
 have HNA := Lib.hid hna
 have HNO := Lib.hid hno
 clear hkd m0 m1 y0 y1 hsh hba hcl k1 k2 k3 k4 hnf hfr fo1 fo2 so0 so1 so2 h4 h2 h16 hb4 hb2 hb16 hb1 h1 hO hA hB hP hA2 hB2 hP2 hpl hq hms hL hna hnb hnp hno hS hf hm hs hz hR ht
 obtain ⟨code, mods, typ, shift, base, text⟩ := k
 simp only [evV13] at HFO HST HPT HOT ⊢
 have k0 := Blk.new w 95 #[.int .i64 code, .int .i64 mods, .int .i64 typ, .int .i64 shift, .int .i64 base, .string text, .int .i64 s, .int .i64 K]
 have hB0 : Below w.heap.size w (w.alloc (.cells #[.int .i64 code, .int .i64 mods, .int .i64 typ, .int .i64 shift, .int .i64 base, .string text, .int .i64 s, .int .i64 K] 95)) := (Below.refl _ _).alloc (Nat.le_refl _) _
 obtain ⟨a0, a1, a2, a3, a4, a5, a6, a7⟩ := Blk.cells8 k0
 go_enter Tryz.func71, Tryz.ntmps71
 go_wp2_with fail
 refine (HFO.out _ hB0).mono ?_
 rintro e w1 ⟨rfl, hb1⟩
 have k1 := k0.below hb1 k0.lt
 have hB1 := hB0.trans (hb1.mono hB0.size)
 clear k0 hB0 hb1 HFO a0 a1 a2 a3 a4 a5 a6 a7
 have k2 := k1.alloc (.cells #[.int .i64 n] 3)
 have hB2 := hB1.alloc hB1.size (.cells #[.int .i64 n] 3)
 have o2 := own_lit (w1.alloc (.cells #[.int .i64 n] 3)) w.heap.size 3 w1.heap.size (.int .i64 n) hB1.size (by simpa using heap_alloc_new w1 (.cells #[.int .i64 n] 3))
 have qc2 : Rd (w1.alloc (.cells #[.int .i64 n] 3)) (some ⟨w1.heap.size, 0, none⟩) [.int .i64 n] := Rd.block (heap_alloc_new w1 _) rfl
 obtain ⟨w2, hw2⟩ : ∃ W, w1.alloc (.cells #[.int .i64 n] 3) = W := ⟨_, rfl⟩
 rw [hw2] at k2 hB2 o2 qc2
 go_upto_region 3 with (fail)
 try rw [hw2]
 clear hw2
 obtain ⟨a0, a1, a2, a3, a4, a5, a6, a7⟩ := Blk.cells8 k2
 cases u with
 | true =>
   go_wp2_with fail
   refine (H4.out _).mono ?_
   rintro e w3 ⟨rfl, hb3⟩
   have k3 := k2.below hb3 k2.lt
   have hB3 := hB2.trans (hb3.mono hB2.size)
   have o3 := o2.below hb3 (fun k hk => (o2.lt k hk).2)
   have qc3 := qc2.below hb3
   clear k2 hB2 hb3 o2 qc2 a0 a1 a2 a3 a4 a5 a6 a7
   cases b4 with
   | true =>
     obtain ⟨a0, a1, a2, a3, a4, a5, a6, a7⟩ := Blk.cells8 k3
     go_wp2_with fail
     refine (HOT.out _).mono ?_
     rintro e w4 ⟨A4, c4, rfl, hr4, hb4⟩
     have k4 := k3.below hb4 k3.lt
     have hB4 := hB3.trans (hb4.mono hB3.size)
     have o4 := o3.below hb4 (fun k hk => (o3.lt k hk).2)
     clear k3 hB3 hb4 o3 qc3 HOT a0 a1 a2 a3 a4 a5 a6 a7
     have ps := hB4.size
     have p6 : 1 + no ≤ maxLen := by have : no ≤ 2 := hol; simp only [maxLen]; omega
     have p7 : (1 + no) * 8 ≤ 140737488355328 := by omega
     have p8 : ∀ u ∈ is_ O, u.oneCell' = true := fun u hu => by
      obtain ⟨x, _, rfl⟩ := List.mem_map.1 hu
      rfl
     have p9 : (is_ O).length = no * 1 := by rw [is_length, HNO.out, Nat.mul_one]
     obtain ⟨i0, hi, hz0, hz1, hz2⟩ : ∃ i, Tryz.prog.info? 3 = some i ∧ i.zero = some (.int .i64 0) ∧ i.size = 1 ∧ i.bytes = 8 := ⟨_, rfl, rfl, rfl, rfl⟩
     obtain rfl : na = 1 + no := by rw [← HNA.out, ← HA.out, ← HNO.out]; show (n :: O).length = 1 + O.length; rw [List.length_cons]; omega
     go_wp2_with (at_builtin; refine list_app _ rfl (.tmp 22) (.tmp 24) 57 rfl w.heap.size 3 i0 _ 1 8 Tryz.underlying57 hi hz0 hz1 hz2 rfl Nat.one_pos _ _ _ rfl o4 _ no _ (is_ O) rfl p9 hr4 p8 p6 p7 ps ?_; intro v5 w5 o5 hg; have hB5 := hB4.grown hg ps (fun g hg => (o4.lt g hg).1); have k5 := k4.grown hg (o4.no_cells k4 (by decide)); obtain ⟨Ac, cc, rfl, hrc⟩ := o5.form; clear hg o5 o4 k4 hB4 hr4 p6 p7 p8 p9 ps)
     have hrc : Rd w5 Ac (is_ A) := by rw [← HA.out]; exact hrc
     clear HA HNA H4 HNO hi hz0 hz1 hz2
     have le : ∀ W, Below w5.heap.size w5 W → Blk W w.heap.size 95 #[.int .i64 code, .int .i64 mods, .int .i64 typ, .int .i64 shift, .int .i64 base, .string text, .int .i64 s, .int .i64 K] := fun W hW => k5.below hW k5.lt
     have rc : ∀ W, Below w5.heap.size w5 W → Rd W Ac (is_ A) := fun W hW => hrc.below hW
     have hst : ∀ f ∈ ([⟨3, 29, FI B nb⟩, ⟨5, 31, FI P np⟩, ⟨6, 32, FThree A B P (1 + no) nb np⟩, ⟨7, 33, FOut L⟩, ⟨8, 2, FOut L⟩] : List Fact), f.ok := List.forall_mem_cons.2 ⟨fi_ok _ _ _ _, List.forall_mem_cons.2 ⟨fi_ok _ _ _ _, List.forall_mem_cons.2 ⟨fthree_ok _ _ _ _ _ _ _ _, List.forall_mem_cons.2 ⟨fout_ok _ _ _, List.forall_mem_cons.2 ⟨fout_ok _ _ _, fun _ h => by cases h⟩⟩⟩⟩⟩
     go_wp2_with fail
     refine wp_region_told (w1 := w5) (K := [⟨3, 29, FI B nb⟩, ⟨5, 31, FI P np⟩, ⟨6, 32, FThree A B P (1 + no) nb np⟩, ⟨7, 33, FOut L⟩, ⟨8, 2, FOut L⟩]) (ix := 1000) (R0 := fun _ _ _ => True) (R1 := fun _ _ _ => True) [29, 31, 32, 33, 2] (⟨#[.agg #[.int .i64 code, .int .i64 mods, .int .i64 typ, .int .i64 shift, .int .i64 base, .string text, .int .i64 s, .int .i64 K], .pointer (some ⟨w.heap.size, 0, none⟩), undef, .int .i64 n, .int .u8 ff, .slice Ac (1 + no) cc, .tuple #[.int .i64 n, .int .u8 ff], .pointer (some ⟨w.heap.size, 0, none⟩), .pointer (some ⟨w.heap.size, 0, none⟩), .int .i64 code, .tuple #[.int .i64 n, .int .u8 ff], .int .i64 n, .int .u8 ff, .int .i64 n, .slice (some ⟨w1.heap.size, 0, none⟩) 1 1, .int .u8 ff, .bool true, .bool true, .pointer (some ⟨w.heap.size, 6, none⟩), .int .i64 s, .bool true, .bool true, .slice (some ⟨w1.heap.size, 0, none⟩) 1 1, .agg #[.int .i64 code, .int .i64 mods, .int .i64 typ, .int .i64 shift, .int .i64 base, .string text, .int .i64 s, .int .i64 K], .slice A4 no c4, .slice Ac (1 + no) cc, .int .u8 ff, .slice Ac (1 + no) cc, .agg #[.int .i64 code, .int .i64 mods, .int .i64 typ, .int .i64 shift, .int .i64 base, .string text, .int .i64 s, .int .i64 K], undef, .agg #[.int .i64 code, .int .i64 mods, .int .i64 typ, .int .i64 shift, .int .i64 base, .string text, .int .i64 s, .int .i64 K], undef, undef, undef], []⟩) (fun g => ⟨#[.agg #[.int .i64 code, .int .i64 mods, .int .i64 typ, .int .i64 shift, .int .i64 base, .string text, .int .i64 s, .int .i64 K], .pointer (some ⟨w.heap.size, 0, none⟩), (g 2), .int .i64 n, .int .u8 ff, .slice Ac (1 + no) cc, .tuple #[.int .i64 n, .int .u8 ff], .pointer (some ⟨w.heap.size, 0, none⟩), .pointer (some ⟨w.heap.size, 0, none⟩), .int .i64 code, .tuple #[.int .i64 n, .int .u8 ff], .int .i64 n, .int .u8 ff, .int .i64 n, .slice (some ⟨w1.heap.size, 0, none⟩) 1 1, .int .u8 ff, .bool true, .bool true, .pointer (some ⟨w.heap.size, 6, none⟩), .int .i64 s, .bool true, .bool true, .slice (some ⟨w1.heap.size, 0, none⟩) 1 1, .agg #[.int .i64 code, .int .i64 mods, .int .i64 typ, .int .i64 shift, .int .i64 base, .string text, .int .i64 s, .int .i64 K], .slice A4 no c4, .slice Ac (1 + no) cc, .int .u8 ff, .slice Ac (1 + no) cc, .agg #[.int .i64 code, .int .i64 mods, .int .i64 typ, .int .i64 shift, .int .i64 base, .string text, .int .i64 s, .int .i64 K], (g 29), .agg #[.int .i64 code, .int .i64 mods, .int .i64 typ, .int .i64 shift, .int .i64 base, .string text, .int .i64 s, .int .i64 K], (g 31), (g 32), (g 33)], []⟩) [.int .u8 ff, .slice Ac (1 + no) cc, .agg #[.int .i64 code, .int .i64 mods, .int .i64 typ, .int .i64 shift, .int .i64 base, .string text, .int .i64 s, .int .i64 K], undef, .agg #[.int .i64 code, .int .i64 mods, .int .i64 typ, .int .i64 shift, .int .i64 base, .string text, .int .i64 s, .int .i64 K], undef, undef, undef, undef] (by kernel_rfl) (by kernel_rfl) (by kernel_rfl) (fun g => by kernel_rfl) (by kernel_rfl) (Below.refl _ _).drew (by decide) (by kernel_rfl)
      (goes_cons (gkP (fun _ => .int .u8 ff))
      (goes_cons (gkP (fun _ => .slice Ac (1 + no) cc))
      (goes_cons (gkL hst (fun W hW => le W hW) Tryz.underlying95)
      (goes_cons (gkG (fun g => #[.agg #[.int .i64 code, .int .i64 mods, .int .i64 typ, .int .i64 shift, .int .i64 base, .string text, .int .i64 s, .int .i64 K]]) hst 0 (fun g W hW hin => fi_out (HST.out W)))
      (goes_cons (gkL hst (fun W hW => le W hW) Tryz.underlying95)
      (goes_cons (gkG (fun g => #[.agg #[.int .i64 code, .int .i64 mods, .int .i64 typ, .int .i64 shift, .int .i64 base, .string text, .int .i64 s, .int .i64 K]]) hst 1 (fun g W hW hin => fi_out (HPT.out W (hB5.trans (hW.mono hB5.size)))))
      (goes_cons (goesK_any hst (ahead_none (by decide)) rfl (by decide) (by decide) 2 rfl (by kernel_rfl) (fun g => by kernel_rfl) rfl (fun g => by kernel_rfl) (fun g W hW hin => three_made rfl (g 29) (g 31) rfl rfl rfl (rc W hW) (hin 0 _ rfl (by kernel_rfl)) (hin 1 _ rfl (by kernel_rfl))))
      (goes_cons (gkG (fun g => #[.int .u8 ff, g 32]) hst 3 (fun g W hW hin => by obtain ⟨b, A1, c1, A2, c2, A3, c3, hv, hb, r1, r2, r3⟩ := hin 2 _ rfl (by kernel_rfl); simp only at hv; rw [hv]; exact fout_out (HPU.out b A1 A2 A3 c1 c2 c3 W (hB5.trans (hW.mono hB5.size)) hb r1 r2 r3)))
      (goes_cons (goesK_name (p' := 3) hst (ahead_none (by decide)) rfl (by decide) (by decide) 4 rfl rfl (by kernel_rfl) (by kernel_rfl) (fun g => by kernel_rfl) rfl (fun g => by kernel_rfl) (fun g w => by kernel_rfl)) goes_nil))))))))) ?_
     intro g W hW hK
     obtain ⟨A9, n9, c9, h2, hn9, hc9, hr9⟩ := hK 4 _ rfl
     have hB9 := hB5.trans (hW.mono hB5.size)
     simp only at h2
     simp only [h2]
     generalize g 29 = v29
     generalize g 31 = v31
     generalize g 32 = v32
     generalize g 33 = v33
     clear hK le hst h2 rc
     go_wp2_with fail
     go_ret
     exact OutC.of hn9 hc9 hr9 hB9
   | false =>
     obtain rfl : na = 1 := by rw [← HNA.out, ← HA.out]; rfl
     have hrc : Rd w3 (some ⟨w1.heap.size, 0, none⟩) (is_ A) := by rw [← HA.out]; exact qc3
     clear HA HNA H4 HOT HNO qc3 o3
     have le : ∀ W, Below w3.heap.size w3 W → Blk W w.heap.size 95 #[.int .i64 code, .int .i64 mods, .int .i64 typ, .int .i64 shift, .int .i64 base, .string text, .int .i64 s, .int .i64 K] := fun W hW => k3.below hW k3.lt
     have rc : ∀ W, Below w3.heap.size w3 W → Rd W (some ⟨w1.heap.size, 0, none⟩) (is_ A) := fun W hW => hrc.below hW
     have hst : ∀ f ∈ ([⟨3, 29, FI B nb⟩, ⟨5, 31, FI P np⟩, ⟨6, 32, FThree A B P (1) nb np⟩, ⟨7, 33, FOut L⟩, ⟨8, 2, FOut L⟩] : List Fact), f.ok := List.forall_mem_cons.2 ⟨fi_ok _ _ _ _, List.forall_mem_cons.2 ⟨fi_ok _ _ _ _, List.forall_mem_cons.2 ⟨fthree_ok _ _ _ _ _ _ _ _, List.forall_mem_cons.2 ⟨fout_ok _ _ _, List.forall_mem_cons.2 ⟨fout_ok _ _ _, fun _ h => by cases h⟩⟩⟩⟩⟩
     go_wp2_with fail
     refine wp_region_told (w1 := w3) (K := [⟨3, 29, FI B nb⟩, ⟨5, 31, FI P np⟩, ⟨6, 32, FThree A B P (1) nb np⟩, ⟨7, 33, FOut L⟩, ⟨8, 2, FOut L⟩]) (ix := 1000) (R0 := fun _ _ _ => True) (R1 := fun _ _ _ => True) [29, 31, 32, 33, 2] (⟨#[.agg #[.int .i64 code, .int .i64 mods, .int .i64 typ, .int .i64 shift, .int .i64 base, .string text, .int .i64 s, .int .i64 K], .pointer (some ⟨w.heap.size, 0, none⟩), undef, .int .i64 n, .int .u8 ff, .slice (some ⟨w1.heap.size, 0, none⟩) 1 1, .tuple #[.int .i64 n, .int .u8 ff], .pointer (some ⟨w.heap.size, 0, none⟩), .pointer (some ⟨w.heap.size, 0, none⟩), .int .i64 code, .tuple #[.int .i64 n, .int .u8 ff], .int .i64 n, .int .u8 ff, .int .i64 n, .slice (some ⟨w1.heap.size, 0, none⟩) 1 1, .int .u8 ff, .bool true, .bool true, .pointer (some ⟨w.heap.size, 6, none⟩), .int .i64 s, .bool false, .bool false, undef, undef, undef, undef, .int .u8 ff, .slice (some ⟨w1.heap.size, 0, none⟩) (1) 1, .agg #[.int .i64 code, .int .i64 mods, .int .i64 typ, .int .i64 shift, .int .i64 base, .string text, .int .i64 s, .int .i64 K], undef, .agg #[.int .i64 code, .int .i64 mods, .int .i64 typ, .int .i64 shift, .int .i64 base, .string text, .int .i64 s, .int .i64 K], undef, undef, undef], []⟩) (fun g => ⟨#[.agg #[.int .i64 code, .int .i64 mods, .int .i64 typ, .int .i64 shift, .int .i64 base, .string text, .int .i64 s, .int .i64 K], .pointer (some ⟨w.heap.size, 0, none⟩), (g 2), .int .i64 n, .int .u8 ff, .slice (some ⟨w1.heap.size, 0, none⟩) 1 1, .tuple #[.int .i64 n, .int .u8 ff], .pointer (some ⟨w.heap.size, 0, none⟩), .pointer (some ⟨w.heap.size, 0, none⟩), .int .i64 code, .tuple #[.int .i64 n, .int .u8 ff], .int .i64 n, .int .u8 ff, .int .i64 n, .slice (some ⟨w1.heap.size, 0, none⟩) 1 1, .int .u8 ff, .bool true, .bool true, .pointer (some ⟨w.heap.size, 6, none⟩), .int .i64 s, .bool false, .bool false, undef, undef, undef, undef, .int .u8 ff, .slice (some ⟨w1.heap.size, 0, none⟩) (1) 1, .agg #[.int .i64 code, .int .i64 mods, .int .i64 typ, .int .i64 shift, .int .i64 base, .string text, .int .i64 s, .int .i64 K], (g 29), .agg #[.int .i64 code, .int .i64 mods, .int .i64 typ, .int .i64 shift, .int .i64 base, .string text, .int .i64 s, .int .i64 K], (g 31), (g 32), (g 33)], []⟩) [.int .u8 ff, .slice (some ⟨w1.heap.size, 0, none⟩) (1) 1, .agg #[.int .i64 code, .int .i64 mods, .int .i64 typ, .int .i64 shift, .int .i64 base, .string text, .int .i64 s, .int .i64 K], undef, .agg #[.int .i64 code, .int .i64 mods, .int .i64 typ, .int .i64 shift, .int .i64 base, .string text, .int .i64 s, .int .i64 K], undef, undef, undef, undef] (by kernel_rfl) (by kernel_rfl) (by kernel_rfl) (fun g => by kernel_rfl) (by kernel_rfl) (Below.refl _ _).drew (by decide) (by kernel_rfl)
      (goes_cons (gkP (fun _ => .int .u8 ff))
      (goes_cons (gkP (fun _ => .slice (some ⟨w1.heap.size, 0, none⟩) (1) 1))
      (goes_cons (gkL hst (fun W hW => le W hW) Tryz.underlying95)
      (goes_cons (gkG (fun g => #[.agg #[.int .i64 code, .int .i64 mods, .int .i64 typ, .int .i64 shift, .int .i64 base, .string text, .int .i64 s, .int .i64 K]]) hst 0 (fun g W hW hin => fi_out (HST.out W)))
      (goes_cons (gkL hst (fun W hW => le W hW) Tryz.underlying95)
      (goes_cons (gkG (fun g => #[.agg #[.int .i64 code, .int .i64 mods, .int .i64 typ, .int .i64 shift, .int .i64 base, .string text, .int .i64 s, .int .i64 K]]) hst 1 (fun g W hW hin => fi_out (HPT.out W (hB3.trans (hW.mono hB3.size)))))
      (goes_cons (goesK_any hst (ahead_none (by decide)) rfl (by decide) (by decide) 2 rfl (by kernel_rfl) (fun g => by kernel_rfl) rfl (fun g => by kernel_rfl) (fun g W hW hin => three_made rfl (g 29) (g 31) rfl rfl rfl (rc W hW) (hin 0 _ rfl (by kernel_rfl)) (hin 1 _ rfl (by kernel_rfl))))
      (goes_cons (gkG (fun g => #[.int .u8 ff, g 32]) hst 3 (fun g W hW hin => by obtain ⟨b, A1, c1, A2, c2, A3, c3, hv, hb, r1, r2, r3⟩ := hin 2 _ rfl (by kernel_rfl); simp only at hv; rw [hv]; exact fout_out (HPU.out b A1 A2 A3 c1 c2 c3 W (hB3.trans (hW.mono hB3.size)) hb r1 r2 r3)))
      (goes_cons (goesK_name (p' := 3) hst (ahead_none (by decide)) rfl (by decide) (by decide) 4 rfl rfl (by kernel_rfl) (by kernel_rfl) (fun g => by kernel_rfl) rfl (fun g => by kernel_rfl) (fun g w => by kernel_rfl)) goes_nil))))))))) ?_
     intro g W hW hK
     obtain ⟨A9, n9, c9, h2, hn9, hc9, hr9⟩ := hK 4 _ rfl
     have hB9 := hB3.trans (hW.mono hB3.size)
     simp only at h2
     simp only [h2]
     generalize g 29 = v29
     generalize g 31 = v31
     generalize g 32 = v32
     generalize g 33 = v33
     clear hK le hst h2 rc
     go_wp2_with fail
     go_ret
     exact OutC.of hn9 hc9 hr9 hB9
 | false =>
   obtain rfl : na = 1 := by rw [← HNA.out, ← HA.out]; rfl
   have hrc : Rd w2 (some ⟨w1.heap.size, 0, none⟩) (is_ A) := by rw [← HA.out]; exact qc2
   clear HA HNA H4 HOT HNO qc2 o2
   have le : ∀ W, Below w2.heap.size w2 W → Blk W w.heap.size 95 #[.int .i64 code, .int .i64 mods, .int .i64 typ, .int .i64 shift, .int .i64 base, .string text, .int .i64 s, .int .i64 K] := fun W hW => k2.below hW k2.lt
   have rc : ∀ W, Below w2.heap.size w2 W → Rd W (some ⟨w1.heap.size, 0, none⟩) (is_ A) := fun W hW => hrc.below hW
   have hst : ∀ f ∈ ([⟨3, 29, FI B nb⟩, ⟨5, 31, FI P np⟩, ⟨6, 32, FThree A B P (1) nb np⟩, ⟨7, 33, FOut L⟩, ⟨8, 2, FOut L⟩] : List Fact), f.ok := List.forall_mem_cons.2 ⟨fi_ok _ _ _ _, List.forall_mem_cons.2 ⟨fi_ok _ _ _ _, List.forall_mem_cons.2 ⟨fthree_ok _ _ _ _ _ _ _ _, List.forall_mem_cons.2 ⟨fout_ok _ _ _, List.forall_mem_cons.2 ⟨fout_ok _ _ _, fun _ h => by cases h⟩⟩⟩⟩⟩
   go_wp2_with fail
   refine wp_region_told (w1 := w2) (K := [⟨3, 29, FI B nb⟩, ⟨5, 31, FI P np⟩, ⟨6, 32, FThree A B P (1) nb np⟩, ⟨7, 33, FOut L⟩, ⟨8, 2, FOut L⟩]) (ix := 1000) (R0 := fun _ _ _ => True) (R1 := fun _ _ _ => True) [29, 31, 32, 33, 2] (⟨#[.agg #[.int .i64 code, .int .i64 mods, .int .i64 typ, .int .i64 shift, .int .i64 base, .string text, .int .i64 s, .int .i64 K], .pointer (some ⟨w.heap.size, 0, none⟩), undef, .int .i64 n, .int .u8 ff, .slice (some ⟨w1.heap.size, 0, none⟩) 1 1, .tuple #[.int .i64 n, .int .u8 ff], .pointer (some ⟨w.heap.size, 0, none⟩), .pointer (some ⟨w.heap.size, 0, none⟩), .int .i64 code, .tuple #[.int .i64 n, .int .u8 ff], .int .i64 n, .int .u8 ff, .int .i64 n, .slice (some ⟨w1.heap.size, 0, none⟩) 1 1, .int .u8 ff, .bool false, .bool false, undef, undef, undef, .bool false, undef, undef, undef, undef, .int .u8 ff, .slice (some ⟨w1.heap.size, 0, none⟩) (1) 1, .agg #[.int .i64 code, .int .i64 mods, .int .i64 typ, .int .i64 shift, .int .i64 base, .string text, .int .i64 s, .int .i64 K], undef, .agg #[.int .i64 code, .int .i64 mods, .int .i64 typ, .int .i64 shift, .int .i64 base, .string text, .int .i64 s, .int .i64 K], undef, undef, undef], []⟩) (fun g => ⟨#[.agg #[.int .i64 code, .int .i64 mods, .int .i64 typ, .int .i64 shift, .int .i64 base, .string text, .int .i64 s, .int .i64 K], .pointer (some ⟨w.heap.size, 0, none⟩), (g 2), .int .i64 n, .int .u8 ff, .slice (some ⟨w1.heap.size, 0, none⟩) 1 1, .tuple #[.int .i64 n, .int .u8 ff], .pointer (some ⟨w.heap.size, 0, none⟩), .pointer (some ⟨w.heap.size, 0, none⟩), .int .i64 code, .tuple #[.int .i64 n, .int .u8 ff], .int .i64 n, .int .u8 ff, .int .i64 n, .slice (some ⟨w1.heap.size, 0, none⟩) 1 1, .int .u8 ff, .bool false, .bool false, undef, undef, undef, .bool false, undef, undef, undef, undef, .int .u8 ff, .slice (some ⟨w1.heap.size, 0, none⟩) (1) 1, .agg #[.int .i64 code, .int .i64 mods, .int .i64 typ, .int .i64 shift, .int .i64 base, .string text, .int .i64 s, .int .i64 K], (g 29), .agg #[.int .i64 code, .int .i64 mods, .int .i64 typ, .int .i64 shift, .int .i64 base, .string text, .int .i64 s, .int .i64 K], (g 31), (g 32), (g 33)], []⟩) [.int .u8 ff, .slice (some ⟨w1.heap.size, 0, none⟩) (1) 1, .agg #[.int .i64 code, .int .i64 mods, .int .i64 typ, .int .i64 shift, .int .i64 base, .string text, .int .i64 s, .int .i64 K], undef, .agg #[.int .i64 code, .int .i64 mods, .int .i64 typ, .int .i64 shift, .int .i64 base, .string text, .int .i64 s, .int .i64 K], undef, undef, undef, undef] (by kernel_rfl) (by kernel_rfl) (by kernel_rfl) (fun g => by kernel_rfl) (by kernel_rfl) (Below.refl _ _).drew (by decide) (by kernel_rfl)
    (goes_cons (gkP (fun _ => .int .u8 ff))
    (goes_cons (gkP (fun _ => .slice (some ⟨w1.heap.size, 0, none⟩) (1) 1))
    (goes_cons (gkL hst (fun W hW => le W hW) Tryz.underlying95)
    (goes_cons (gkG (fun g => #[.agg #[.int .i64 code, .int .i64 mods, .int .i64 typ, .int .i64 shift, .int .i64 base, .string text, .int .i64 s, .int .i64 K]]) hst 0 (fun g W hW hin => fi_out (HST.out W)))
    (goes_cons (gkL hst (fun W hW => le W hW) Tryz.underlying95)
    (goes_cons (gkG (fun g => #[.agg #[.int .i64 code, .int .i64 mods, .int .i64 typ, .int .i64 shift, .int .i64 base, .string text, .int .i64 s, .int .i64 K]]) hst 1 (fun g W hW hin => fi_out (HPT.out W (hB2.trans (hW.mono hB2.size)))))
    (goes_cons (goesK_any hst (ahead_none (by decide)) rfl (by decide) (by decide) 2 rfl (by kernel_rfl) (fun g => by kernel_rfl) rfl (fun g => by kernel_rfl) (fun g W hW hin => three_made rfl (g 29) (g 31) rfl rfl rfl (rc W hW) (hin 0 _ rfl (by kernel_rfl)) (hin 1 _ rfl (by kernel_rfl))))
    (goes_cons (gkG (fun g => #[.int .u8 ff, g 32]) hst 3 (fun g W hW hin => by obtain ⟨b, A1, c1, A2, c2, A3, c3, hv, hb, r1, r2, r3⟩ := hin 2 _ rfl (by kernel_rfl); simp only at hv; rw [hv]; exact fout_out (HPU.out b A1 A2 A3 c1 c2 c3 W (hB2.trans (hW.mono hB2.size)) hb r1 r2 r3)))
    (goes_cons (goesK_name (p' := 3) hst (ahead_none (by decide)) rfl (by decide) (by decide) 4 rfl rfl (by kernel_rfl) (by kernel_rfl) (fun g => by kernel_rfl) rfl (fun g => by kernel_rfl) (fun g w => by kernel_rfl)) goes_nil))))))))) ?_
   intro g W hW hK
   obtain ⟨A9, n9, c9, h2, hn9, hc9, hr9⟩ := hK 4 _ rfl
   have hB9 := hB2.trans (hW.mono hB2.size)
   simp only at h2
   simp only [h2]
   generalize g 29 = v29
   generalize g 31 = v31
   generalize g 32 = v32
   generalize g 33 = v33
   clear hK le hst h2 rc
   go_wp2_with fail
   go_ret
   exact OutC.of hn9 hc9 hr9 hB9
end Go.Proofs.YtceipblcdcgljaaGreatDoor
