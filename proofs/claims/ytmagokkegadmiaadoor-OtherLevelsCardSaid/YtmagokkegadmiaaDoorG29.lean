/-
  Stage 12, the landed other: Key. Layer 3, walked: the program's Take.
-/
import Derived.Test.YtmagokkegadmiaaDoorG08
import Derived.Test.YtmagokkegadmiaaDoorG13
import Derived.Test.YtmagokkegadmiaaDoorG16
import Derived.Test.YtmagokkegadmiaaDoorG17
import Derived.Test.YtmagokkegadmiaaDoorG18
import Derived.Test.YtmagokkegadmiaaDoorG20
import Derived.Test.YtmagokkegadmiaaDoorG27
import Derived.Test.YtmagokkegadmiaaDoorG28
namespace Go.Proofs.YtmagokkegadmiaaDoor
open Go.RowKit

/-- What later calls ask of the world. -/
def Inv12 (w : World) : Prop := Siz w ∧ Rws w ∧ Tab w
theorem Inv12.below {w w' : World} (h : Inv12 w) (hb : Below w.heap.size w w') : Inv12 w' := ⟨h.1.below' hb, h.2.1.below hb, h.2.2.below hb⟩
/-- Two numbers, as a row that a literal made. -/
def FTwo (p c : Int) (v : Value) (w : World) : Prop := ∃ b, v = .slice (some ⟨b, 0, none⟩) 2 2 ∧ Rd w (some ⟨b, 0, none⟩) (is_ [p, c])
def NQV (A : Option Addr) (d : Nat) : Value := .agg #[.int .i64 1, .int .u8 0, .slice A 3 d, .string ⟨#[]⟩, .int .u8 126, .string ⟨#[]⟩]
/-- Their sequence. -/
def FSeq (p c : Int) (v : Value) (w : World) : Prop := ∃ A d, v = NQV A d ∧ RdP w A ([27, p, c].map fun n => [n])
/-- Its bytes, and that it may be. -/
def FPut (L : List UInt8) (n : Nat) (v : Value) (w : World) : Prop := ∃ A d, v = .tuple #[.slice A n d, .int .i64 0] ∧ n ≤ d ∧ Rd w A (bs L)
def FByt (L : List UInt8) (n : Nat) (v : Value) (w : World) : Prop := ∃ A d, v = .slice A n d ∧ n ≤ d ∧ Rd w A (bs L)
theorem ftwo_ok (i : Nat) (d : Tmp) (p c : Int) : (⟨i, d, FTwo p c⟩ : Fact).ok := fun _ _ _ ⟨b, e, h⟩ hb => ⟨b, e, h.below hb⟩
theorem fseq_ok (i : Nat) (d : Tmp) (p c : Int) : (⟨i, d, FSeq p c⟩ : Fact).ok := fun _ _ _ ⟨A, d, e, h⟩ hb => ⟨A, d, e, h.below hb⟩
theorem fput_ok (i : Nat) (d : Tmp) (L : List UInt8) (n : Nat) : (⟨i, d, FPut L n⟩ : Fact).ok := fun _ _ _ ⟨A, d, e, h1, h⟩ hb => ⟨A, d, e, h1, h.below hb⟩
theorem fbyt_ok (i : Nat) (d : Tmp) (L : List UInt8) (n : Nat) : (⟨i, d, FByt L n⟩ : Fact).ok := fun _ _ _ ⟨A, d, e, h1, h⟩ hb => ⟨A, d, e, h1, h.below hb⟩
theorem two_made {ev : Operand → Value} {o : Oper} {x y : Operand} {a b : Int} (ho : o.op = .buildSlice 68 2 #[(0, x), (1, y)]) (hx : ev x = .int .i64 a) (hy : ev y = .int .i64 b) (w : World) :
    ∃ v w', (execOp ev o).run Tryd.prog w = .ok (.value v) w' ∧ FTwo a b v w' ∧ Below w.heap.size w w' := by
  refine ⟨.slice (some ⟨w.heap.size, 0, none⟩) 2 2, w.alloc (.cells #[.int .i64 a, .int .i64 b] 3), ?_, ⟨_, rfl, Rd.block (heap_alloc_new w _) rfl⟩, (Below.refl _ _).alloc (Nat.le_refl _) _⟩
  unfold execOp
  simp only [ho]
  rw [show Array.map (fun x => (x.fst, ev x.snd)) #[(0, x), (1, y)] = #[(0, .int .i64 a), (1, .int .i64 b)] by simp [hx, hy]]
  kernel_rfl
theorem ftwo_seq {p c : Int} {v : Value} {W : World} (h : FTwo p c v W) : Calls Tryd.prog 10 #[v] W fun e w' => ∃ u, e = .returned u ∧ FSeq p c u w' ∧ Below W.heap.size W w' := by
  obtain ⟨b, rfl, hr⟩ := h
  exact (oseq_any p c _ 2 W hr).mono fun e w' ⟨A, d, he, hr', hb⟩ => ⟨_, he, ⟨A, d, rfl, hr'⟩, hb⟩
theorem fseq_put {p c : Int} {L : List UInt8} {n : Nat} (hL : putS (sqN 1 126 [27, p, c]) = L) (hn : L.length = n) (hm : mayS (sqN 1 126 [27, p, c]) = 0) {v : Value} {W : World} (ht : Tab W) (h : FSeq p c v W) : Calls Tryd.prog 9 #[v] W fun e w' => ∃ u, e = .returned u ∧ FPut L n u w' ∧ Below W.heap.size W w' := by
  obtain ⟨A, d, rfl, hr⟩ := h
  have := pput_yes (sqN 1 126 [27, p, c]) A d W hm ht hr
  rw [sqn_v (n := 3) rfl (by decide) (by decide), hL] at this
  subst hn
  exact this.mono fun e w' ⟨⟨B, x, he, hx, hr'⟩, hb⟩ => ⟨_, he, ⟨B, x, rfl, hx, hr'⟩, hb⟩
theorem ext_0 {ev : Operand → Value} {o : Oper} {x : Operand} {a b : Value} (ho : o.op = .extract x 0) (hx : ev x = .tuple #[a, b]) (w : World) : (execOp ev o).run Tryd.prog w = .ok (.value a) w := by
  unfold execOp
  simp only [ho, hx]
  rfl
theorem ext_1 {ev : Operand → Value} {o : Oper} {x : Operand} {a b : Value} (ho : o.op = .extract x 1) (hx : ev x = .tuple #[a, b]) (w : World) : (execOp ev o).run Tryd.prog w = .ok (.value b) w := by
  unfold execOp
  simp only [ho, hx]
  rfl
theorem ev_rng {k : Ky} (h : evB k = true) : 0 ≤ charK k ∧ charK k ≤ 1114111 ∧ 1 ≤ oldN k.mods ∧ oldN k.mods < 8 := by
  unfold evB at h
  simp only [Bool.and_eq_true, bne_iff_ne] at h
  obtain ⟨⟨hm, _⟩, h⟩ := h
  have ho := old_rng k.mods
  by_cases h1 : (lookE k.code).kind = 1
  · rw [if_pos h1] at h
    simp only [Bool.and_eq_true, bne_iff_ne] at h
    have := char_rng hm (.inl h1)
    omega
  · rw [if_neg h1] at h
    by_cases h2 : (lookE k.code).kind = 2
    · rw [if_pos h2] at h
      simp only [bne_iff_ne] at h
      have := char_rng hm (.inr h2)
      omega
    · rw [if_neg h2] at h
      cases h
theorem outc_no {L : List UInt8} {n : Nat} {q : Bool} (hq : q = false) (hL : L = []) (hn : L.length = n) {w w' : World} (hb : Below w.heap.size w w') : OutC L n q w (.returned (.tuple #[.slice none 0 0, .bool false])) w' := by
  subst hq hL hn
  exact ⟨none, 0, rfl, Nat.le_refl _, Rd.nil _ _, hb⟩
set_option maxRecDepth 100000 in
set_option maxHeartbeats 8000000 in
theorem okey_any (m : Mo) (k : Ky) (hk : okK k) (hs : k.text.size ≤ 4294967296) (w : World) (hv : Inv12 w) : Calls Tryd.prog 5 #[moV m, kyV k] w (OutC (othL m.other k) (othL m.other k).length (isO m.other k) w) := by
  have HE : Hid (∀ W, Below w.heap.size w W → Calls Tryd.prog 7 #[kyV k] W (EvG (evB k) (charK k) ((lookE k.code).kind == 1) (oldN k.mods) W)) := Lib.hid fun W hW => eventOf_any k hk hs W (hv.below hW).1 (hv.below hW).2.1
  have HV := Lib.hid hv
  have HR := Lib.hid (fun h : evB k = true => ev_rng h)
  have HI := Lib.hid (isO_told m.other k)
  have HO := Lib.hid (fun h : isO m.other k = true => othL_yes h)
  have HX := Lib.hid (fun h : isO m.other k = false => othL_no h)
  obtain ⟨L, hL⟩ : ∃ L, othL m.other k = L := ⟨_, rfl⟩
  obtain ⟨n, hn⟩ : ∃ n, L.length = n := ⟨_, rfl⟩
  obtain ⟨r, hr⟩ : ∃ r, isO m.other k = r := ⟨_, rfl⟩
  obtain ⟨q, hq⟩ : ∃ q, evB k = q := ⟨_, rfl⟩
  obtain ⟨c, hc⟩ : ∃ c, charK k = c := ⟨_, rfl⟩
  obtain ⟨t, ht⟩ : ∃ t, ((lookE k.code).kind == 1) = t := ⟨_, rfl⟩
  obtain ⟨o, ho⟩ : ∃ o, oldN k.mods = o := ⟨_, rfl⟩
  rw [hq, hc, ht, ho] at HE HI
  rw [hq, hc, ho] at HR
  rw [hr] at HI HO HX
  rw [hL] at HO HX
  rw [hc, ho] at HO
  rw [hL, hn, hr]
  have HN := Lib.hid hn
  clear hL hn hr hq hc ht ho hk hs hv
  obtain ⟨code, mods, typ, shift, base, text⟩ := k
  obtain ⟨m0, m1, m2, m3, m4, m5, m6, m7, m8, m9⟩ := m
  simp only [moV, kyV] at HE HI ⊢
  have hB0 : Below w.heap.size w ((w.alloc (.cells #[.bool m0, .bool m1, .bool m2, .bool m3, .bool m4, .bool m5, .bool m6, .int .i64 m7, .int .i64 m8, .int .i64 m9] 23)).alloc (.cells #[.int .i64 code, .int .i64 mods, .int .i64 typ, .int .i64 shift, .int .i64 base, .string text] 25)) := ((Below.refl _ w).alloc (Nat.le_refl _) _).alloc (by simp) _
  have a0 := (Blk.new w 23 #[.bool m0, .bool m1, .bool m2, .bool m3, .bool m4, .bool m5, .bool m6, .int .i64 m7, .int .i64 m8, .int .i64 m9]).alloc (.cells #[.int .i64 code, .int .i64 mods, .int .i64 typ, .int .i64 shift, .int .i64 base, .string text] 25)
  have b0 := Blk.new (w.alloc (.cells #[.bool m0, .bool m1, .bool m2, .bool m3, .bool m4, .bool m5, .bool m6, .int .i64 m7, .int .i64 m8, .int .i64 m9] 23)) 25 #[.int .i64 code, .int .i64 mods, .int .i64 typ, .int .i64 shift, .int .i64 base, .string text]
  rw [World.size_alloc] at b0
  obtain ⟨c0, c1, c2, c3, c4, c5⟩ := Blk.cells6 b0
  go_enter Tryd.func5, Tryd.ntmps5
  go_wp2_with fail
  refine (HE.out _ hB0).mono ?_
  rintro e w1 ⟨c', t', o', rfl, hev, hb1⟩
  have a1 := (a0.below hb1 a0.lt).alloc (.cells #[.int .i64 c', .bool t', .int .i64 o'] 34)
  have z1 := Blk.new w1 34 #[.int .i64 c', .bool t', .int .i64 o']
  have hB1 := hB0.trans (hb1.mono hB0.size)
  have hB2 := hB1.alloc hB1.size (.cells #[.int .i64 c', .bool t', .int .i64 o'] 34)
  have HEV := Lib.hid hev
  clear a0 b0 hB0 hb1 hev HE c0 c1 c2 c3 c4 c5
  unfold evO
  cases q with
  | false =>
    have HQ := Lib.hid (show r = false from HI.out)
    have HX := Lib.hid (HX.out HQ.out)
    go_wp2_with fail
    refine bodyPost_ret (v := .tuple #[.slice none 0 0, .bool false]) (by simp [results, Tryd.results5, go_sem]) rfl (outc_no HQ.out HX.out HN.out hB2)
  | true =>
    obtain ⟨rfl, rfl, rfl⟩ := HEV.out rfl
    obtain ⟨g0, g1, g2, g3⟩ := HR.out rfl
    clear HR HEV
    have HTO : Hid (∀ W, Calls Tryd.prog 8 #[.int .i64 m9, .agg #[.int .i64 c', .bool t', .int .i64 o']] W fun e w' => e = .returned (.bool r) ∧ Below W.heap.size W w') := Lib.hid fun W => by
      rw [HI.out, Bool.true_and]
      exact told_any m9 c' t' o' ⟨by omega, by omega⟩ (by omega) (by omega) W
    have a9 := a1.cell 9
    go_wp2_with fail
    refine (HTO.out _).mono ?_
    rintro e w2 ⟨rfl, hb2⟩
    have z2 := z1.below hb2 z1.lt
    have hB3 := hB2.trans (hb2.mono hB2.size)
    clear a1 z1 hB1 hB2 hb2 a9 HTO HI
    cases r with
    | false =>
      have HX2 := Lib.hid (HX.out rfl)
      clear HO HX
      go_wp2_with fail
      refine bodyPost_ret (v := .tuple #[.slice none 0 0, .bool false]) (by simp [results, Tryd.results5, go_sem]) rfl (outc_no rfl HX2.out HN.out hB3)
    | true =>
      obtain ⟨p, hp⟩ : ∃ p, 1 + o' = p := ⟨_, rfl⟩
      have hmay := oth_may (p := p) (c := c') (by omega) (by omega) (by omega) (by omega)
      have HL := Lib.hid (show putS (sqN 1 126 [27, p, c']) = L by
        rw [HO.out rfl, hp, othB, seqB_is hmay])
      have HM := Lib.hid hmay
      have HPR : Hid (∀ W, Calls Tryd.prog 11 #[.int .i64 o'] W fun e w' => e = .returned (.int .i64 p) ∧ Below W.heap.size W w') := Lib.hid fun W => by
        have := pparam_any o' W
        rwa [show paramN o' = p by unfold paramN; rw [if_neg (by omega)]; omega] at this
      have HT : Hid (∀ W, Below w2.heap.size w2 W → Tab W) := Lib.hid fun W hW => (HV.out.below (hB3.trans (hW.mono hB3.size))).2.2
      clear hmay hp g0 g1 g2 g3 HO HX HV
      have le : ∀ W, Below w2.heap.size w2 W → Blk W w1.heap.size 34 #[.int .i64 c', .bool t', .int .i64 o'] := fun W hW => z2.below hW z2.lt
      have hst : ∀ f ∈ ([⟨5, 30, FTwo p c'⟩, ⟨6, 31, FSeq p c'⟩, ⟨7, 32, FPut L n⟩, ⟨8, 24, FPut L n⟩, ⟨9, 33, FByt L n⟩, ⟨11, 8, FByt L n⟩] : List Fact), f.ok := List.forall_mem_cons.2 ⟨ftwo_ok _ _ _ _, List.forall_mem_cons.2 ⟨fseq_ok _ _ _ _, List.forall_mem_cons.2 ⟨fput_ok _ _ _ _, List.forall_mem_cons.2 ⟨fput_ok _ _ _ _, List.forall_mem_cons.2 ⟨fbyt_ok _ _ _ _, List.forall_mem_cons.2 ⟨fbyt_ok _ _ _ _, fun _ h => by cases h⟩⟩⟩⟩⟩⟩
      go_wp2_with fail
      refine wp_region_told (w1 := w2) (K := [⟨5, 30, FTwo p c'⟩, ⟨6, 31, FSeq p c'⟩, ⟨7, 32, FPut L n⟩, ⟨8, 24, FPut L n⟩, ⟨9, 33, FByt L n⟩, ⟨11, 8, FByt L n⟩]) (ix := 1000) (R0 := fun _ _ _ => True) (R1 := fun _ _ _ => True) [30, 31, 32, 24, 33, 8] (⟨#[.agg #[.bool m0, .bool m1, .bool m2, .bool m3, .bool m4, .bool m5, .bool m6, .int .i64 m7, .int .i64 m8, .int .i64 m9], .agg #[.int .i64 code, .int .i64 mods, .int .i64 typ, .int .i64 shift, .int .i64 base, .string text], .pointer (some ⟨w.heap.size, 0, none⟩), .pointer (some ⟨w.heap.size + 1, 0, none⟩), .slice none 0 0, .bool false, .pointer (some ⟨w1.heap.size, 0, none⟩), .bool true, undef, .int .i64 0, .tuple #[.agg #[.int .i64 c', .bool t', .int .i64 o'], .bool true], .agg #[.int .i64 code, .int .i64 mods, .int .i64 typ, .int .i64 shift, .int .i64 base, .string text], .tuple #[.agg #[.int .i64 c', .bool t', .int .i64 o'], .bool true], .agg #[.int .i64 c', .bool t', .int .i64 o'], .bool true, .bool true, .bool false, .bool false, .pointer (some ⟨w.heap.size, 9, none⟩), .int .i64 m9, .agg #[.int .i64 c', .bool t', .int .i64 o'], .bool true, .bool false, .bool false, undef, .pointer (some ⟨w1.heap.size, 2, none⟩), .int .i64 o', .int .i64 p, .pointer (some ⟨w1.heap.size, 0, none⟩), .int .i64 c', undef, undef, undef, undef, .int .i64 0, undef, undef, undef], []⟩) (fun g => ⟨#[.agg #[.bool m0, .bool m1, .bool m2, .bool m3, .bool m4, .bool m5, .bool m6, .int .i64 m7, .int .i64 m8, .int .i64 m9], .agg #[.int .i64 code, .int .i64 mods, .int .i64 typ, .int .i64 shift, .int .i64 base, .string text], .pointer (some ⟨w.heap.size, 0, none⟩), .pointer (some ⟨w.heap.size + 1, 0, none⟩), .slice none 0 0, .bool false, .pointer (some ⟨w1.heap.size, 0, none⟩), .bool true, (g 8), .int .i64 0, .tuple #[.agg #[.int .i64 c', .bool t', .int .i64 o'], .bool true], .agg #[.int .i64 code, .int .i64 mods, .int .i64 typ, .int .i64 shift, .int .i64 base, .string text], .tuple #[.agg #[.int .i64 c', .bool t', .int .i64 o'], .bool true], .agg #[.int .i64 c', .bool t', .int .i64 o'], .bool true, .bool true, .bool false, .bool false, .pointer (some ⟨w.heap.size, 9, none⟩), .int .i64 m9, .agg #[.int .i64 c', .bool t', .int .i64 o'], .bool true, .bool false, .bool false, (g 24), .pointer (some ⟨w1.heap.size, 2, none⟩), .int .i64 o', .int .i64 p, .pointer (some ⟨w1.heap.size, 0, none⟩), .int .i64 c', (g 30), (g 31), (g 32), (g 33), .int .i64 0, undef, undef, undef], []⟩) [.pointer (some ⟨w1.heap.size, 2, none⟩), .int .i64 o', .int .i64 p, .pointer (some ⟨w1.heap.size, 0, none⟩), .int .i64 c', undef, undef, undef, undef, undef, .int .i64 0, undef, .int .i64 0] (by kernel_rfl) (by kernel_rfl) (by kernel_rfl) (fun g => by kernel_rfl) (by kernel_rfl) (Below.refl _ _).drew (by decide) (by kernel_rfl)
        (goes_cons (goesK_pure (fun _ => .pointer (some ⟨w1.heap.size, 2, none⟩)) rfl (by decide) (by decide) (by kernel_rfl) (fun g => by kernel_rfl) rfl (fun g => by kernel_rfl) (fun g w => by kernel_rfl)) 
        (goes_cons (goesK_cell hst (ahead_none (by decide)) rfl (by decide) (by decide) (by kernel_rfl) (fun g => by kernel_rfl) rfl (fun g => by kernel_rfl) rfl (fun g => by kernel_rfl) (fun W hW => (le W hW).cell 2) (fun w => by kernel_rfl)) 
        (goes_cons (goesK_call (args := fun g => #[.int .i64 o']) hst (ahead_none (by decide)) rfl (by decide) (by decide) (by kernel_rfl) (fun g => by kernel_rfl) rfl (fun g => by kernel_rfl) (fun g w => by kernel_rfl) (fun g W hW hin => HPR.out W)) 
        (goes_cons (goesK_pure (fun _ => .pointer (some ⟨w1.heap.size, 0, none⟩)) rfl (by decide) (by decide) (by kernel_rfl) (fun g => by kernel_rfl) rfl (fun g => by kernel_rfl) (fun g w => by kernel_rfl)) 
        (goes_cons (goesK_cell hst (ahead_none (by decide)) rfl (by decide) (by decide) (by kernel_rfl) (fun g => by kernel_rfl) rfl (fun g => by kernel_rfl) rfl (fun g => by kernel_rfl) (fun W hW => (le W hW).cell 0) (fun w => by kernel_rfl)) 
        (goes_cons (goesK_any hst (ahead_none (by decide)) rfl (by decide) (by decide) 0 rfl (by kernel_rfl) (fun g => by kernel_rfl) rfl (fun g => by kernel_rfl) (fun g W hW hin => two_made rfl rfl rfl W)) 
        (goes_cons (goesK_ghost (args := fun g => #[g 30]) hst (ahead_none (by decide)) rfl (by decide) (by decide) 1 rfl (by kernel_rfl) (fun g => by kernel_rfl) rfl (fun g => by kernel_rfl) (fun g w => by kernel_rfl) (fun g W hW hin => ftwo_seq (hin 0 _ rfl (by kernel_rfl)))) 
        (goes_cons (goesK_ghost (args := fun g => #[g 31]) hst (ahead_none (by decide)) rfl (by decide) (by decide) 2 rfl (by kernel_rfl) (fun g => by kernel_rfl) rfl (fun g => by kernel_rfl) (fun g w => by kernel_rfl) (fun g W hW hin => fseq_put HL.out HN.out HM.out (HT.out W hW) (hin 1 _ rfl (by kernel_rfl)))) 
        (goes_cons (goesK_name (p' := 2) hst (ahead_none (by decide)) rfl (by decide) (by decide) 3 rfl rfl (by kernel_rfl) (by kernel_rfl) (fun g => by kernel_rfl) rfl (fun g => by kernel_rfl) (fun g w => by kernel_rfl)) 
        (goes_cons (goesK_any hst (ahead_none (by decide)) rfl (by decide) (by decide) 4 rfl (by kernel_rfl) (fun g => by kernel_rfl) rfl (fun g => by kernel_rfl) (fun g W hW hin => by obtain ⟨A, d, hv, hn, hr⟩ := hin 3 _ rfl (by kernel_rfl); exact ⟨_, W, ext_0 rfl hv W, ⟨A, d, rfl, hn, hr⟩, Below.refl _ _⟩)) 
        (goes_cons (goesK_know (.int .i64 0) hst (ahead_none (by decide)) rfl (by decide) (by decide) (by kernel_rfl) (fun g => by kernel_rfl) rfl (fun g => by kernel_rfl) (fun g w hW hin => by obtain ⟨A, d, hv, hn, hr⟩ := hin 3 _ rfl (by kernel_rfl); exact ext_1 rfl hv w)) 
        (goes_cons (goesK_name (p' := 4) hst (ahead_none (by decide)) rfl (by decide) (by decide) 5 rfl rfl (by kernel_rfl) (by kernel_rfl) (fun g => by kernel_rfl) rfl (fun g => by kernel_rfl) (fun g w => by kernel_rfl)) 
        (goes_cons (goesK_pure (fun _ => .int .i64 0) rfl (by decide) (by decide) (by kernel_rfl) (fun g => by kernel_rfl) rfl (fun g => by kernel_rfl) (fun g w => by kernel_rfl)) goes_nil))))))))))))) ?_
      intro g W hW hK
      obtain ⟨A, d, h8, hn, hr⟩ := hK 5 _ rfl
      have hB4 := hB3.trans (hW.mono hB3.size)
      have h8 : (g 8 : Value) = .slice A n d := h8
      simp only [h8]
      generalize g 24 = v24
      generalize g 30 = v30
      generalize g 31 = v31
      generalize g 32 = v32
      generalize g 33 = v33
      clear hK le hst h8
      go_wp2_with fail
      refine bodyPost_ret (v := .tuple #[.slice A n d, .bool true]) (by simp [results, Tryd.results5, go_sem]) rfl ⟨A, d, rfl, hn, hr, hB4⟩
end Go.Proofs.YtmagokkegadmiaaDoor
namespace Go.Proofs.YtmagokkegadmiaaDoor
open Go.RowKit

theorem take_gen (k : Int) (hk : k = 1 ∨ k = 2 ∨ k = 3 ∨ k = 4 ∨ k = 5) (g : Nat) (A : Option Addr) (c : Nat) (l r : List UInt8) (w : World) (hlc : l.length ≤ c) (hl : l.length ≤ 4294967296) (ht : TabIn g w) (h : Rdr w g A c l (.int .i64 k) (.int .u8 0) (.slice none 0 0) (.string ⟨#[]⟩) (.int .u8 0) (.string ⟨#[]⟩) r) :
    Calls Tryd.prog 29 #[.pointer (some ⟨g, 0, none⟩), fmV (formF k)] w (TakePost k g A c l r w) := by
  rcases hk with rfl | rfl | rfl | rfl | rfl
  · exact take1_any g A c l r w hlc hl ht h
  · exact take2_any g A c l r w hlc hl ht h
  · exact take3_any g A c l r w hlc hl ht h
  · exact take4_any g A c l r w hlc hl ht h
  · exact take5_any g A c l r w hlc hl ht h
theorem read_bounds (k : Int) (r : List UInt8) : (readF k r).1.kind = k ∧ parOk (readF k r).1.params = true ∧ (readF k r).1.inter.length ≤ 2 := by
  refine ⟨rfl, ?_, ?_⟩
  · unfold readF rd2
    dsimp only
    split
    · exact (paramsF_app _).2
    · rfl
  · unfold readF rd3
    dsimp only
    split
    · exact runF_len _ _ _ _
    · simp
theorem kind_step {l : List UInt8} {k : Int} (hk : k = 1 ∨ k = 2 ∨ k = 3 ∨ k = 4 ∨ k = 5) (h : ∀ j : Int, 1 ≤ j → j < k → skipB (headF j) l = false) (hs : skipB (headF k) l = true) : kindF l = k := by
  have e1 : headF 1 = [27, 91] := rfl
  have e2 : headF 2 = [27, 79] := rfl
  have e3 : headF 3 = [27, 80] := rfl
  have e4 : headF 4 = [27, 93] := rfl
  have e5 : headF 5 = [27] := rfl
  unfold kindF
  rcases hk with rfl | rfl | rfl | rfl | rfl
  · rw [e1] at hs; rw [if_pos hs]
  · have h1 := h 1 (by omega) (by omega)
    rw [e1] at h1; rw [e2] at hs
    rw [h1, hs]; rfl
  · have h1 := h 1 (by omega) (by omega)
    have h2 := h 2 (by omega) (by omega)
    rw [e1] at h1; rw [e2] at h2; rw [e3] at hs
    rw [h1, h2, hs]; rfl
  · have h1 := h 1 (by omega) (by omega)
    have h2 := h 2 (by omega) (by omega)
    have h3 := h 3 (by omega) (by omega)
    rw [e1] at h1; rw [e2] at h2; rw [e3] at h3; rw [e4] at hs
    rw [h1, h2, h3, hs]; rfl
  · have h1 := h 1 (by omega) (by omega)
    have h2 := h 2 (by omega) (by omega)
    have h3 := h 3 (by omega) (by omega)
    have h4 := h 4 (by omega) (by omega)
    rw [e1] at h1; rw [e2] at h2; rw [e3] at h3; rw [e4] at h4; rw [e5] at hs
    rw [h1, h2, h3, h4, hs]; rfl
theorem kind_none {l : List UInt8} (h : ∀ j : Int, 1 ≤ j → j < 6 → skipB (headF j) l = false) : kindF l = 0 := by
  have h1 : skipB [27, 91] l = false := h 1 (by omega) (by omega)
  have h2 : skipB [27, 79] l = false := h 2 (by omega) (by omega)
  have h3 : skipB [27, 80] l = false := h 3 (by omega) (by omega)
  have h4 : skipB [27, 93] l = false := h 4 (by omega) (by omega)
  have h5 : skipB [27] l = false := h 5 (by omega) (by omega)
  unfold kindF
  rw [h1, h2, h3, h4, h5]; rfl

/-- What Take tells. -/
def TkP (l : List UInt8) (w : World) (e : Ending) (w' : World) : Prop :=
  (∀ s t, progF l = some (s, t) → ∃ A c, e = .returned (.tuple #[sqV s A c, .int .i64 ((l.length - t.length : Nat) : Int), .int .i64 0]) ∧ RdP w' A s.params) ∧
  (progF l = none → e = .returned (.tuple #[zeroS, .int .i64 0, .int .i64 2])) ∧ Below w.heap.size w w'

theorem tk_none {l : List UInt8} {w w' : World} (h : progF l = none) (hb : Below w.heap.size w w') : TkP l w (.returned (.tuple #[zeroS, .int .i64 0, .int .i64 2])) w' :=
  ⟨fun s t e => (by rw [h] at e; cases e), fun _ => rfl, hb⟩
theorem tk_some {l t : List UInt8} {s : Sq} {w w' : World} {A : Option Addr} {np c n : Nat} (h : progF l = some (s, t)) (hp : s.params.length = np) (hn : l.length - t.length = n) (hr : RdP w' A s.params) (hb : Below w.heap.size w w') :
    TkP l w (.returned (.tuple #[.agg #[.int .i64 s.kind, .int .u8 (s.priv.toNat : Int), .slice A np c, .string ⟨s.inter.toArray⟩, .int .u8 (s.final.toNat : Int), .string ⟨s.data.toArray⟩], .int .i64 (n : Int), .int .i64 0])) w' := by
  subst hp
  subst hn
  refine ⟨fun s' t' e => ?_, fun e => (by rw [h] at e; cases e), hb⟩
  rw [h] at e
  simp only [Option.some.injEq, Prod.mk.injEq] at e
  obtain ⟨rfl, rfl⟩ := e
  exact ⟨A, c, rfl, hr⟩
theorem letter_len (k : Int) : (formF k).letter.length ≤ 1 ∧ (formF k).en.length ≤ 2 := by
  unfold formF
  (repeat' split) <;> simp

set_option maxRecDepth 100000 in
set_option maxHeartbeats 8000000 in
theorem ptake_any (A : Option Addr) (c : Nat) (l : List UInt8) (w : World) (hlc : l.length ≤ c) (hl : l.length ≤ 4294967296) (ht : Tab w) (hr : Rd w A (bs l)) :
    Calls Tryd.prog 12 #[.slice A l.length c] w (TkP l w) := by
  go_enter Tryd.func12, Tryd.ntmps12
  go_wp2_with fail
  have hb0 : Below w.heap.size w ((w.alloc (.cells #[.int .i64 0, .int .u8 0, .slice none 0 0, .string ⟨#[]⟩, .int .u8 0, .string ⟨#[]⟩] 43)).alloc (.cells #[.slice A l.length c, .int .i64 0, .int .i64 0, .int .u8 0, .slice none 0 0, .string ⟨#[]⟩, .int .u8 0, .string ⟨#[]⟩] 74)) := ((Below.refl _ w).alloc (Nat.le_refl _) _).alloc (by simp) _
  have hq0 : Blk ((w.alloc (.cells #[.int .i64 0, .int .u8 0, .slice none 0 0, .string ⟨#[]⟩, .int .u8 0, .string ⟨#[]⟩] 43)).alloc (.cells #[.slice A l.length c, .int .i64 0, .int .i64 0, .int .u8 0, .slice none 0 0, .string ⟨#[]⟩, .int .u8 0, .string ⟨#[]⟩] 74)) w.heap.size 43 #[.int .i64 0, .int .u8 0, .slice none 0 0, .string ⟨#[]⟩, .int .u8 0, .string ⟨#[]⟩] := (Blk.new w _ _).alloc _
  have hk0 := Blk.new (w.alloc (.cells #[.int .i64 0, .int .u8 0, .slice none 0 0, .string ⟨#[]⟩, .int .u8 0, .string ⟨#[]⟩] 43)) 74 #[.slice A l.length c, .int .i64 0, .int .i64 0, .int .u8 0, .slice none 0 0, .string ⟨#[]⟩, .int .u8 0, .string ⟨#[]⟩]
  rw [World.size_alloc] at hk0
  have hb1 : Below w.heap.size w (w.alloc (.cells #[.int .i64 0, .int .u8 0, .slice none 0 0, .string ⟨#[]⟩, .int .u8 0, .string ⟨#[]⟩] 43)) := (Below.refl _ w).alloc (Nat.le_refl _) _
  have ht0 : TabIn (w.heap.size + 1) ((w.alloc (.cells #[.int .i64 0, .int .u8 0, .slice none 0 0, .string ⟨#[]⟩, .int .u8 0, .string ⟨#[]⟩] 43)).alloc (.cells #[.slice A l.length c, .int .i64 0, .int .i64 0, .int .u8 0, .slice none 0 0, .string ⟨#[]⟩, .int .u8 0, .string ⟨#[]⟩] 74)) := by
    have h1 : TabIn (w.alloc (.cells #[.int .i64 0, .int .u8 0, .slice none 0 0, .string ⟨#[]⟩, .int .u8 0, .string ⟨#[]⟩] 43)).heap.size (w.alloc (.cells #[.int .i64 0, .int .u8 0, .slice none 0 0, .string ⟨#[]⟩, .int .u8 0, .string ⟨#[]⟩] 43)) := Lib.tabBelow_of_tabIs (ht.below hb1)
    rw [World.size_alloc] at h1
    exact h1.below ((Below.refl _ _).alloc (by simp) _)
  have hrd0 : RdIn (w.heap.size + 1) ((w.alloc (.cells #[.int .i64 0, .int .u8 0, .slice none 0 0, .string ⟨#[]⟩, .int .u8 0, .string ⟨#[]⟩] 43)).alloc (.cells #[.slice A l.length c, .int .i64 0, .int .i64 0, .int .u8 0, .slice none 0 0, .string ⟨#[]⟩, .int .u8 0, .string ⟨#[]⟩] 74)) A (bs l) := fun hp => by
    obtain ⟨b, o, rfl, hb, hc⟩ := hr hp
    exact ⟨b, o, rfl, by omega, fun k u hu => (hb0.cell (p := ⟨b, o + k, none⟩) hb).trans (hc k u hu)⟩
  have hR0 : Rdr ((w.alloc (.cells #[.int .i64 0, .int .u8 0, .slice none 0 0, .string ⟨#[]⟩, .int .u8 0, .string ⟨#[]⟩] 43)).alloc (.cells #[.slice A l.length c, .int .i64 0, .int .i64 0, .int .u8 0, .slice none 0 0, .string ⟨#[]⟩, .int .u8 0, .string ⟨#[]⟩] 74)) (w.heap.size + 1) A c l (.int .i64 0) (.int .u8 0) (.slice none 0 0) (.string ⟨#[]⟩) (.int .u8 0) (.string ⟨#[]⟩) l := ⟨0, Nat.zero_le _, rfl, hrd0, hk0⟩
  clear hk0 hrd0 hb1 hr ht
  have hgw : w.heap.size < w.heap.size + 1 := Nat.lt_succ_self _
  generalize w.heap.size + 1 = g at *
  generalize (w.alloc (.cells #[.int .i64 0, .int .u8 0, .slice none 0 0, .string ⟨#[]⟩, .int .u8 0, .string ⟨#[]⟩] 43)).alloc (.cells #[.slice A l.length c, .int .i64 0, .int .i64 0, .int .u8 0, .slice none 0 0, .string ⟨#[]⟩, .int .u8 0, .string ⟨#[]⟩] 74) = W0 at *
  have hg0 := World.grownBy.refl W0 (some g)
  have hb0lt : g < W0.heap.size := hR0.lt
  go_loopw [6] (fun i wr => ∃ k : Nat, 1 ≤ k ∧ k ≤ 6 ∧ i = .int .i64 k ∧ Rdr wr g A c l (.int .i64 0) (.int .u8 0) (.slice none 0 0) (.string ⟨#[]⟩) (.int .u8 0) (.string ⟨#[]⟩) l ∧ TabIn g wr ∧ W0.grownBy wr (some g) ∧ Blk wr w.heap.size 43 #[.int .i64 0, .int .u8 0, .slice none 0 0, .string ⟨#[]⟩, .int .u8 0, .string ⟨#[]⟩] ∧ Hid (∀ j : Int, 1 ≤ j → j < (k : Int) → skipB (headF j) l = false)) (fun i _ => 6 - (intOf i).toNat)
  case atStart => exact ⟨1, by omega, by omega, rfl, hR0, ht0, hg0, hq0, Lib.hid fun j h1 h2 => absurd h2 (by omega)⟩
  case round =>
    obtain ⟨k, hk1, hk6, rfl, hR, hT, hG, hq, HK⟩ := hrel
    clear hR0 ht0 hg0 hq0
    by_cases h6 : k = 6
    · subst h6
      have HN := Lib.hid (show progF l = none by unfold progF; rw [kind_none HK.out]; rfl)
      obtain ⟨c0, c1, c2, c3, c4, c5⟩ := Blk.cells6 hq
      have z0 := hq.frozen 0
      have z1 := hq.frozen 1
      have z2 := hq.frozen 2
      have z3 := hq.frozen 3
      have z4 := hq.frozen 4
      have z5 := hq.frozen 5
      have hbw : Below w.heap.size w wr := hb0.trans (below_grown hG (Nat.le_of_lt hgw) hb0lt)
      go_wp2_with fail
      refine bodyPost_ret (v := .tuple #[zeroS, .int .i64 0, .int .i64 2]) (by simp [results, Tryd.results12, go_sem, zeroS, c0, c1, c2, c3, c4, c5]) rfl (tk_none HN.out ?_)
      exact below_set6 hbw (Nat.le_refl _) _ _ _ _ _ _
    · have hkk : (k : Int) = 1 ∨ (k : Int) = 2 ∨ (k : Int) = 3 ∨ (k : Int) = 4 ∨ (k : Int) = 5 := by omega
      have HKK := Lib.hid hkk
      have k5 : (k : Int) ≤ 5 := by omega
      have hlf := (letter_len (k : Int)).1
      have hle := (letter_len (k : Int)).2
      have HKB := Lib.hid (show kindB (k : Int) = true from decide_eq_true hkk)
      clear hkk h6
      go_wp2_with fail
      refine (formOf_any (k : Int) _).mono ?_
      rw [HKB.out]
      rintro e w1 ⟨rfl, hbf⟩
      have hR1 := hR.below hbf hR.lt
      have hT1 := hT.below (hbf.mono (Nat.le_of_lt hR.lt))
      have hG1 := grown_trans hG (grown_below (some g) hbf)
      have hq1 := hq.below hbf hq.lt
      clear hR hT hG hq hbf
      obtain ⟨f, hf⟩ : ∃ f, formF (k : Int) = f := ⟨_, rfl⟩
      have HF := Lib.hid hf
      rw [hf] at hlf hle ⊢
      clear hf
      have hFM := Blk.new w1 62 (frmC f)
      have hR2 := hR1.below ((Below.refl _ w1).alloc (Nat.le_refl _) (.cells (frmC f) 62)) hR1.lt
      have hT2 := hT1.below ((Below.refl g w1).alloc (Nat.le_of_lt hR1.lt) (.cells (frmC f) 62))
      have hG2 : W0.grownBy (w1.alloc (.cells (frmC f) 62)) (some g) := grown_trans hG1 (World.grownBy_alloc w1 _ _)
      have hq2 := hq1.alloc (.cells (frmC f) 62)
      have hgf : g < w1.heap.size := hR1.lt
      have hqf : w.heap.size < w1.heap.size := hq1.lt
      clear hR1 hT1 hG1 hq1
      unfold fmV
      go_upto_region 6 with (fail)
      unfold frmC at hR2 hT2 hG2 hq2 hFM
      generalize w1.alloc (.cells #[.string ⟨f.letter.toArray⟩, .bool f.body, .bool f.inter, .int .u8 (f.first.toNat : Int), .string ⟨f.en.toArray⟩] 62) = W2 at *
      obtain ⟨f0, f1, f2, f3, f4⟩ := Blk.cells5 hFM
      have hcat : (⟨#[27]⟩ : ByteArray) ++ (⟨f.letter.toArray⟩ : ByteArray) = ⟨(headF (k : Int)).toArray⟩ := by
        rw [show headF (k : Int) = 27 :: f.letter by unfold headF; rw [HF.out]]
        exact str_cat [27] f.letter _ rfl
      cases hs : skipB (headF (k : Int)) l with
      | false =>
        have HS := Lib.hid hs
        clear hs
        go_wp2_with fail
        refine (skip_no g A c l (headF (k : Int)) l _ _ _ _ _ _ _ HS.out hlc hl (by rw [show headF (k : Int) = 27 :: f.letter by unfold headF; rw [HF.out]]; simp; omega) hR2).mono ?_
        rintro e w3 ⟨rfl, hR3, hg3⟩
        have hT3 := hT2.grown hg3 hR2.lt
        have hG3 := grown_trans hG2 hg3
        have hq3 := hq2.grown hg3 (fun e => by injection e; omega)
        clear hR2 hT2 hG2 hq2 hg3
        go_wp2_with fail
        go_roundw
        case rel =>
          refine ⟨k + 1, by omega, by omega, by go_num, hR3, hT3, hG3, hq3, Lib.hid fun j h1 h2 => ?_⟩
          by_cases e : j = (k : Int)
          · rw [e]; exact HS.out
          · exact HK.out j h1 (by omega)
        case measure => simp [intOf]; omega
      | true =>
        have HS := Lib.hid hs
        have HKF := Lib.hid (kind_step HKK.out HK.out hs)
        clear hs HK
        obtain ⟨r, hr⟩ : ∃ r, l.drop (headF (k : Int)).length = r := ⟨_, rfl⟩
        have HRR := Lib.hid hr
        have HPR := Lib.hid (show progF l = endF (k : Int) (readF (k : Int) r) by unfold progF; rw [HKF.out, if_neg (by omega), hr])
        clear hr
        go_wp2_with fail
        refine (skip_yes g A c l (headF (k : Int)) l _ _ _ _ _ _ _ HS.out hlc hl (by rw [show headF (k : Int) = 27 :: f.letter by unfold headF; rw [HF.out]]; simp; omega) hR2).mono ?_
        rw [HRR.out]
        rintro e w3 ⟨rfl, hR3, hg3⟩
        have hT3 := hT2.grown hg3 hR2.lt
        have hG3 := grown_trans hG2 hg3
        have hq3 := hq2.grown hg3 (fun e => by injection e; omega)
        have hF3 := hFM.grown hg3 (fun e => by injection e; omega)
        clear hR2 hT2 hG2 hq2 hg3 hFM f0 f1 f2 f3 f4
        have hs4 := grown_setCell g 2 (Value.int IntKind.i64 (k : Int)) w3
        have hR4 := hR3.set0 (.int .i64 (k : Int))
        have hT4 := hT3.grown hs4 hR3.lt
        have hG4 := grown_trans hG3 hs4
        have hq4 := hq3.grown hs4 (fun e => by injection e; omega)
        have hF4 := hF3.grown hs4 (fun e => by injection e; omega)
        obtain ⟨⟨c2, c3, c4, c5, c6, c7⟩, z2, z3, z4, z5, z6, z7⟩ := hR3.cells
        obtain ⟨f0, f1, f2, f3, f4⟩ := Blk.cells5 hF4
        clear hR3 hT3 hG3 hq3 hF3 hs4
        go_wp2_with fail
        clear c2 c3 c4 c5 c6 c7 z2 z3 z4 z5 z6 z7 f0 f1 f2 f3 f4 hF4
        generalize w3.setCell ⟨g, 2, none⟩ (Value.int IntKind.i64 (k : Int)) = W4 at *
        rw [← show fmV f = .agg #[.string ⟨f.letter.toArray⟩, .bool f.body, .bool f.inter, .int .u8 (f.first.toNat : Int), .string ⟨f.en.toArray⟩] from rfl, ← HF.out]
        refine (take_gen (k : Int) HKK.out g A c l r _ hlc hl hT4 hR4).mono ?_
        rintro e w5 ⟨⟨Ap, cp, hP5, hR5⟩, rfl, hg5⟩
        have hT5 := hT4.grown hg5 hR4.lt
        have hG5 := grown_trans hG4 hg5
        have hq5 := hq4.grown hg5 (fun e => by injection e; omega)
        clear hR4 hT4 hG4 hq4 hg5
        obtain ⟨b1, b2, b3⟩ := read_bounds (k : Int) r
        obtain ⟨s, hs⟩ : ∃ s, (readF (k : Int) r).1 = s := ⟨_, rfl⟩
        obtain ⟨t, htt⟩ : ∃ t, (readF (k : Int) r).2 = t := ⟨_, rfl⟩
        have HPE := Lib.hid (show progF l = endF (k : Int) (s, t) by rw [HPR.out, ← hs, ← htt])
        rw [hs, htt] at hR5
        rw [hs] at hP5 b1 b2 b3
        rw [htt, HF.out]
        rw [HF.out] at hR5
        clear HPR hs htt
        have HB1 := Lib.hid b1
        have HB2 := Lib.hid b2
        clear b1 b2
        cases hsk : skipB f.en t with
        | false =>
          have HN := Lib.hid (show progF l = none by rw [HPE.out]; unfold endF; rw [if_neg]; rw [HF.out, hsk]; simp)
          clear hsk
          have hbw : Below w.heap.size w w5 := hb0.trans (below_grown hG5 (Nat.le_of_lt hgw) hb0lt)
          obtain ⟨c0, c1, c2, c3, c4, c5⟩ := Blk.cells6 hq5
          have z0 := hq5.frozen 0
          have z1 := hq5.frozen 1
          have z2 := hq5.frozen 2
          have z3 := hq5.frozen 3
          have z4 := hq5.frozen 4
          have z5 := hq5.frozen 5
          go_wp2_with fail
          refine bodyPost_ret (v := .tuple #[zeroS, .int .i64 0, .int .i64 2]) (by simp [results, Tryd.results12, go_sem, zeroS, c0, c1, c2, c3, c4, c5]) rfl (tk_none HN.out ?_)
          exact below_set6 hbw (Nat.le_refl _) _ _ _ _ _ _
        | true =>
          rw [hsk, if_pos rfl] at hR5
          have HSK := Lib.hid hsk
          clear hsk
          rw [← HB1.out] at hR5
          obtain ⟨np, hnp⟩ : ∃ np, s.params.length = np := ⟨_, rfl⟩
          have HNP := Lib.hid hnp
          obtain ⟨l16, l8⟩ := parOk_lens HB2.out
          obtain ⟨⟨c2, c3, c4, c5, c6, c7⟩, z2, z3, z4, z5, z6, z7⟩ := hR5.cells
          obtain ⟨m, hm⟩ : ∃ m, mayS s = m := ⟨_, rfl⟩
          have HM := Lib.hid hm
          have hL8 : Hid (∀ p ∈ s.params, p.length ≤ 4294967296) := Lib.hid fun p hp => by have := (l8 p hp).1; omega
          clear hnp hm l8
          go_wp2_with fail
          clear c2 c3 c4 c5 c6 c7 z2 z3 z4 z5 z6 z7
          refine (pmay_any s Ap cp m _ HM.out (by omega) hL8.out (by omega) hP5.rdp).mono ?_
          rintro e w6 ⟨rfl, hb6⟩
          have hR6 := hR5.below hb6 hR5.lt
          have hG6 := grown_trans hG5 (grown_below (some g) hb6)
          have hq6 := hq5.below hb6 hq5.lt
          have hP6 := hP5.grown (grown_below (some g) hb6)
          clear hR5 hG5 hq5 hP5 hT5 hb6
          by_cases h0 : m = 0
          · subst h0
            have HY := Lib.hid (show progF l = some (s, t.drop f.en.length) by rw [HPE.out]; unfold endF; rw [if_pos ⟨by rw [HF.out]; exact HSK.out, HM.out⟩, HF.out])
            have hbw : Below w.heap.size w w6 := hb0.trans (below_grown hG6 (Nat.le_of_lt hgw) hb0lt)
            obtain ⟨⟨c2, c3, c4, c5, c6, c7⟩, z2, z3, z4, z5, z6, z7⟩ := hR6.cells
            have hR7 := hR6
            obtain ⟨at_, hat, hdr, hrd6, hblk6⟩ := hR7
            have c1 : w6.cell? ⟨g, 1, none⟩ = some (.int .i64 (at_ : Int)) := hblk6.cell 1
            obtain ⟨d0, d1, d2, d3, d4, d5⟩ := Blk.cells6 hq6
            have y0 := hq6.frozen 0
            have y1 := hq6.frozen 1
            have y2 := hq6.frozen 2
            have y3 := hq6.frozen 3
            have y4 := hq6.frozen 4
            have y5 := hq6.frozen 5
            have HLN := Lib.hid (show l.length - (t.drop f.en.length).length = at_ by
              rw [← hdr, List.length_drop]; omega)
            have hLt : at_ = l.length - (t.drop f.en.length).length := HLN.out.symm
            have HLT := Lib.hid hLt
            clear hdr hat hrd6 hblk6 hLt
            go_wp2_with fail
            go_region
            go_wp2_with fail
            refine bodyPost_ret (v := .tuple #[.agg #[.int .i64 s.kind, .int .u8 (s.priv.toNat : Int), .slice Ap s.params.length cp, .string ⟨s.inter.toArray⟩, .int .u8 (s.final.toNat : Int), .string ⟨s.data.toArray⟩], .int .i64 (at_ : Int), .int .i64 0]) (by simp [results, Tryd.results12, go_sem, d0, d1, d2, d3, d4, d5]) rfl (tk_some HY.out rfl HLN.out ?_ ?_)
            · have g1 := grown_set6 w6 w.heap.size (.int .i64 s.kind) (.int .u8 (s.priv.toNat : Int)) (.slice Ap s.params.length cp) (.string ⟨s.inter.toArray⟩) (.int .u8 (s.final.toNat : Int)) (.string ⟨s.data.toArray⟩)
              have h7 := (hP6.other hq6 (by decide) (by decide) g1).rdp
              exact rdp_drew h7
            · have h8 := below_set6 hbw (Nat.le_refl _) (.int .i64 s.kind) (.int .u8 (s.priv.toNat : Int)) (.slice Ap s.params.length cp) (.string ⟨s.inter.toArray⟩) (.int .u8 (s.final.toNat : Int)) (.string ⟨s.data.toArray⟩)
              exact h8.drew
          · have t1 : (m == 0) = false := beq_false_of_ne h0
            have t2 : (m != 0) = true := by simp [bne, t1]
            have HN := Lib.hid (show progF l = none by rw [HPE.out]; unfold endF; rw [if_neg]; exact fun h => h0 (HM.out.symm.trans h.2))
            clear h0
            have hbw : Below w.heap.size w w6 := hb0.trans (below_grown hG6 (Nat.le_of_lt hgw) hb0lt)
            obtain ⟨c0, c1, c2, c3, c4, c5⟩ := Blk.cells6 hq6
            have z0 := hq6.frozen 0
            have z1 := hq6.frozen 1
            have z2 := hq6.frozen 2
            have z3 := hq6.frozen 3
            have z4 := hq6.frozen 4
            have z5 := hq6.frozen 5
            go_wp2_with fail
            refine bodyPost_ret (v := .tuple #[zeroS, .int .i64 0, .int .i64 2]) (by simp [results, Tryd.results12, go_sem, zeroS, c0, c1, c2, c3, c4, c5]) rfl (tk_none HN.out ?_)
            exact below_set6 hbw (Nat.le_refl _) _ _ _ _ _ _
/-- Take, where there is a sequence, and where there is none. -/
def TkYes (s : Sq) (m : Nat) (w : World) (e : Ending) (w' : World) : Prop := (∃ A c, e = .returned (.tuple #[sqV s A c, .int .i64 (m : Int), .int .i64 0]) ∧ RdP w' A s.params) ∧ Below w.heap.size w w'
theorem ptake_yes (A : Option Addr) (n c : Nat) (l : List UInt8) (s : Sq) (m : Nat) (w : World) (hs : takeS l = some (s, m)) (hn : l.length = n) (hlc : n ≤ c) (hl : n ≤ 4294967296) (ht : Tab w) (hr : Rd w A (bs l)) :
    Calls Tryd.prog 12 #[.slice A n c] w (TkYes s m w) := by
  subst hn
  obtain ⟨h1, h2⟩ := prog_some hs
  refine (ptake_any A c l w hlc hl ht hr).mono ?_
  rintro e w' ⟨hp, _, hb⟩
  obtain ⟨A', c', rfl, hr'⟩ := hp s _ h1
  refine ⟨⟨A', c', ?_, hr'⟩, hb⟩
  rw [List.length_drop, show l.length - (l.length - m) = m by omega]
theorem ptake_no (A : Option Addr) (n c : Nat) (l : List UInt8) (w : World) (hs : takeS l = none) (hn : l.length = n) (hlc : n ≤ c) (hl : n ≤ 4294967296) (ht : Tab w) (hr : Rd w A (bs l)) :
    Calls Tryd.prog 12 #[.slice A n c] w fun e w' => e = .returned (.tuple #[zeroS, .int .i64 0, .int .i64 2]) ∧ Below w.heap.size w w' := by
  subst hn
  refine (ptake_any A c l w hlc hl ht hr).mono ?_
  rintro e w' ⟨_, hp, hb⟩
  exact ⟨hp (prog_none hs), hb⟩
end Go.Proofs.YtmagokkegadmiaaDoor
