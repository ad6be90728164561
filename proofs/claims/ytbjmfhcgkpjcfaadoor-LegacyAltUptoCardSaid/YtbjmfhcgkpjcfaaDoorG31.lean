/-
  In a drawn region whose calls answer what the run alone tells: a value that is known by these answers; bytes that such an answer is, made a string. Stage 11, the landed legacy: the deferred call, which puts the escape byte ahead. Stage 11, the landed legacy: letters and numbers.
-/
import Derived.Test.YtbjmfhcgkpjcfaaDoorG03
import Derived.Test.YtbjmfhcgkpjcfaaDoorG17
import Derived.Test.YtbjmfhcgkpjcfaaDoorG26
import Derived.Test.YtbjmfhcgkpjcfaaDoorG29
import Derived.Test.YtbjmfhcgkpjcfaaDoorG30
import Derived.Defers
import Derived.Recover
import Derived.Deep.Cut
namespace Go.Proofs.YtbjmfhcgkpjcfaaDoor
open Go.RowKit

section
variable {P : Program} {ops : Array Oper} {md : Region.Mode} {w1 : World} {K : List Fact} {ix iz : Nat} {R0 R1 : (Tmp → Value) → World → World → Prop} {aF : (Tmp → Value) → Act} {i : Nat} {o : Oper}
theorem goesK_know (v : Value) (hst : ∀ f ∈ K, f.ok) (hah : Ahead md ops ix i) (hio : ops[i]? = some o) (hx : i ≠ ix) (hz : i ≠ iz) (hni : (K.all fun f => f.i != i) = true) (hw : ∀ g, Region.wanted o (yielded ops (aF g).tmps) = true) {d0 : Tmp} (h0 : o.dst = some d0) (hd : ∀ g, (aF g).tmps[d0]? = some v)
    (h : ∀ g w, Below w1.heap.size w1 w → (∀ (q : Nat) (f : Fact), K[q]? = some f → edgeB md ops i f.i = true → f.F (g f.d) w) → (execOp (aF g).eval o).run P w = .ok (.value v) w) :
    GoesM P md ops aF (SK md ops w1 K ix iz R0 R1) i o := fun l g w hsz hf hrd hS => by
  rw [if_pos (hw g)]
  have hfx := hah l hsz hS.shut hf
  obtain ⟨h1, h2⟩ := hS.pre hfx
  refine .inl ⟨v, w, .inl (h g w h1 fun q f' hf' he => h2 f' (List.mem_of_getElem? hf') ?_), g, .inl rfl, (fun d' h' => by rw [h0] at h'; cases h'; exact hd g), hS.quiet hst (hS.shut.step hio hrd) (Below.refl _ _) hx hz hni hfx⟩
  unfold edgeB at he
  rw [hio] at he
  obtain ⟨e, he, hb⟩ := Array.any_eq_true'.1 he
  simp only [Bool.and_eq_true, beq_iff_eq] at hb
  rw [← hb.2]
  exact hrd e he hb.1
/-- What a call that tells bytes answers. -/
def FB (L : List UInt8) (v : Value) (w : World) : Prop := ∃ A c, v = .slice A L.length c ∧ Rd w A (bs L)
theorem fb_ok (i : Nat) (d : Tmp) (L : List UInt8) : (⟨i, d, FB L⟩ : Fact).ok := fun _ _ _ ⟨A, c, e, h⟩ hb => ⟨A, c, e, h.below hb⟩
theorem fb_out {L : List UInt8} {w : World} {f : FuncId} {args : Array Value} (h : Calls P f args w (Out L w)) : Calls P f args w fun e w' => ∃ v, e = .returned v ∧ FB L v w' ∧ Below w.heap.size w w' :=
  h.mono fun _ _ ⟨A, c, he, hr, hb⟩ => ⟨_, he, ⟨A, c, rfl, hr⟩, hb⟩
theorem goesK_str {L : List UInt8} {src dst e : TypeId} {x : Operand} {j : Nat} {d : Tmp} (p : Nat) (hat : K[p]? = some ⟨j, d, FB L⟩) (hed : edgeB md ops i j = true) (hsrc : P.underlying src = some (.slice e)) (he : P.underlying e = some (.int .u8)) (hdst : P.underlying dst = some .string)
    (hst : ∀ f ∈ K, f.ok) (hah : Ahead md ops ix i) (hio : ops[i]? = some o) (hx : i ≠ ix) (hz : i ≠ iz) (hni : (K.all fun f => f.i != i) = true) (hw : ∀ g, Region.wanted o (yielded ops (aF g).tmps) = true) {d0 : Tmp} (h0 : o.dst = some d0) (hd : ∀ g, (aF g).tmps[d0]? = some (.string ⟨L.toArray⟩))
    (ho : o.op = .convert src dst x) (hxv : ∀ g, (aF g).eval x = g d) : GoesM P md ops aF (SK md ops w1 K ix iz R0 R1) i o :=
  goesK_know _ hst hah hio hx hz hni hw h0 hd fun g w _ hin => by
    obtain ⟨A, c, hv, hr⟩ := hin p _ hat hed
    simp only at hv
    unfold execOp
    simp only [ho, hxv, hv, Sem.run_bind, Sem.run_pure, conv_str hsrc he rfl hr dst hdst, Result.andThen_ok]
/-- Bytes that are known, made a string. -/
theorem goesK_conv {L : List UInt8} {n c : Nat} {A : Option Addr} {src dst e : TypeId} {x : Operand} (hn : L.length = n) (hrd : ∀ W, Below w1.heap.size w1 W → Rd W A (bs L)) (hsrc : P.underlying src = some (.slice e)) (he : P.underlying e = some (.int .u8)) (hdst : P.underlying dst = some .string)
    (hst : ∀ f ∈ K, f.ok) (hah : Ahead md ops ix i) (hio : ops[i]? = some o) (hx : i ≠ ix) (hz : i ≠ iz) (hni : (K.all fun f => f.i != i) = true) (hw : ∀ g, Region.wanted o (yielded ops (aF g).tmps) = true) {d0 : Tmp} (h0 : o.dst = some d0) (hd : ∀ g, (aF g).tmps[d0]? = some (.string ⟨L.toArray⟩))
    (ho : o.op = .convert src dst x) (hxv : ∀ g, (aF g).eval x = .slice A n c) : GoesM P md ops aF (SK md ops w1 K ix iz R0 R1) i o :=
  goesK_know _ hst hah hio hx hz hni hw h0 hd fun g w hb _ => by
    unfold execOp
    simp only [ho, hxv, Sem.run_bind, Sem.run_pure, conv_str hsrc he hn (hrd w hb) dst hdst, Result.andThen_ok]
/-- How many bytes such an answer has. -/
theorem goesK_len {L : List UInt8} {j : Nat} {d : Tmp} (p : Nat) (hat : K[p]? = some ⟨j, d, FB L⟩) (hed : edgeB md ops i j = true)
    (hst : ∀ f ∈ K, f.ok) (hah : Ahead md ops ix i) (hio : ops[i]? = some o) (hx : i ≠ ix) (hz : i ≠ iz) (hni : (K.all fun f => f.i != i) = true) (hw : ∀ g, Region.wanted o (yielded ops (aF g).tmps) = true) {d0 : Tmp} (h0 : o.dst = some d0) (hd : ∀ g, (aF g).tmps[d0]? = some (.int .i64 (L.length : Int)))
    (hr : ∀ (g : Tmp → Value) (A : Option Addr) (c : Nat) (w : World), g d = .slice A L.length c → (execOp (aF g).eval o).run P w = .ok (.value (.int .i64 (L.length : Int))) w) : GoesM P md ops aF (SK md ops w1 K ix iz R0 R1) i o :=
  goesK_know _ hst hah hio hx hz hni hw h0 hd fun g w _ hin => by
    obtain ⟨A, c, hv, _⟩ := hin p _ hat hed
    exact hr g A c w hv
end
end Go.Proofs.YtbjmfhcgkpjcfaaDoor
namespace Go.Proofs.YtbjmfhcgkpjcfaaDoor
open Go.RowKit

set_option maxRecDepth 100000 in
set_option maxHeartbeats 8000000 in
theorem lclo_no (f e r : Nat) (v : Value) (w : World) (hf : Blk w f 55 #[v, .bool false]) :
    CallsD Tryd.prog 21 #[.pointer (some ⟨f, 0, none⟩), .pointer (some ⟨e, 0, none⟩), .pointer (some ⟨r, 0, none⟩)] .returning w fun x u w' => u = .returning ∧ (x = .returned (.tuple #[]) ∧ w' = w) := by
  have c1 := hf.cell 1
  go_enter_d Tryd.func21, Tryd.ntmps21
  go_wp2_with fail
  go_end0
  exact ⟨rfl, rfl⟩
set_option maxRecDepth 100000 in
set_option maxHeartbeats 8000000 in
theorem lclo_off (f g r : Nat) (v : Value) (m : Mo) (k : Ky) (e : En) (o : Int) (hq : (bits .and .i64 o 2 != 0) = false) (w : World) (hf : Blk w f 55 #[v, .bool true]) (hg : Blk w g 52 (evC m k e o)) :
    CallsD Tryd.prog 21 #[.pointer (some ⟨f, 0, none⟩), .pointer (some ⟨g, 0, none⟩), .pointer (some ⟨r, 0, none⟩)] .returning w fun x u w' => u = .returning ∧ (x = .returned (.tuple #[]) ∧ Below w.heap.size w w') := by
  have c1 := hf.cell 1
  have HH : Hid (∀ W, Calls Tryd.prog 22 #[.agg (evC m k e o), .int .i64 2] W fun x w' => x = .returned (.bool false) ∧ Below W.heap.size W w') := Lib.hid fun W => phas_any m k e o 2 false hq W
  clear hq
  go_enter_d Tryd.func21, Tryd.ntmps21
  go_wp2_with (with_reducible refine Blk.wp_getg hg Tryd.underlying52 rfl (by kernel_rfl) rfl (.tmp 1) rfl rfl ?_)
  refine (HH.out _).mono ?_
  rintro x w1 ⟨rfl, hb1⟩
  go_wp2_with fail
  go_end0
  exact ⟨rfl, hb1⟩
theorem own_esc (w : World) (B : Nat) (hB : B ≤ w.heap.size) : Own (w.alloc (.cells #[.int .u8 27] 5)) B 5 1 (.slice (some ⟨w.heap.size, 0, none⟩) 1 1) 1 [.int .u8 27] := own_lit _ B _ _ _ hB (heap_alloc_new w _)
set_option maxRecDepth 100000 in
set_option maxHeartbeats 8000000 in
theorem lclo_on (f g r B : Nat) (v : Value) (m : Mo) (k : Ky) (e : En) (o : Int) (hq : (bits .and .i64 o 2 != 0) = true) (A : Option Addr) (L : List UInt8) (n c : Nat) (hn : L.length = n) (hl : n ≤ 17179869184) (a w : World) (hf : Blk w f 55 #[v, .bool true]) (hg : Blk w g 52 (evC m k e o)) (hr : Blk w r 28 #[.slice A n c]) (hL : Rd w A (bs L)) (hB : Below B a w) (hrB : B ≤ r) :
    CallsD Tryd.prog 21 #[.pointer (some ⟨f, 0, none⟩), .pointer (some ⟨g, 0, none⟩), .pointer (some ⟨r, 0, none⟩)] .returning w fun x u w' => u = .returning ∧ (x = .returned (.tuple #[]) ∧ ∃ A' c', Blk w' r 28 #[.slice A' (n + 1) c'] ∧ Rd w' A' (bs (27 :: L)) ∧ Below B a w') := by
  have c1 := hf.cell 1
  have HN := Lib.hid hn
  have HH : Hid (∀ W, Calls Tryd.prog 22 #[.agg (evC m k e o), .int .i64 2] W fun x w' => x = .returned (.bool true) ∧ Below W.heap.size W w') := Lib.hid fun W => phas_any m k e o 2 true hq W
  obtain ⟨i0, hi, hz0, hz1, hz2⟩ : ∃ i, Tryd.prog.info? 5 = some i ∧ i.zero = some (.int .u8 0) ∧ i.size = 1 ∧ i.bytes = 1 := ⟨_, rfl, rfl, rfl, rfl⟩
  clear hq hn
  have hsz : B ≤ w.heap.size := by have := hr.lt; omega
  go_enter_d Tryd.func21, Tryd.ntmps21
  go_wp2_with (with_reducible refine Blk.wp_getg hg Tryd.underlying52 rfl (by kernel_rfl) rfl (.tmp 1) rfl rfl ?_)
  refine (HH.out _).mono ?_
  rintro x w1 ⟨rfl, hb1⟩
  have hB1 := hB.trans (hb1.mono hsz)
  have r1 := (hr.below hb1 hr.lt).alloc (.cells #[.int .u8 27] 5)
  have l1 := (hL.below hb1).alloc (.cells #[.int .u8 27] 5)
  have hrs := hr.lt
  have hb1s := hb1.size
  have hown := own_esc w1 (r + 1) (by omega)
  have hs2 : B ≤ w1.heap.size := by omega
  have hB2 := hB1.alloc hs2 (.cells #[.int .u8 27] 5)
  have c2 : (w1.alloc (.cells #[.int .u8 27] 5)).cell? ⟨r, 0, none⟩ = some (.slice A n c) := r1.cell 0
  have h63 : 1 + n ≤ maxLen := by simp only [maxLen]; omega
  have hlim : (1 + n) * 1 ≤ 140737488355328 := by omega
  have hbs : r + 1 ≤ (w1.alloc (.cells #[.int .u8 27] 5)).heap.size := r1.lt
  clear hf hg hr hL hB hB1 hb1 hrs hb1s hsz c1
  go_wp2_with (first | (at_builtin; refine list_app _ rfl (.tmp 9) (.tmp 10) 28 rfl (r + 1) 5 i0 _ 1 1 Tryd.underlying28 hi hz0 hz1 hz2 rfl Nat.one_pos _ _ _ rfl hown _ n c (bs L) rfl (by rw [bs_length, HN.out]; omega) l1 (bs_one L) h63 hlim hbs ?_; intro v4 w4 hown4 hg4; have r4 := r1.grown hg4 (fun e => by have := (hown.lt r e).1; omega); have f4 := r4.frozen 0; have c4 : w4.cell? ⟨r, 0, none⟩ = some (.slice A n c) := r4.cell 0; obtain ⟨A4, cc4, rfl, hr4⟩ := hown4.form))
  go_end0
  have hB4 : Below B a w4 := hB2.grown hg4 (by omega) (fun g hg => by have := (hown.lt g hg).1; omega)
  refine ⟨rfl, A4, cc4, ?_, ?_, hB4.setCell (p := ⟨r, 0, none⟩) hrB _⟩
  · rw [Nat.add_comm n 1]
    exact r4.set 0 _
  · have h5 := (hown4.keep (w' := w4.setCell ⟨r, 0, none⟩ (.slice A4 (1 + n) cc4)) fun k hk => heap_setCell_other w4 ⟨r, 0, none⟩ k _ (by have := (hown4.lt k hk).1; show k ≠ r; omega)).rd
    exact h5
end Go.Proofs.YtbjmfhcgkpjcfaaDoor
namespace Go.Proofs.YtbjmfhcgkpjcfaaDoor
open Go.RowKit

theorem fin_fin : ∀ k : Fin 111, (lookE (57344 + (k.1 : Int))).kind = 3 → (lookE (57344 + (k.1 : Int))).fin ≤ 83 := by decide +kernel
theorem fin_83 {c : Int} (h : (lookE c).kind = 3) : (lookE c).fin ≤ 83 := by
  by_cases hc : c < 57344 ∨ 57455 ≤ c
  · rw [look_out hc] at h ⊢
    show (0 : Int) ≤ 83
    decide
  · obtain ⟨k, rfl⟩ : ∃ k : Fin 111, c = 57344 + k.1 := ⟨⟨(c - 57344).toNat, by omega⟩, by simp; omega⟩
    exact fin_fin k h
set_option maxRecDepth 100000 in
set_option maxHeartbeats 8000000 in
theorem lletter_any (m : Mo) (k : Ky) (e : En) (o : Int) (h3 : e.kind ≠ 4) (f0 : 65 ≤ e.fin) (f1 : e.fin ≤ 83) (o0 : 0 ≤ o) (o1 : o < 8) (w : World) (ht : Tab w) :
    Calls Tryd.prog 41 #[.agg (evC m k e o)] w (OutC (putS (funcQ m e o)) w) := by
  have hB : Below w.heap.size w (w.alloc (.cells (evC m k e o) 52)) := (Below.refl _ _).alloc (Nat.le_refl _) _
  have k0 := Blk.new w 52 (evC m k e o)
  obtain ⟨_, a17, _⟩ := ev_ent k0
  have a21 := ev_old k0
  have a0 := (ev_mo k0).1
  have hq : funcQ m e o = if 0 < o then sqN 1 e.fin [1, 1 + o] else if (m.cursor || decide (80 ≤ e.fin)) = true then sqN 2 e.fin [] else sqN 1 e.fin [] := if_neg h3
  obtain ⟨F, hF⟩ : ∃ F, e.fin = F := ⟨_, rfl⟩
  rw [hF] at f0 f1 a17 hq
  obtain ⟨Q, hQ⟩ : ∃ Q, funcQ m e o = Q := ⟨_, rfl⟩
  rw [hQ] at hq ⊢
  have HQ := Lib.hid hq
  clear hq hQ h3 hF
  have HT := Lib.hid ht
  clear ht
  by_cases ho : o = 0
  · subst ho
    have HQ := Lib.hid (HQ.out.trans (if_neg (by decide)))
    obtain ⟨cu, hcu⟩ : ∃ c, m.cursor = c := ⟨_, rfl⟩
    rw [hcu] at a0 HQ
    clear hcu
    have g1 : F < 256 := by omega
    have HS : Hid (∀ W, Tab W → Calls Tryd.prog 63 #[.int .u8 F] W (OutC (putS (sqN 2 F [])) W)) := Lib.hid fun W hW => lsingle_any F (by omega) (by omega) W hW
    cases cu with
    | true =>
      have HE := Lib.hid (HQ.out.trans (if_pos rfl))
      clear HQ
      go_enter Tryd.func41, Tryd.ntmps41
      go_wp2_with fail
      refine (HS.out _ (HT.out.below hB)).mono ?_
      rintro e w1 ⟨A1, c1, rfl, hc1, hr1, hb1⟩
      go_wp2_with fail
      go_ret
      exact outC_is (congrArg putS HE.out) ⟨A1, c1, rfl, hc1, hr1, hB.trans (hb1.mono hB.size)⟩
    | false =>
      by_cases h80 : 80 ≤ F
      · have HE := Lib.hid (HQ.out.trans (if_pos (by rw [Bool.false_or, decide_eq_true h80])))
        clear HQ
        go_enter Tryd.func41, Tryd.ntmps41
        go_wp2_with fail
        refine (HS.out _ (HT.out.below hB)).mono ?_
        rintro e w1 ⟨A1, c1, rfl, hc1, hr1, hb1⟩
        go_wp2_with fail
        go_ret
        exact outC_is (congrArg putS HE.out) ⟨A1, c1, rfl, hc1, hr1, hB.trans (hb1.mono hB.size)⟩
      · have HE := Lib.hid (HQ.out.trans (if_neg (by rw [Bool.false_or, decide_eq_false h80]; decide)))
        have hmay : mayS (sqN 1 F []) = 0 := may_csi (by omega) (by omega) (by simp) (by simp)
        have HN : Hid (∀ A c W, Rd W A (is_ []) → Calls Tryd.prog 61 #[.int .u8 0, .int .u8 F, .slice A 0 c] W (NumQ F [] 0 W)) := Lib.hid fun A c W hr => lnum_any F (by omega) (by omega) [] 0 rfl (by decide) A c W hr
        have HP : Hid (∀ A c W, Tab W → RdP W A [] → Calls Tryd.prog 60 #[.agg #[.int .i64 1, .int .u8 0, .slice A 0 c, .string ⟨#[]⟩, .int .u8 F, .string ⟨#[]⟩]] W (OutC (putS (sqN 1 F [])) W)) := Lib.hid fun A c W hW hr => lput_any (l := []) rfl (by omega) (by omega) hmay A c W hW hr
        clear HQ HS hmay
        go_enter Tryd.func41, Tryd.ntmps41
        go_wp2_with fail
        refine (HN.out none 0 _ (Rd.nil _ _)).mono ?_
        rintro e w4 ⟨A4, c4, rfl, hr4, hb4⟩
        have hB4 := hB.trans (hb4.mono hB.size)
        go_wp2_with fail
        refine (HP.out A4 c4 _ (HT.out.below hB4) hr4).mono ?_
        rintro e w5 ⟨A5, c5, rfl, hc5, hr5, hb5⟩
        go_wp2_with fail
        go_ret
        exact outC_is (congrArg putS HE.out) ⟨A5, c5, rfl, hc5, hr5, hB4.trans (hb5.mono hB4.size)⟩
  · have tn : (o != 0) = true := by simp [bne, ho]
    obtain ⟨P, hP⟩ : ∃ P, 1 + o = P := ⟨_, rfl⟩
    have hpar : paramN o = P := by unfold paramN; rw [if_neg (by omega)]; omega
    have HPR : Hid (∀ W, Calls Tryd.prog 62 #[.int .i64 o] W fun e w' => e = .returned (.int .i64 P) ∧ Below W.heap.size W w') := Lib.hid fun W => by rw [← hpar]; exact pparam_any o W
    have HE := Lib.hid (HQ.out.trans (if_pos (by omega)))
    rw [hP] at HE
    have hmay : mayS (sqN 1 F [1, P]) = 0 := may_csi (by omega) (by omega) (by simp) (by simp; omega)
    have HN : Hid (∀ A c W, Rd W A (is_ [1, P]) → Calls Tryd.prog 61 #[.int .u8 0, .int .u8 F, .slice A 2 c] W (NumQ F [1, P] 2 W)) := Lib.hid fun A c W hr => lnum_any F (by omega) (by omega) [1, P] 2 rfl (by decide) A c W hr
    have HP : Hid (∀ A c W, Tab W → RdP W A [[1], [P]] → Calls Tryd.prog 60 #[.agg #[.int .i64 1, .int .u8 0, .slice A 2 c, .string ⟨#[]⟩, .int .u8 F, .string ⟨#[]⟩]] W (OutC (putS (sqN 1 F [1, P])) W)) := Lib.hid fun A c W hW hr => lput_any (l := [1, P]) rfl (by omega) (by omega) hmay A c W hW hr
    have g1 : F < 256 := by omega
    clear HQ hpar hmay hP a0
    go_enter Tryd.func41, Tryd.ntmps41
    go_wp2_with fail
    refine (HPR.out _).mono ?_
    rintro e w3 ⟨rfl, hb3⟩
    have hB3 := hB.trans (hb3.mono hB.size)
    clear HPR hb3 hB a17 a21 k0
    have hB4 := hB3.alloc hB3.size (.cells #[.int .i64 1, .int .i64 P] 3)
    have r4 : Rd (w3.alloc (.cells #[.int .i64 1, .int .i64 P] 3)) (some ⟨w3.heap.size, 0, none⟩) (is_ [1, P]) := Rd.block (heap_alloc_new w3 _) rfl
    go_wp2_with fail
    refine (HN.out _ 2 _ r4).mono ?_
    rintro e w5 ⟨A5, c5, rfl, hr5, hb5⟩
    have hB5 := hB4.trans (hb5.mono hB4.size)
    go_wp2_with fail
    refine (HP.out A5 c5 _ (HT.out.below hB5) hr5).mono ?_
    rintro e w6 ⟨A6, c6, rfl, hc6, hr6, hb6⟩
    go_wp2_with fail
    go_ret
    exact outC_is (congrArg putS HE.out) ⟨A6, c6, rfl, hc6, hr6, hB5.trans (hb6.mono hB5.size)⟩
set_option maxRecDepth 100000 in
set_option maxHeartbeats 8000000 in
theorem lnumber_any (m : Mo) (k : Ky) (e : En) (o : Int) (h4 : e.kind = 4) (f0 : 1 ≤ e.num) (f1 : e.num ≤ 100) (o0 : 0 ≤ o) (o1 : o < 8) (w : World) (ht : Tab w) :
    Calls Tryd.prog 42 #[.agg (evC m k e o)] w (OutC (putS (funcQ m e o)) w) := by
  have hB : Below w.heap.size w (w.alloc (.cells (evC m k e o) 52)) := (Below.refl _ _).alloc (Nat.le_refl _) _
  have k0 := Blk.new w 52 (evC m k e o)
  obtain ⟨_, _, a18, _⟩ := ev_ent k0
  have a21 := ev_old k0
  have hq : funcQ m e o = if o = 0 then sqN 1 126 [e.num] else sqN 1 126 [e.num, 1 + o] := if_pos h4
  obtain ⟨N, hN⟩ : ∃ N, e.num = N := ⟨_, rfl⟩
  rw [hN] at f0 f1 a18 hq
  obtain ⟨Q, hQ⟩ : ∃ Q, funcQ m e o = Q := ⟨_, rfl⟩
  rw [hQ] at hq ⊢
  have HQ := Lib.hid hq
  clear hq hQ h4 hN
  have HT := Lib.hid ht
  clear ht
  have hB1 := hB.alloc hB.size (.cells #[.int .i64 N] 3)
  have k1 := k0.alloc (.cells #[.int .i64 N] 3)
  have hown := own_lit ((w.alloc (.cells (evC m k e o) 52)).alloc (.cells #[.int .i64 N] 3)) w.heap.size 3 (w.heap.size + 1) (.int .i64 N) (Nat.le_succ _) (by have := heap_alloc_new (w.alloc (.cells (evC m k e o) 52)) (.cells #[.int .i64 N] 3); simpa using this)
  have b21 := ev_old k1
  by_cases ho : o = 0
  · subst ho
    have HE := Lib.hid (HQ.out.trans (if_pos rfl))
    have hmay : mayS (sqN 1 126 [N]) = 0 := may_csi (by decide) (by decide) (by simp) (by simp; omega)
    have HN : Hid (∀ A c W, Rd W A (is_ [N]) → Calls Tryd.prog 61 #[.int .u8 0, .int .u8 126, .slice A 1 c] W (NumQ 126 [N] 1 W)) := Lib.hid fun A c W hr => lnum_any 126 (by omega) (by omega) [N] 1 rfl (by decide) A c W hr
    have HP : Hid (∀ A c W, Tab W → RdP W A [[N]] → Calls Tryd.prog 60 #[.agg #[.int .i64 1, .int .u8 0, .slice A 1 c, .string ⟨#[]⟩, .int .u8 126, .string ⟨#[]⟩]] W (OutC (putS (sqN 1 126 [N])) W)) := Lib.hid fun A c W hW hr => lput_any (l := [N]) rfl (by omega) (by omega) hmay A c W hW hr
    clear HQ hmay
    have r4 : Rd _ (some ⟨w.heap.size + 1, 0, none⟩) (is_ [N]) := hown.rd
    go_enter Tryd.func42, Tryd.ntmps42
    go_wp2_with fail
    refine (HN.out _ 1 _ r4).mono ?_
    rintro e w5 ⟨A5, c5, rfl, hr5, hb5⟩
    have hB5 := hB1.trans (hb5.mono hB1.size)
    go_wp2_with fail
    refine (HP.out A5 c5 _ (HT.out.below hB5) hr5).mono ?_
    rintro e w6 ⟨A6, c6, rfl, hc6, hr6, hb6⟩
    go_wp2_with fail
    go_ret
    exact outC_is (congrArg putS HE.out) ⟨A6, c6, rfl, hc6, hr6, hB5.trans (hb6.mono hB5.size)⟩
  · obtain ⟨i0, hi, hz0, hz1, hz2⟩ : ∃ i, Tryd.prog.info? 3 = some i ∧ i.zero = some (.int .i64 0) ∧ i.size = 1 ∧ i.bytes = 8 := ⟨_, rfl, rfl, rfl, rfl⟩
    have tn : (o != 0) = true := by simp [bne, ho]
    obtain ⟨P, hP⟩ : ∃ P, 1 + o = P := ⟨_, rfl⟩
    have hpar : paramN o = P := by unfold paramN; rw [if_neg (by omega)]; omega
    have HPR : Hid (∀ W, Calls Tryd.prog 62 #[.int .i64 o] W fun e w' => e = .returned (.int .i64 P) ∧ Below W.heap.size W w') := Lib.hid fun W => by rw [← hpar]; exact pparam_any o W
    have HE := Lib.hid (HQ.out.trans (if_neg ho))
    rw [hP] at HE
    have hmay : mayS (sqN 1 126 [N, P]) = 0 := may_csi (by decide) (by decide) (by simp) (by simp; omega)
    have HN : Hid (∀ A c W, Rd W A (is_ [N, P]) → Calls Tryd.prog 61 #[.int .u8 0, .int .u8 126, .slice A 2 c] W (NumQ 126 [N, P] 2 W)) := Lib.hid fun A c W hr => lnum_any 126 (by omega) (by omega) [N, P] 2 rfl (by decide) A c W hr
    have HP : Hid (∀ A c W, Tab W → RdP W A [[N], [P]] → Calls Tryd.prog 60 #[.agg #[.int .i64 1, .int .u8 0, .slice A 2 c, .string ⟨#[]⟩, .int .u8 126, .string ⟨#[]⟩]] W (OutC (putS (sqN 1 126 [N, P])) W)) := Lib.hid fun A c W hW hr => lput_any (l := [N, P]) rfl (by omega) (by omega) hmay A c W hW hr
    clear HQ hpar hmay hP
    go_enter Tryd.func42, Tryd.ntmps42
    go_wp2_with fail
    refine (HPR.out _).mono ?_
    rintro e w3 ⟨rfl, hb3⟩
    have hB3 := hB1.trans (hb3.mono hB1.size)
    have o3 := hown.behind hb3
    clear HPR hb3 hB hB1 a18 a21 b21 k0 k1 hown
    have p1 := o3.alloc (.cells #[.int .i64 P] 3)
    have p3 := hB3.alloc hB3.size (.cells #[.int .i64 P] 3)
    have pr : Rd (w3.alloc (.cells #[.int .i64 P] 3)) (some ⟨w3.heap.size, 0, none⟩) [.int .i64 P] := Rd.block (heap_alloc_new w3 _) (by simp)
    have ps := p3.size
    have p6 : 1 + 1 ≤ maxLen := by decide
    have p7 : (1 + 1) * 8 ≤ 140737488355328 := by decide
    have p8 : ∀ u ∈ [Value.int IntKind.i64 P], u.oneCell' = true := fun u hu => by rw [List.mem_singleton] at hu; subst hu; rfl
    go_wp2_with (at_builtin; refine list_app _ rfl (.tmp 11) (.tmp 15) 60 rfl w.heap.size 3 i0 _ 1 8 Tryd.underlying60 hi hz0 hz1 hz2 rfl Nat.one_pos _ _ _ rfl p1 _ 1 1 [.int .i64 P] rfl rfl pr p8 p6 p7 ps ?_; intro v4 w4 o4 hg)
    have hB4 := p3.grown hg ps (fun g hg => (p1.lt g hg).1)
    obtain ⟨A4, c4, rfl, hr4⟩ := o4.form
    have hr4 : Rd w4 A4 (is_ [N, P]) := hr4
    refine (HN.out A4 c4 _ hr4).mono ?_
    rintro e w5 ⟨A5, c5, rfl, hr5, hb5⟩
    have hB5 := hB4.trans (hb5.mono hB4.size)
    go_wp2_with fail
    refine (HP.out A5 c5 _ (HT.out.below hB5) hr5).mono ?_
    rintro e w6 ⟨A6, c6, rfl, hc6, hr6, hb6⟩
    go_wp2_with fail
    go_ret
    exact outC_is (congrArg putS HE.out) ⟨A6, c6, rfl, hc6, hr6, hB5.trans (hb6.mono hB5.size)⟩
end Go.Proofs.YtbjmfhcgkpjcfaaDoor
