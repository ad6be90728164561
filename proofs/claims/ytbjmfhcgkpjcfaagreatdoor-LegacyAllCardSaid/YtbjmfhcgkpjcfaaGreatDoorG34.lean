/-
  Stage 11, the landed legacy: the deferred call, which puts the escape byte ahead. Stage 11, the landed legacy: letters and numbers. Layer 9, the landed keys: its table of rows in memory.
-/
import Derived.Test.YtbjmfhcgkpjcfaaGreatDoorG02
import Derived.Test.YtbjmfhcgkpjcfaaGreatDoorG07
import Derived.Test.YtbjmfhcgkpjcfaaGreatDoorG25
import Derived.Test.YtbjmfhcgkpjcfaaGreatDoorG30
import Derived.Test.YtbjmfhcgkpjcfaaGreatDoorG32
import Derived.Test.YtbjmfhcgkpjcfaaGreatDoorG33
import Derived.Defers
import Derived.Recover
import Derived.Deep.Cut
namespace Go.Proofs.YtbjmfhcgkpjcfaaGreatDoor
open Go.RowKit

set_option maxRecDepth 100000 in
set_option maxHeartbeats 8000000 in
theorem lclo_no (f e r : Nat) (v : Value) (w : World) (hf : Blk w f 40 #[v, .bool false]) :
    CallsD Tryz.prog 12 #[.pointer (some ⟨f, 0, none⟩), .pointer (some ⟨e, 0, none⟩), .pointer (some ⟨r, 0, none⟩)] .returning w fun x u w' => u = .returning ∧ (x = .returned (.tuple #[]) ∧ w' = w) := by
  have c1 := hf.cell 1
  go_enter_d Tryz.func12, Tryz.ntmps12
  go_wp2_with fail
  go_end0
  exact ⟨rfl, rfl⟩
set_option maxRecDepth 100000 in
set_option maxHeartbeats 8000000 in
theorem lclo_off (f g r : Nat) (v : Value) (m : Mo) (k : Ky) (e : En) (o : Int) (hq : (bits .and .i64 o 2 != 0) = false) (w : World) (hf : Blk w f 40 #[v, .bool true]) (hg : Blk w g 37 (evC m k e o)) :
    CallsD Tryz.prog 12 #[.pointer (some ⟨f, 0, none⟩), .pointer (some ⟨g, 0, none⟩), .pointer (some ⟨r, 0, none⟩)] .returning w fun x u w' => u = .returning ∧ (x = .returned (.tuple #[]) ∧ Below w.heap.size w w') := by
  have c1 := hf.cell 1
  have HH : Hid (∀ W, Calls Tryz.prog 13 #[.agg (evC m k e o), .int .i64 2] W fun x w' => x = .returned (.bool false) ∧ Below W.heap.size W w') := Lib.hid fun W => phas_any m k e o 2 false hq W
  clear hq
  go_enter_d Tryz.func12, Tryz.ntmps12
  go_wp2_with (with_reducible refine Blk.wp_getg hg Tryz.underlying37 rfl (by kernel_rfl) rfl (.tmp 1) rfl rfl ?_)
  refine (HH.out _).mono ?_
  rintro x w1 ⟨rfl, hb1⟩
  go_wp2_with fail
  go_end0
  exact ⟨rfl, hb1⟩
theorem own_esc (w : World) (B : Nat) (hB : B ≤ w.heap.size) : Own (w.alloc (.cells #[.int .u8 27] 5)) B 5 1 (.slice (some ⟨w.heap.size, 0, none⟩) 1 1) 1 [.int .u8 27] := own_lit _ B _ _ _ hB (heap_alloc_new w _)
set_option maxRecDepth 100000 in
set_option maxHeartbeats 8000000 in
theorem lclo_on (f g r B : Nat) (v : Value) (m : Mo) (k : Ky) (e : En) (o : Int) (hq : (bits .and .i64 o 2 != 0) = true) (A : Option Addr) (L : List UInt8) (n c : Nat) (hn : L.length = n) (hl : n ≤ 17179869184) (a w : World) (hf : Blk w f 40 #[v, .bool true]) (hg : Blk w g 37 (evC m k e o)) (hr : Blk w r 27 #[.slice A n c]) (hL : Rd w A (bs L)) (hB : Below B a w) (hrB : B ≤ r) :
    CallsD Tryz.prog 12 #[.pointer (some ⟨f, 0, none⟩), .pointer (some ⟨g, 0, none⟩), .pointer (some ⟨r, 0, none⟩)] .returning w fun x u w' => u = .returning ∧ (x = .returned (.tuple #[]) ∧ ∃ A' c', Blk w' r 27 #[.slice A' (n + 1) c'] ∧ Rd w' A' (bs (27 :: L)) ∧ Below B a w') := by
  have c1 := hf.cell 1
  have HN := Lib.hid hn
  have HH : Hid (∀ W, Calls Tryz.prog 13 #[.agg (evC m k e o), .int .i64 2] W fun x w' => x = .returned (.bool true) ∧ Below W.heap.size W w') := Lib.hid fun W => phas_any m k e o 2 true hq W
  obtain ⟨i0, hi, hz0, hz1, hz2⟩ : ∃ i, Tryz.prog.info? 5 = some i ∧ i.zero = some (.int .u8 0) ∧ i.size = 1 ∧ i.bytes = 1 := ⟨_, rfl, rfl, rfl, rfl⟩
  clear hq hn
  have hsz : B ≤ w.heap.size := by have := hr.lt; omega
  go_enter_d Tryz.func12, Tryz.ntmps12
  go_wp2_with (with_reducible refine Blk.wp_getg hg Tryz.underlying37 rfl (by kernel_rfl) rfl (.tmp 1) rfl rfl ?_)
  refine (HH.out _).mono ?_
  rintro x w1 ⟨rfl, hb1⟩
  have hB1 := hB.trans (hb1.mono hsz)
  have r1 := (hr.below hb1 hr.lt).alloc (.cells #[.int .u8 27] 5)
  have l1 := (hL.below hb1).alloc (.cells #[.int .u8 27] 5)
  have hrs := hr.lt
  have hb1s := hb1.size
  have hown := own_esc w1 (r + 1) (by omega)
  have hs2 : B ≤ w1.heap.size := by omega
  have hB2 := hB1.alloc hs2 (.cells #[.int .u8 27] 5)
  have c2 : (w1.alloc (.cells #[.int .u8 27] 5)).cell? ⟨r, 0, none⟩ = some (.slice A n c) := r1.cell 0
  have h63 : 1 + n ≤ maxLen := by simp only [maxLen]; omega
  have hlim : (1 + n) * 1 ≤ 140737488355328 := by omega
  have hbs : r + 1 ≤ (w1.alloc (.cells #[.int .u8 27] 5)).heap.size := r1.lt
  clear hf hg hr hL hB hB1 hb1 hrs hb1s hsz c1
  go_wp2_with (first | (at_builtin; refine list_app _ rfl (.tmp 9) (.tmp 10) 27 rfl (r + 1) 5 i0 _ 1 1 Tryz.underlying27 hi hz0 hz1 hz2 rfl Nat.one_pos _ _ _ rfl hown _ n c (bs L) rfl (by rw [bs_length, HN.out]; omega) l1 (bs_one L) h63 hlim hbs ?_; intro v4 w4 hown4 hg4; have r4 := r1.grown hg4 (fun e => by have := (hown.lt r e).1; omega); have f4 := r4.frozen 0; have c4 : w4.cell? ⟨r, 0, none⟩ = some (.slice A n c) := r4.cell 0; obtain ⟨A4, cc4, rfl, hr4⟩ := hown4.form))
  go_end0
  have hB4 : Below B a w4 := hB2.grown hg4 (by omega) (fun g hg => by have := (hown.lt g hg).1; omega)
  refine ⟨rfl, A4, cc4, ?_, ?_, hB4.setCell (p := ⟨r, 0, none⟩) hrB _⟩
  · rw [Nat.add_comm n 1]
    exact r4.set 0 _
  · have h5 := (hown4.keep (w' := w4.setCell ⟨r, 0, none⟩ (.slice A4 (1 + n) cc4)) fun k hk => heap_setCell_other w4 ⟨r, 0, none⟩ k _ (by have := (hown4.lt k hk).1; show k ≠ r; omega)).rd
    exact h5
end Go.Proofs.YtbjmfhcgkpjcfaaGreatDoor
namespace Go.Proofs.YtbjmfhcgkpjcfaaGreatDoor
open Go.RowKit

theorem fin_fin : ∀ k : Fin 111, (lookE (57344 + (k.1 : Int))).kind = 3 → (lookE (57344 + (k.1 : Int))).fin ≤ 83 := by decide +kernel
theorem fin_83 {c : Int} (h : (lookE c).kind = 3) : (lookE c).fin ≤ 83 := by
  by_cases hc : c < 57344 ∨ 57455 ≤ c
  · rw [look_out hc] at h ⊢
    show (0 : Int) ≤ 83
    decide
  · obtain ⟨k, rfl⟩ : ∃ k : Fin 111, c = 57344 + k.1 := ⟨⟨(c - 57344).toNat, by omega⟩, by simp; omega⟩
    exact fin_fin k h
set_option maxRecDepth 100000 in
set_option maxHeartbeats 8000000 in
theorem lletter_any (m : Mo) (k : Ky) (e : En) (o : Int) (h3 : e.kind ≠ 4) (f0 : 65 ≤ e.fin) (f1 : e.fin ≤ 83) (o0 : 0 ≤ o) (o1 : o < 8) (w : World) (ht : Tab w) :
    Calls Tryz.prog 30 #[.agg (evC m k e o)] w (OutC (putS (funcQ m e o)) w) := by
  have hB : Below w.heap.size w (w.alloc (.cells (evC m k e o) 37)) := (Below.refl _ _).alloc (Nat.le_refl _) _
  have k0 := Blk.new w 37 (evC m k e o)
  obtain ⟨_, a17, _⟩ := ev_ent k0
  have a21 := ev_old k0
  have a0 := (ev_mo k0).1
  have hq : funcQ m e o = if 0 < o then sqN 1 e.fin [1, 1 + o] else if (m.cursor || decide (80 ≤ e.fin)) = true then sqN 2 e.fin [] else sqN 1 e.fin [] := if_neg h3
  obtain ⟨F, hF⟩ : ∃ F, e.fin = F := ⟨_, rfl⟩
  rw [hF] at f0 f1 a17 hq
  obtain ⟨Q, hQ⟩ : ∃ Q, funcQ m e o = Q := ⟨_, rfl⟩
  rw [hQ] at hq ⊢
  have HQ := Lib.hid hq
  clear hq hQ h3 hF
  have HT := Lib.hid ht
  clear ht
  by_cases ho : o = 0
  · subst ho
    have HQ := Lib.hid (HQ.out.trans (if_neg (by decide)))
    obtain ⟨cu, hcu⟩ : ∃ c, m.cursor = c := ⟨_, rfl⟩
    rw [hcu] at a0 HQ
    clear hcu
    have g1 : F < 256 := by omega
    have HS : Hid (∀ W, Tab W → Calls Tryz.prog 53 #[.int .u8 F] W (OutC (putS (sqN 2 F [])) W)) := Lib.hid fun W hW => lsingle_any F (by omega) (by omega) W hW
    cases cu with
    | true =>
      have HE := Lib.hid (HQ.out.trans (if_pos rfl))
      clear HQ
      go_enter Tryz.func30, Tryz.ntmps30
      go_wp2_with fail
      refine (HS.out _ (HT.out.below hB)).mono ?_
      rintro e w1 ⟨A1, c1, rfl, hc1, hr1, hb1⟩
      go_wp2_with fail
      go_ret
      exact outC_is (congrArg putS HE.out) ⟨A1, c1, rfl, hc1, hr1, hB.trans (hb1.mono hB.size)⟩
    | false =>
      by_cases h80 : 80 ≤ F
      · have HE := Lib.hid (HQ.out.trans (if_pos (by rw [Bool.false_or, decide_eq_true h80])))
        clear HQ
        go_enter Tryz.func30, Tryz.ntmps30
        go_wp2_with fail
        refine (HS.out _ (HT.out.below hB)).mono ?_
        rintro e w1 ⟨A1, c1, rfl, hc1, hr1, hb1⟩
        go_wp2_with fail
        go_ret
        exact outC_is (congrArg putS HE.out) ⟨A1, c1, rfl, hc1, hr1, hB.trans (hb1.mono hB.size)⟩
      · have HE := Lib.hid (HQ.out.trans (if_neg (by rw [Bool.false_or, decide_eq_false h80]; decide)))
        have hmay : mayS (sqN 1 F []) = 0 := may_csi (by omega) (by omega) (by simp) (by simp)
        have HN : Hid (∀ A c W, Rd W A (is_ []) → Calls Tryz.prog 51 #[.int .u8 0, .int .u8 F, .slice A 0 c] W (NumQ F [] 0 W)) := Lib.hid fun A c W hr => lnum_any F (by omega) (by omega) [] 0 rfl (by decide) A c W hr
        have HP : Hid (∀ A c W, Tab W → RdP W A [] → Calls Tryz.prog 50 #[.agg #[.int .i64 1, .int .u8 0, .slice A 0 c, .string ⟨#[]⟩, .int .u8 F, .string ⟨#[]⟩]] W (OutC (putS (sqN 1 F [])) W)) := Lib.hid fun A c W hW hr => lput_any (l := []) rfl (by omega) (by omega) hmay A c W hW hr
        clear HQ HS hmay
        go_enter Tryz.func30, Tryz.ntmps30
        go_wp2_with fail
        refine (HN.out none 0 _ (Rd.nil _ _)).mono ?_
        rintro e w4 ⟨A4, c4, rfl, hr4, hb4⟩
        have hB4 := hB.trans (hb4.mono hB.size)
        go_wp2_with fail
        refine (HP.out A4 c4 _ (HT.out.below hB4) hr4).mono ?_
        rintro e w5 ⟨A5, c5, rfl, hc5, hr5, hb5⟩
        go_wp2_with fail
        go_ret
        exact outC_is (congrArg putS HE.out) ⟨A5, c5, rfl, hc5, hr5, hB4.trans (hb5.mono hB4.size)⟩
  · have tn : (o != 0) = true := by simp [bne, ho]
    obtain ⟨P, hP⟩ : ∃ P, 1 + o = P := ⟨_, rfl⟩
    have hpar : paramN o = P := by unfold paramN; rw [if_neg (by omega)]; omega
    have HPR : Hid (∀ W, Calls Tryz.prog 52 #[.int .i64 o] W fun e w' => e = .returned (.int .i64 P) ∧ Below W.heap.size W w') := Lib.hid fun W => by rw [← hpar]; exact pparam_any o W
    have HE := Lib.hid (HQ.out.trans (if_pos (by omega)))
    rw [hP] at HE
    have hmay : mayS (sqN 1 F [1, P]) = 0 := may_csi (by omega) (by omega) (by simp) (by simp; omega)
    have HN : Hid (∀ A c W, Rd W A (is_ [1, P]) → Calls Tryz.prog 51 #[.int .u8 0, .int .u8 F, .slice A 2 c] W (NumQ F [1, P] 2 W)) := Lib.hid fun A c W hr => lnum_any F (by omega) (by omega) [1, P] 2 rfl (by decide) A c W hr
    have HP : Hid (∀ A c W, Tab W → RdP W A [[1], [P]] → Calls Tryz.prog 50 #[.agg #[.int .i64 1, .int .u8 0, .slice A 2 c, .string ⟨#[]⟩, .int .u8 F, .string ⟨#[]⟩]] W (OutC (putS (sqN 1 F [1, P])) W)) := Lib.hid fun A c W hW hr => lput_any (l := [1, P]) rfl (by omega) (by omega) hmay A c W hW hr
    have g1 : F < 256 := by omega
    clear HQ hpar hmay hP a0
    go_enter Tryz.func30, Tryz.ntmps30
    go_wp2_with fail
    refine (HPR.out _).mono ?_
    rintro e w3 ⟨rfl, hb3⟩
    have hB3 := hB.trans (hb3.mono hB.size)
    clear HPR hb3 hB a17 a21 k0
    have hB4 := hB3.alloc hB3.size (.cells #[.int .i64 1, .int .i64 P] 3)
    have r4 : Rd (w3.alloc (.cells #[.int .i64 1, .int .i64 P] 3)) (some ⟨w3.heap.size, 0, none⟩) (is_ [1, P]) := Rd.block (heap_alloc_new w3 _) rfl
    go_wp2_with fail
    refine (HN.out _ 2 _ r4).mono ?_
    rintro e w5 ⟨A5, c5, rfl, hr5, hb5⟩
    have hB5 := hB4.trans (hb5.mono hB4.size)
    go_wp2_with fail
    refine (HP.out A5 c5 _ (HT.out.below hB5) hr5).mono ?_
    rintro e w6 ⟨A6, c6, rfl, hc6, hr6, hb6⟩
    go_wp2_with fail
    go_ret
    exact outC_is (congrArg putS HE.out) ⟨A6, c6, rfl, hc6, hr6, hB5.trans (hb6.mono hB5.size)⟩
set_option maxRecDepth 100000 in
set_option maxHeartbeats 8000000 in
theorem lnumber_any (m : Mo) (k : Ky) (e : En) (o : Int) (h4 : e.kind = 4) (f0 : 1 ≤ e.num) (f1 : e.num ≤ 100) (o0 : 0 ≤ o) (o1 : o < 8) (w : World) (ht : Tab w) :
    Calls Tryz.prog 31 #[.agg (evC m k e o)] w (OutC (putS (funcQ m e o)) w) := by
  have hB : Below w.heap.size w (w.alloc (.cells (evC m k e o) 37)) := (Below.refl _ _).alloc (Nat.le_refl _) _
  have k0 := Blk.new w 37 (evC m k e o)
  obtain ⟨_, _, a18, _⟩ := ev_ent k0
  have a21 := ev_old k0
  have hq : funcQ m e o = if o = 0 then sqN 1 126 [e.num] else sqN 1 126 [e.num, 1 + o] := if_pos h4
  obtain ⟨N, hN⟩ : ∃ N, e.num = N := ⟨_, rfl⟩
  rw [hN] at f0 f1 a18 hq
  obtain ⟨Q, hQ⟩ : ∃ Q, funcQ m e o = Q := ⟨_, rfl⟩
  rw [hQ] at hq ⊢
  have HQ := Lib.hid hq
  clear hq hQ h4 hN
  have HT := Lib.hid ht
  clear ht
  have hB1 := hB.alloc hB.size (.cells #[.int .i64 N] 3)
  have k1 := k0.alloc (.cells #[.int .i64 N] 3)
  have hown := own_lit ((w.alloc (.cells (evC m k e o) 37)).alloc (.cells #[.int .i64 N] 3)) w.heap.size 3 (w.heap.size + 1) (.int .i64 N) (Nat.le_succ _) (by have := heap_alloc_new (w.alloc (.cells (evC m k e o) 37)) (.cells #[.int .i64 N] 3); simpa using this)
  have b21 := ev_old k1
  by_cases ho : o = 0
  · subst ho
    have HE := Lib.hid (HQ.out.trans (if_pos rfl))
    have hmay : mayS (sqN 1 126 [N]) = 0 := may_csi (by decide) (by decide) (by simp) (by simp; omega)
    have HN : Hid (∀ A c W, Rd W A (is_ [N]) → Calls Tryz.prog 51 #[.int .u8 0, .int .u8 126, .slice A 1 c] W (NumQ 126 [N] 1 W)) := Lib.hid fun A c W hr => lnum_any 126 (by omega) (by omega) [N] 1 rfl (by decide) A c W hr
    have HP : Hid (∀ A c W, Tab W → RdP W A [[N]] → Calls Tryz.prog 50 #[.agg #[.int .i64 1, .int .u8 0, .slice A 1 c, .string ⟨#[]⟩, .int .u8 126, .string ⟨#[]⟩]] W (OutC (putS (sqN 1 126 [N])) W)) := Lib.hid fun A c W hW hr => lput_any (l := [N]) rfl (by omega) (by omega) hmay A c W hW hr
    clear HQ hmay
    have r4 : Rd _ (some ⟨w.heap.size + 1, 0, none⟩) (is_ [N]) := hown.rd
    go_enter Tryz.func31, Tryz.ntmps31
    go_wp2_with fail
    refine (HN.out _ 1 _ r4).mono ?_
    rintro e w5 ⟨A5, c5, rfl, hr5, hb5⟩
    have hB5 := hB1.trans (hb5.mono hB1.size)
    go_wp2_with fail
    refine (HP.out A5 c5 _ (HT.out.below hB5) hr5).mono ?_
    rintro e w6 ⟨A6, c6, rfl, hc6, hr6, hb6⟩
    go_wp2_with fail
    go_ret
    exact outC_is (congrArg putS HE.out) ⟨A6, c6, rfl, hc6, hr6, hB5.trans (hb6.mono hB5.size)⟩
  · obtain ⟨i0, hi, hz0, hz1, hz2⟩ : ∃ i, Tryz.prog.info? 3 = some i ∧ i.zero = some (.int .i64 0) ∧ i.size = 1 ∧ i.bytes = 8 := ⟨_, rfl, rfl, rfl, rfl⟩
    have tn : (o != 0) = true := by simp [bne, ho]
    obtain ⟨P, hP⟩ : ∃ P, 1 + o = P := ⟨_, rfl⟩
    have hpar : paramN o = P := by unfold paramN; rw [if_neg (by omega)]; omega
    have HPR : Hid (∀ W, Calls Tryz.prog 52 #[.int .i64 o] W fun e w' => e = .returned (.int .i64 P) ∧ Below W.heap.size W w') := Lib.hid fun W => by rw [← hpar]; exact pparam_any o W
    have HE := Lib.hid (HQ.out.trans (if_neg ho))
    rw [hP] at HE
    have hmay : mayS (sqN 1 126 [N, P]) = 0 := may_csi (by decide) (by decide) (by simp) (by simp; omega)
    have HN : Hid (∀ A c W, Rd W A (is_ [N, P]) → Calls Tryz.prog 51 #[.int .u8 0, .int .u8 126, .slice A 2 c] W (NumQ 126 [N, P] 2 W)) := Lib.hid fun A c W hr => lnum_any 126 (by omega) (by omega) [N, P] 2 rfl (by decide) A c W hr
    have HP : Hid (∀ A c W, Tab W → RdP W A [[N], [P]] → Calls Tryz.prog 50 #[.agg #[.int .i64 1, .int .u8 0, .slice A 2 c, .string ⟨#[]⟩, .int .u8 126, .string ⟨#[]⟩]] W (OutC (putS (sqN 1 126 [N, P])) W)) := Lib.hid fun A c W hW hr => lput_any (l := [N, P]) rfl (by omega) (by omega) hmay A c W hW hr
    clear HQ hpar hmay hP
    go_enter Tryz.func31, Tryz.ntmps31
    go_wp2_with fail
    refine (HPR.out _).mono ?_
    rintro e w3 ⟨rfl, hb3⟩
    have hB3 := hB1.trans (hb3.mono hB1.size)
    have o3 := hown.behind hb3
    clear HPR hb3 hB hB1 a18 a21 b21 k0 k1 hown
    have p1 := o3.alloc (.cells #[.int .i64 P] 3)
    have p3 := hB3.alloc hB3.size (.cells #[.int .i64 P] 3)
    have pr : Rd (w3.alloc (.cells #[.int .i64 P] 3)) (some ⟨w3.heap.size, 0, none⟩) [.int .i64 P] := Rd.block (heap_alloc_new w3 _) (by simp)
    have ps := p3.size
    have p6 : 1 + 1 ≤ maxLen := by decide
    have p7 : (1 + 1) * 8 ≤ 140737488355328 := by decide
    have p8 : ∀ u ∈ [Value.int IntKind.i64 P], u.oneCell' = true := fun u hu => by rw [List.mem_singleton] at hu; subst hu; rfl
    go_wp2_with (at_builtin; refine list_app _ rfl (.tmp 11) (.tmp 15) 53 rfl w.heap.size 3 i0 _ 1 8 Tryz.underlying53 hi hz0 hz1 hz2 rfl Nat.one_pos _ _ _ rfl p1 _ 1 1 [.int .i64 P] rfl rfl pr p8 p6 p7 ps ?_; intro v4 w4 o4 hg)
    have hB4 := p3.grown hg ps (fun g hg => (p1.lt g hg).1)
    obtain ⟨A4, c4, rfl, hr4⟩ := o4.form
    have hr4 : Rd w4 A4 (is_ [N, P]) := hr4
    refine (HN.out A4 c4 _ hr4).mono ?_
    rintro e w5 ⟨A5, c5, rfl, hr5, hb5⟩
    have hB5 := hB4.trans (hb5.mono hB4.size)
    go_wp2_with fail
    refine (HP.out A5 c5 _ (HT.out.below hB5) hr5).mono ?_
    rintro e w6 ⟨A6, c6, rfl, hc6, hr6, hb6⟩
    go_wp2_with fail
    go_ret
    exact outC_is (congrArg putS HE.out) ⟨A6, c6, rfl, hc6, hr6, hB5.trans (hb6.mono hB5.size)⟩
end Go.Proofs.YtbjmfhcgkpjcfaaGreatDoor
namespace Go.Proofs.YtbjmfhcgkpjcfaaGreatDoor
open Go.RowKit

/-- A row as seven cells. -/
def roC (r : Ro) (A : Option Addr) (c : Nat) : List Value := [.int .i64 r.first, .int .i64 r.last, .int .i64 r.kind, .string ⟨r.finals.toArray⟩, .slice A r.nums.length c, .string ⟨r.chars.toArray⟩, .bool r.keys]
/-- A slice of rows, below a block. -/
def RdRo (n₁ : Nat) (w : World) (b o : Nat) (rs : List Ro) : Prop :=
  ∀ k (hk : k < rs.length), ∃ A' c', RdIn n₁ w A' (is_ rs[k].nums) ∧ ∀ i u, (roC rs[k] A' c')[i]? = some u → w.cell? ⟨b, o + k * 7 + i, none⟩ = some u
/-- The package's table, below a block. -/
def RwsIn (n₁ : Nat) (w : World) : Prop :=
  ∃ b o c t fz, w.heap[0]? = some (.cells #[.slice (some ⟨b, o, none⟩) 22 c] t fz) ∧ 0 < n₁ ∧ b < n₁ ∧ RdRo n₁ w b o roL
def Rws (w : World) : Prop := RwsIn w.heap.size w
section
variable {n₁ n₂ : Nat} {w w' : World} {b o : Nat} {rs : List Ro}
theorem RdRo.below (h : RdRo n₁ w b o rs) (hb : Below n₁ w w') (hl : b < n₁) : RdRo n₁ w' b o rs := fun k hk => by
  obtain ⟨A', c', h1, h2⟩ := h k hk
  exact ⟨A', c', h1.below hb, fun i u hu => (hb.cell (p := ⟨b, o + k * 7 + i, none⟩) hl).trans (h2 i u hu)⟩
theorem RdRo.kpx {X : Nat → Prop} (h : RdRo n₁ w b o rs) (hk : KpX X w w') (hX : ∀ k, X k → n₁ ≤ k) (hl : b < n₁) : RdRo n₁ w' b o rs := fun k hk2 => by
  obtain ⟨A', c', h1, h2⟩ := h k hk2
  refine ⟨A', c', h1.kpx hk hX, fun i u hu => (World.cell?_of_block (w := w) (a := ⟨b, o + k * 7 + i, none⟩) ?_).trans (h2 i u hu)⟩
  obtain ⟨ob, e1, e2⟩ := cells_is (h2 i u hu)
  exact (hk.2 b ob e1 e2 (fun hx => by have := hX b hx; omega)).trans e1.symm
theorem RwsIn.below (h : RwsIn n₁ w) (hb : Below n₁ w w') : RwsIn n₁ w' := by
  obtain ⟨b, o, c, t, fz, h1, h2, h3, h4⟩ := h
  exact ⟨b, o, c, t, fz, (hb.block _ h2).trans h1, h2, h3, h4.below hb h3⟩
theorem RwsIn.kpx {X : Nat → Prop} (h : RwsIn n₁ w) (hk : KpX X w w') (hX : ∀ k, X k → n₁ ≤ k) : RwsIn n₁ w' := by
  obtain ⟨b, o, c, t, fz, h1, h2, h3, h4⟩ := h
  exact ⟨b, o, c, t, fz, hk.2 _ _ h1 rfl (fun hx => by have := hX _ hx; omega), h2, h3, h4.kpx hk hX h3⟩
theorem RdIn.mono {A : Option Addr} {xs : List Value} (h : RdIn n₁ w A xs) (hn : n₁ ≤ n₂) : RdIn n₂ w A xs := fun hp => by
  obtain ⟨b, o, rfl, hb, hc⟩ := h hp
  exact ⟨b, o, rfl, by omega, hc⟩
theorem RwsIn.mono (h : RwsIn n₁ w) (hn : n₁ ≤ n₂) : RwsIn n₂ w := by
  obtain ⟨b, o, c, t, fz, h1, h2, h3, h4⟩ := h
  refine ⟨b, o, c, t, fz, h1, by omega, by omega, fun k hk => ?_⟩
  obtain ⟨A', c', e1, e2⟩ := h4 k hk
  exact ⟨A', c', e1.mono hn, e2⟩
theorem Rws.below (h : Rws w) (hb : Below w.heap.size w w') : Rws w' := (RwsIn.below h hb).mono hb.size
/-- A row that a round reads. -/
theorem RdRo.at_ (h : RdRo n₁ w b o rs) {k : Nat} (hk : k < rs.length) {r : Ro} (hr : rs[k] = r) : ∃ A' c', RdIn n₁ w A' (is_ r.nums) ∧
    w.cell? ⟨b, o + k * 7, none⟩ = some (.int .i64 r.first) ∧ w.cell? ⟨b, o + k * 7 + 1, none⟩ = some (.int .i64 r.last) ∧ w.cell? ⟨b, o + k * 7 + 2, none⟩ = some (.int .i64 r.kind) ∧ w.cell? ⟨b, o + k * 7 + 3, none⟩ = some (.string ⟨r.finals.toArray⟩) ∧ w.cell? ⟨b, o + k * 7 + 4, none⟩ = some (.slice A' r.nums.length c') ∧ w.cell? ⟨b, o + k * 7 + 5, none⟩ = some (.string ⟨r.chars.toArray⟩) ∧ w.cell? ⟨b, o + k * 7 + 6, none⟩ = some (.bool r.keys) := by
  obtain ⟨A', c', h1, h2⟩ := h k hk
  subst hr
  exact ⟨A', c', h1, h2 0 _ rfl, h2 1 _ rfl, h2 2 _ rfl, h2 3 _ rfl, h2 4 _ rfl, h2 5 _ rfl, h2 6 _ rfl⟩
end
def sbK (s : ByteArray) (a : Nat) : Int := if h : a < s.size then ((s[a]'h).toNat : Int) else 0
theorem sbK_eq (l : List UInt8) (a : Nat) : sbK ⟨l.toArray⟩ a = byL l a := by
  unfold sbK byL
  by_cases h : a < l.length
  · rw [dif_pos (show a < (⟨l.toArray⟩ : ByteArray).size from h)]
    rw [List.getD_eq_getElem?_getD, List.getElem?_eq_getElem h]
    rfl
  · rw [dif_neg (show ¬ a < (⟨l.toArray⟩ : ByteArray).size from h)]
    rw [List.getD_eq_getElem?_getD, List.getElem?_eq_none (by omega)]
    rfl
theorem sbK_yes {s : ByteArray} {a : Nat} (h : a < s.size) : sbK s a = ((s[a]'h).toNat : Int) := by unfold sbK; rw [dif_pos h]
theorem sbK_no {s : ByteArray} {a : Nat} (h : ¬ a < s.size) : sbK s a = 0 := by unfold sbK; rw [dif_neg h]
theorem getD_yes {l : List Int} {a : Nat} (h : a < l.length) : l.getD a 0 = l[a] := by rw [List.getD_eq_getElem?_getD, List.getElem?_eq_getElem h]; rfl
theorem getD_no {l : List Int} {a : Nat} (h : ¬ a < l.length) : l.getD a 0 = 0 := by rw [List.getD_eq_getElem?_getD, List.getElem?_eq_none (by omega)]; rfl
end Go.Proofs.YtbjmfhcgkpjcfaaGreatDoor
