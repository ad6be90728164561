/-
  Layer 3: the walk of the law WireBack.
-/
import Derived.Test.YtmmbfidnbdckmaaDoorWpC
import Derived.Deep.Cut
namespace Go.Proofs.YtmmbfidnbdckmaaDoor
open Go.RowKit

/-- A slice cut behind a place. -/
theorem cut_hi {P : Program} {T e : TypeId} (he : P.elem T = e) (hT : P.underlying T = some (.slice e)) (hs : ∀ w, (sizeOf e).run P w = .ok 1 w) (A : Option Addr) (n c hi : Nat) (hh : hi ≤ n) (hn : n ≤ c) :
    ∃ A', (∀ w : World, (Instr.slice T (.slice A n c) none (some (.int .i64 (hi : Int))) none).run P w = .ok (.slice A' hi c) w) ∧
      ∀ (w : World) (l : List UInt8), l.length = n → Rd w A (bs l) → Rd w A' (bs (l.take hi)) := by
  subst he
  refine ⟨if c = 0 then A else A.map (·.add (0 * 1)), fun w => ?_, fun w l hl hr => ?_⟩
  · rw [run_slice_h w T A n c hT .i64 (hi : Int) (by omega) (by omega), hs]
    simp [Result.andThen, sliced]
  · intro hp
    rw [bs_length, List.length_take] at hp
    obtain ⟨b, o, rfl, hb, hc⟩ := hr (by rw [bs_length]; omega)
    rw [if_neg (by omega)]
    refine ⟨b, o, ?_, hb, fun i u hu => ?_⟩
    · rw [Option.map_some, addr_add_at, Nat.zero_mul, Nat.add_zero]
    · apply hc
      have hi : i < hi := by
        have := (List.getElem?_eq_some_iff.1 hu).1
        rw [bs_length, List.length_take] at this
        omega
      simp only [bs, List.map_take, List.getElem?_take, if_pos hi] at hu
      exact hu

set_option maxRecDepth 100000 in
set_option maxHeartbeats 16000000 in
theorem wireBack_walk (s : Sq) (A : Option Addr) (c : Nat) (B : Option Addr) (l : List UInt8) (d : Nat) (_ : l.length ≤ d) (n : Int) (h0 : 0 ≤ n) (h1 : n ≤ 65535) (w : World) (hs : SqIn w s A c) (hr : Rd w B (bs l)) (htab : Tab w) :
    Calls Tryd.prog 5 #[sqV s A c, .slice B l.length d, .int .u16 n] w fun e w' => e = .returned (.bool true) ∧ Below w.heap.size w w' := by
  obtain ⟨i0, hi, hz0, hz1, hz2⟩ : ∃ i, Tryd.prog.info? 5 = some i ∧ i.zero = some (.int .u8 0) ∧ i.size = 1 ∧ i.bytes = 1 := ⟨_, rfl, rfl, rfl, rfl⟩
  have T0 : Bx1 w (w.alloc (.cells #[.int .i64 s.kind, .int .u8 (s.priv.toNat : Int), .slice A s.params.length c, .string ⟨s.inter.toArray⟩, .int .u8 (s.final.toNat : Int), .string ⟨s.data.toArray⟩] 24)) s A c := Bx1.new w s A c
  have hsp := hs.rd
  have hsn := hs.np
  clear hs
  obtain ⟨L, hL⟩ : ∃ L, l.length = L := ⟨_, rfl⟩
  have HL := Lib.hid hL
  rw [hL]
  clear hL
  unfold sqV
  go_enter Tryd.func5, Tryd.ntmps5
  go_wp2_with fail
  refine (awake_any _ (htab.below T0.be)).mono ?_
  rintro e w1 ⟨rfl, hb⟩
  have T1 := T0.next hb
  clear T0 hb
  obtain ⟨a0, a1, a2, a3, a4, a5⟩ := T1.cells
  cases hf1 : fewB s with
  | false =>
    have HF1 := Lib.hid hf1
    clear hf1
    go_wp2_with fail
    refine (few_any s A c false _ HF1.out hsn (hsp.below T1.be)).mono ?_
    rintro e w2 ⟨rfl, hb⟩
    go_wp2_with fail
    go_ret
    exact ⟨rfl, (T1.next hb).be⟩
  | true =>
    have HF1 := Lib.hid hf1
    clear hf1
    go_wp2_with fail
    refine (few_any s A c true _ HF1.out hsn (hsp.below T1.be)).mono ?_
    rintro e w2 ⟨rfl, hb⟩
    have T2 := T1.next hb
    clear T1 hb
    clear a0 a1 a2 a3 a4 a5
    obtain ⟨a0, a1, a2, a3, a4, a5⟩ := T2.cells
    by_cases hlen : 100 < L
    · go_wp2_with fail
      go_ret
      exact ⟨rfl, T2.be⟩
    · have hlen : L ≤ 100 := by omega
      obtain ⟨l1, l2, l3⟩ := few_len HF1.out
      have HL2 := Lib.hid l2
      clear l2
      obtain ⟨m1, hm1⟩ : ∃ m, mayS s = m := ⟨_, rfl⟩
      obtain ⟨P1, hP1⟩ : ∃ P, putE s = P := ⟨_, rfl⟩
      have HM1 := Lib.hid hm1
      have HP1 := Lib.hid hP1
      have hp1 := putE_len s
      rw [hP1] at hp1
      clear hm1 hP1
      go_wp2_with fail
      refine (pputE_any s A c m1 P1 _ HM1.out HP1.out HF1.out (htab.below T2.be) (hsp.below T2.be)).mono ?_
      rintro e w3 ⟨⟨A1, c1, rfl, hc1, hr1⟩, hb⟩
      obtain ⟨n1, hn1⟩ : ∃ n, P1.length = n := ⟨_, rfl⟩
      have HN1 := Lib.hid hn1
      rw [hn1] at hp1 hc1 ⊢
      have T3 := T2.next hb
      clear T2 hb hn1
      clear a0 a1 a2 a3 a4 a5
      obtain ⟨a0, a1, a2, a3, a4, a5⟩ := T3.cells
      by_cases h1 : m1 = 0
      · subst h1
        have HPE := Lib.hid ((putE_0 HM1.out).symm.trans HP1.out)
        have hn2 : 2 ≤ n1 := by rw [← HN1.out, ← HPE.out]; exact putS_ne
        have tn : ((n1 : Int) == 0) = false := beq_false_of_ne (by omega)
        have hown3 := own_zero (w3.alloc (.cells #[] 5)) w3.heap.size 5 1 w3.heap.size (Nat.le_refl _) ⟨_, heap_alloc_new w3 _⟩
        have hrb3 := hr1.alloc (.cells #[] 5)
        have hbw3 : Below w.heap.size w (w3.alloc (.cells #[] 5)) := T3.be.alloc T3.be.size _
        have hrm3 := hr.below hbw3
        have g63 : 0 + n1 ≤ maxLen := by simp only [maxLen]; omega
        have glim : (0 + n1) * 1 ≤ 140737488355328 := by omega
        have gbs : w3.heap.size ≤ (w3.alloc (.cells #[] 5)).heap.size := by simp
        have k63 : 0 + n1 + L ≤ maxLen := by simp only [maxLen]; omega
        have klim : (0 + n1 + L) * 1 ≤ 140737488355328 := by omega
        go_wp2_with (first
          | (at_builtin; refine list_app _ rfl (.tmp 49) (.tmp 50) 27 rfl w3.heap.size 5 i0 _ 1 1 Tryd.underlying27 hi hz0 hz1 hz2 rfl Nat.one_pos _ _ _ rfl hown3 _ n1 c1 (bs P1) rfl (by rw [bs_length, HN1.out]; omega) hrb3 (bs_one P1) g63 glim gbs ?_; intro v4 w4 hown4 hg4; have hs4 := Nat.le_trans gbs hg4.size; have hrm4 := hr.below (hbw3.grown hg4 hbw3.size (fun g hg => Nat.le_trans T3.be.size (hown3.lt g hg).1)))
          | (at_builtin; refine list_app _ rfl (.tmp 51) (.tmp 52) 27 rfl w3.heap.size 5 i0 _ 1 1 Tryd.underlying27 hi hz0 hz1 hz2 rfl Nat.one_pos _ _ _ rfl hown4 _ L d (bs l) rfl (by rw [bs_length, HL.out]; omega) hrm4 (bs_one l) k63 klim hs4 ?_; intro v5 w5 hown5 hg5))
        have hb35 : Below w3.heap.size w3 w5 := (((Below.refl _ w3).alloc (Nat.le_refl _) _).grown hg4 gbs (fun k hk => (hown3.lt k hk).1)).grown hg5 hs4 (fun k hk => (hown4.lt k hk).1)
        have T5 := T3.next hb35
        have hr15 := hr1.below hb35
        obtain ⟨A5, c5, rfl, hc5, hr5⟩ := own_room hown5
        rw [List.nil_append, ← bs_append] at hr5
        have HTK := Lib.hid (show takeS (P1 ++ l) = some (s, n1) by rw [← HPE.out, takeS_put HM1.out, HPE.out, HN1.out])
        have HPL := Lib.hid (show (P1 ++ l).length = 0 + n1 + L by rw [List.length_append, HN1.out, HL.out]; omega)
        clear T3 hb35 hown3 hown4 hown5 hg4 hg5 hs4 hrb3 hrm3 hbw3 hr1 hrm4 g63 glim gbs k63 klim
        clear a0 a1 a2 a3 a4 a5
        refine (ptake_yes A5 (0 + n1 + L) c5 (P1 ++ l) s n1 _ HTK.out HPL.out hc5 (by omega) (htab.below T5.be) hr5).mono ?_
        rintro e w6 ⟨⟨A6, c6, rfl, hr6⟩, hb⟩
        have T6 := T5.next hb
        have hr16 := hr15.below hb
        clear T5 hr15 hb hr5
        have T7 : Bx1 w (w6.alloc (.cells #[.int .i64 s.kind, .int .u8 (s.priv.toNat : Int), .slice A6 s.params.length c6, .string ⟨s.inter.toArray⟩, .int .u8 (s.final.toNat : Int), .string ⟨s.data.toArray⟩] 24)) s A c := T6.next ((Below.refl _ w6).alloc (Nat.le_refl _) (.cells #[.int .i64 s.kind, .int .u8 (s.priv.toNat : Int), .slice A6 s.params.length c6, .string ⟨s.inter.toArray⟩, .int .u8 (s.final.toNat : Int), .string ⟨s.data.toArray⟩] 24))
        have hy7 := Blk.new w6 24 #[.int .i64 s.kind, .int .u8 (s.priv.toNat : Int), .slice A6 s.params.length c6, .string ⟨s.inter.toArray⟩, .int .u8 (s.final.toNat : Int), .string ⟨s.data.toArray⟩]
        have hr17 := hr16.alloc (.cells #[.int .i64 s.kind, .int .u8 (s.priv.toNat : Int), .slice A6 s.params.length c6, .string ⟨s.inter.toArray⟩, .int .u8 (s.final.toNat : Int), .string ⟨s.data.toArray⟩] 24)
        have hr67 := hr6.alloc (.cells #[.int .i64 s.kind, .int .u8 (s.priv.toNat : Int), .slice A6 s.params.length c6, .string ⟨s.inter.toArray⟩, .int .u8 (s.final.toNat : Int), .string ⟨s.data.toArray⟩] 24)
        have hlt6 := hy7.lt
        clear T6 hr16 hr6
        unfold sqV
        go_upto_region 8 with (fail)
        generalize w6.alloc (.cells #[.int .i64 s.kind, .int .u8 (s.priv.toNat : Int), .slice A6 s.params.length c6, .string ⟨s.inter.toArray⟩, .int .u8 (s.final.toNat : Int), .string ⟨s.data.toArray⟩] 24) = W7 at *
        obtain ⟨kk, hkk⟩ : ∃ kk : Nat, n.toNat % n1 = kk := ⟨_, rfl⟩
        have hk1 : kk < n1 := by rw [← hkk]; exact Nat.mod_lt _ (by omega)
        have ew : IntKind.i64.wrap n = n := IntWalk.i64_in _ (by omega)
        have em : n.tmod (n1 : Int) = (kk : Int) := by
          have hN : n = (n.toNat : Int) := by omega
          rw [Int.tmod_eq_emod_of_nonneg h0, ← hkk]
          conv => lhs; rw [hN]
          rfl
        obtain ⟨A8, hcut, hrd⟩ := cut_hi (P := Tryd.prog) (T := 27) (e := 5) (by kernel_rfl) Tryd.underlying27 Tryd.sizeOf5 A1 n1 c1 kk (by omega) hc1
        have hr8 := hrd W7 P1 HN1.out hr17
        have HTN := Lib.hid (show takeS (P1.take kk) = none by rw [← HPE.out]; exact take_cut HM1.out kk (by rw [HPE.out, HN1.out]; exact hk1))
        have HKL := Lib.hid (show (P1.take kk).length = kk by rw [List.length_take, HN1.out]; omega)
        clear hrd hkk
        go_wp2_with fail
        clear ew em hcut
        refine (ptake_no A8 kk c1 (P1.take kk) _ HTN.out HKL.out (by omega) (by omega) (htab.below T7.be) hr8).mono ?_
        rintro e w8 ⟨rfl, hb⟩
        have T8 := T7.next hb
        have hy8 := hy7.below hb hlt6
        have hr68 := hr67.below hb
        have T9 : Bx1 w (w8.alloc (.cells #[.int .i64 0, .int .u8 0, .slice none 0 0, .string ⟨#[]⟩, .int .u8 0, .string ⟨#[]⟩] 24)) s A c := T8.next ((Below.refl _ w8).alloc (Nat.le_refl _) (.cells #[.int .i64 0, .int .u8 0, .slice none 0 0, .string ⟨#[]⟩, .int .u8 0, .string ⟨#[]⟩] 24))
        have hy9 := hy8.alloc (.cells #[.int .i64 0, .int .u8 0, .slice none 0 0, .string ⟨#[]⟩, .int .u8 0, .string ⟨#[]⟩] 24)
        have hr69 := hr68.alloc (.cells #[.int .i64 0, .int .u8 0, .slice none 0 0, .string ⟨#[]⟩, .int .u8 0, .string ⟨#[]⟩] 24)
        clear T7 T8 hy7 hy8 hr67 hr68 hb hr17 hr8
        unfold zeroS
        go_upto_region 9 with (fail)
        generalize w8.alloc (.cells #[.int .i64 0, .int .u8 0, .slice none 0 0, .string ⟨#[]⟩, .int .u8 0, .string ⟨#[]⟩] 24) = W9 at *
        obtain ⟨a0, a1, a2, a3, a4, a5⟩ := T9.cells
        obtain ⟨y0, y1, y2, y3, y4, y5⟩ := Blk.cells6 hy9
        go_wp2_with fail
        refine (psame_any s s A A6 c c6 true _ ((sameB_iff _ _).2 rfl) l1 l1 HL2.out HL2.out (hsp.below T9.be) hr69).mono ?_
        rintro e w10 ⟨rfl, hb⟩
        go_wp2_with fail
        go_ret
        exact ⟨rfl, (T9.next hb).be⟩
      · have t1 : (m1 == 0) = false := beq_false_of_ne h1
        have t2 : (m1 != 0) = true := by simp [bne, t1]
        have HPE := Lib.hid ((putE_no (fun e => h1 (HM1.out.symm.trans e))).symm.trans HP1.out)
        obtain rfl : n1 = 0 := by rw [← HN1.out, ← HPE.out]; rfl
        clear h1
        go_wp2_with fail
        go_ret
        exact ⟨rfl, T3.be⟩
end Go.Proofs.YtmmbfidnbdckmaaDoor
