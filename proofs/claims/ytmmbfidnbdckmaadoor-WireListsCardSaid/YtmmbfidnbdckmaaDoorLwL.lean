/-
  Layer 3: the walk of the law WireLists.
-/
import Derived.Test.YtmmbfidnbdckmaaDoorWpC
import Derived.Test.YtmmbfidnbdckmaaDoorWpK
import Derived.Deep.Cut
namespace Go.Proofs.YtmmbfidnbdckmaaDoor
open Go.RowKit

/-- The bytes of sequences, one behind the other. -/
def catL (ls : List Sq) : List UInt8 := (ls.map putS).flatten
theorem catL_snoc (ls : List Sq) (s : Sq) : catL (ls ++ [s]) = catL ls ++ putS s := by simp [catL]
theorem catL_cons (s : Sq) (ls : List Sq) : catL (s :: ls) = putS s ++ catL ls := by simp [catL]
theorem catL_len : ∀ (ls : List Sq), (∀ s ∈ ls, mayS s = 0) → (catL ls).length ≤ 20000 * ls.length
  | [], _ => by simp [catL]
  | s :: ls, h => by
    have h1 := (may_small (h s (List.mem_cons_self ..))).2.2.1
    have h2 := catL_len ls (fun t ht => h t (List.mem_cons_of_mem _ ht))
    rw [catL_cons, List.length_append, List.length_cons]
    omega
theorem SqIn.below {w w' : World} {s : Sq} {A : Option Addr} {c : Nat} (h : SqIn w s A c) (hb : Below w.heap.size w w') : SqIn w' s A c := ⟨h.rd.below hb, h.np, h.ni, h.nd⟩
theorem RdQ.below {w w' : World} {A : Option Addr} {ls : List Sq} (h : RdQ w A ls) (hb : Below w.heap.size w w') : RdQ w' A ls := fun hp => by
  obtain ⟨b, o, rfl, hlt, hc⟩ := h hp
  refine ⟨b, o, rfl, Nat.lt_of_lt_of_le hlt hb.size, fun k hk => ?_⟩
  obtain ⟨A', c', h1, h2⟩ := hc k hk
  exact ⟨A', c', h1.below hb, fun i u hu => (hb.cell (p := ⟨b, o + k * 6 + i, none⟩) hlt).trans (h2 i u hu)⟩
theorem RdQ.at_ {w : World} {A : Option Addr} {ls : List Sq} (h : RdQ w A ls) {k : Nat} (hk : k < ls.length) {s : Sq} (hs : ls[k] = s) : ∃ b o A' c', A = some ⟨b, o, none⟩ ∧ SqIn w s A' c' ∧
    w.cell? ⟨b, o + k * 6, none⟩ = some (.int .i64 s.kind) ∧ w.cell? ⟨b, o + k * 6 + 1, none⟩ = some (.int .u8 (s.priv.toNat : Int)) ∧ w.cell? ⟨b, o + k * 6 + 2, none⟩ = some (.slice A' s.params.length c') ∧ w.cell? ⟨b, o + k * 6 + 3, none⟩ = some (.string ⟨s.inter.toArray⟩) ∧ w.cell? ⟨b, o + k * 6 + 4, none⟩ = some (.int .u8 (s.final.toNat : Int)) ∧ w.cell? ⟨b, o + k * 6 + 5, none⟩ = some (.string ⟨s.data.toArray⟩) := by
  obtain ⟨b, o, rfl, _, hc⟩ := h (by omega)
  obtain ⟨A', c', h1, h2⟩ := hc k hk
  rw [hs] at h1 h2
  exact ⟨b, o, A', c', rfl, h1, h2 0 _ rfl, h2 1 _ rfl, h2 2 _ rfl, h2 3 _ rfl, h2 4 _ rfl, h2 5 _ rfl⟩

set_option maxRecDepth 100000 in
set_option maxHeartbeats 16000000 in
theorem wireLists_walk (B : Option Addr) (ls : List Sq) (d : Nat) (w : World) (hq : RdQ w B ls) (htab : Tab w) :
    Calls Tryd.prog 7 #[.slice B ls.length d] w fun e w' => e = .returned (.bool true) ∧ Below w.heap.size w w' := by
  obtain ⟨i0, hi, hz0, hz1, hz2⟩ : ∃ i, Tryd.prog.info? 5 = some i ∧ i.zero = some (.int .u8 0) ∧ i.size = 1 ∧ i.bytes = 1 := ⟨_, rfl, rfl, rfl, rfl⟩
  obtain ⟨n, hn⟩ : ∃ n, ls.length = n := ⟨_, rfl⟩
  have HN := Lib.hid hn
  rw [hn]
  clear hn
  go_enter Tryd.func7, Tryd.ntmps7
  go_wp2_with fail
  refine (awake_any _ htab).mono ?_
  rintro e w1 ⟨rfl, hb1⟩
  by_cases h8 : 8 < n
  · go_wp2_with fail
    go_ret
    exact ⟨rfl, hb1⟩
  · have h8 : n ≤ 8 := by omega
    go_wp2_with fail
    go_loopw [4, 5] (fun v i wr => ∃ (k : Nat) (m : Nat), k ≤ n ∧ i = .int .i64 k ∧ Own wr w.heap.size 5 1 v m (bs (catL (ls.take k))) ∧ Below w.heap.size w wr ∧ Hid (∀ s ∈ ls.take k, mayS s = 0 ∧ fewB s = true) ∧ Hid (m = (catL (ls.take k)).length)) (fun _ i _ => n - (intOf i).toNat)
    case atStart => exact ⟨0, 0, Nat.zero_le _, rfl, Own.nil_ _ _ _ _, hb1, Lib.hid (fun s hs => by simp at hs), Lib.hid rfl⟩
    case round =>
      obtain ⟨k, m, hk, rfl, ho, hbw, HA, HM⟩ := hrel
      by_cases hlt : k < n
      · have hkl : k < ls.length := by rw [HN.out]; exact hlt
        obtain ⟨s, hs⟩ : ∃ s, ls[k]'hkl = s := ⟨_, rfl⟩
        obtain ⟨b, o, A', c', hA, hsq, a0, a1, a2, a3, a4, a5⟩ := (hq.below hbw).at_ hkl hs
        cases hA
        have HSN := Lib.hid (show ls.take (k + 1) = ls.take k ++ [s] by rw [List.take_succ_eq_append_getElem hkl, hs])
        have HS := Lib.hid hs
        clear hs hb1
        cases hf1 : fewB s with
        | false =>
          have HF1 := Lib.hid hf1
          clear hf1
          go_wp2_with fail
          refine (few_any s A' c' false _ HF1.out hsq.np hsq.rd).mono ?_
          rintro e w2 ⟨rfl, hb⟩
          go_wp2_with fail
          go_ret
          exact ⟨rfl, hbw.trans (hb.mono hbw.size)⟩
        | true =>
          have HF1 := Lib.hid hf1
          clear hf1
          go_wp2_with fail
          refine (few_any s A' c' true _ HF1.out hsq.np hsq.rd).mono ?_
          rintro e w2 ⟨rfl, hb⟩
          have ho2 := ho.behind hb
          have hb2 := hbw.trans (hb.mono hbw.size)
          clear a0 a1 a2 a3 a4 a5 ho
          obtain ⟨b2, o2, A2, c2, hA2, hsq2, a0, a1, a2, a3, a4, a5⟩ := (hq.below hb2).at_ hkl HS.out
          cases hA2
          clear hsq hbw hb
          obtain ⟨m1, hm1⟩ : ∃ m, mayS s = m := ⟨_, rfl⟩
          obtain ⟨P1, hP1⟩ : ∃ P, putE s = P := ⟨_, rfl⟩
          have HM1 := Lib.hid hm1
          have HP1 := Lib.hid hP1
          have hp1 := putE_len s
          rw [hP1] at hp1
          clear hm1 hP1
          go_wp2_with fail
          refine (pputE_any s A2 c2 m1 P1 _ HM1.out HP1.out HF1.out (htab.below hb2) hsq2.rd).mono ?_
          rintro e w3 ⟨⟨A3, c3, rfl, hc3, hr3⟩, hb⟩
          obtain ⟨n1, hn1⟩ : ∃ n, P1.length = n := ⟨_, rfl⟩
          have HN1 := Lib.hid hn1
          rw [hn1] at hp1 hc3 ⊢
          have ho3 := ho2.behind hb
          have hb3 := hb2.trans (hb.mono hb2.size)
          clear hn1 hb hb2 ho2 hsq2 a0 a1 a2 a3 a4 a5
          by_cases h1 : m1 = 0
          · subst h1
            have HPE := Lib.hid ((putE_0 HM1.out).symm.trans HP1.out)
            have hcl := catL_len (ls.take k) (fun t ht => (HA.out t ht).1)
            rw [List.length_take, ← HM.out] at hcl
            have hm8 : m ≤ 160000 := by
              have : min k ls.length ≤ 8 := by omega
              omega
            have h63 : m + n1 ≤ maxLen := by simp only [maxLen]; omega
            have hlim : (m + n1) * 1 ≤ 140737488355328 := by omega
            have hbs3 := hb3.size
            clear hcl
            go_wp2_with (first | (at_builtin; refine list_app _ rfl (.tmp 41) (.tmp 42) 27 rfl w.heap.size 5 i0 _ 1 1 Tryd.underlying27 hi hz0 hz1 hz2 rfl Nat.one_pos _ _ _ rfl ho3 _ n1 c3 (bs P1) rfl (by rw [bs_length, HN1.out]; omega) hr3 (bs_one P1) h63 hlim hbs3 ?_; intro v4 w4 hown4 hg4))
            have hb4 : Below w.heap.size w w4 := hb3.grown hg4 hbs3 (fun g hg => (ho3.lt g hg).1)
            have hfin : bs (catL (ls.take k)) ++ bs P1 = bs (catL (ls.take (k + 1))) := by rw [← bs_append, HSN.out, catL_snoc, HPE.out]
            rw [hfin] at hown4
            have HM4 := Lib.hid (show m + n1 = (catL (ls.take (k + 1))).length by rw [HSN.out, catL_snoc, List.length_append, ← HM.out, HPE.out, HN1.out])
            clear hfin hg4 ho3 hb3 hr3
            go_wp2_with fail
            go_roundw
            case rel => exact ⟨k + 1, m + n1, by omega, by go_num, hown4, hb4, Lib.hid (fun t ht => by
                rw [HSN.out] at ht
                rcases List.mem_append.1 ht with h | h
                · exact HA.out t h
                · rw [List.mem_singleton] at h; subst h; exact ⟨HM1.out, HF1.out⟩), HM4⟩
            case measure => simp [intOf]; omega
          · have t1 : (m1 == 0) = false := beq_false_of_ne h1
            have t2 : (m1 != 0) = true := by simp [bne, t1]
            clear h1
            go_wp2_with fail
            go_ret
            exact ⟨rfl, hb3⟩
      · obtain rfl : k = n := by omega
        have HT := Lib.hid (show ls.take k = ls from List.take_of_length_le (by rw [HN.out]; omega))
        have HAL := Lib.hid (show ∀ s ∈ ls, mayS s = 0 ∧ fewB s = true by have := HA.out; rw [HT.out] at this; exact this)
        obtain ⟨A5, c5, rfl, hc5, hr5⟩ := own_room ho
        rw [HT.out] at hr5
        have HM5 := Lib.hid (show m = (catL ls).length by have := HM.out; rw [HT.out] at this; exact this)
        have hml := catL_len ls (fun t ht => (HAL.out t ht).1)
        rw [HN.out, ← HM5.out] at hml
        clear ho HA HM HT hb1
        obtain ⟨wo, rfl⟩ : ∃ wo : World, wo = wr := ⟨_, rfl⟩
        go_wp2_with fail
        go_loopw [4, 8] (fun v i wr => ∃ (j : Nat) (A6 : Option Addr) (m6 c6 : Nat), j ≤ k ∧ i = .int .i64 j ∧ v = .slice A6 m6 c6 ∧ (m6 ≤ c6 ∧ m6 ≤ 160000) ∧ Rd wr A6 (bs (catL (ls.drop j))) ∧ Hid (m6 = (catL (ls.drop j)).length) ∧ Below w.heap.size w wr) (fun _ i _ => k - (intOf i).toNat)
        case atStart => exact ⟨0, A5, m, c5, Nat.zero_le _, rfl, rfl, ⟨hc5, by omega⟩, hr5, HM5, hbw⟩
        case round =>
          obtain ⟨j, A6, m6, c6, hj, rfl, rfl, ⟨hm6, hm7⟩, hr6, HM6, hb6⟩ := hrel
          clear hr5 hbw
          by_cases hjk : j < k
          · have hjl : j < ls.length := by rw [HN.out]; exact hjk
            obtain ⟨s, hs⟩ : ∃ s, ls[j]'hjl = s := ⟨_, rfl⟩
            have HD := Lib.hid (show catL (ls.drop j) = putS s ++ catL (ls.drop (j + 1)) by rw [List.drop_eq_getElem_cons hjl, catL_cons, hs])
            obtain ⟨HMS, HFS⟩ : Hid (mayS s = 0) ∧ Hid (fewB s = true) := by
              have := HAL.out s (by rw [← hs]; exact List.getElem_mem hjl)
              exact ⟨Lib.hid this.1, Lib.hid this.2⟩
            have HSS := Lib.hid hs
            clear hs
            obtain ⟨n1, hn1⟩ : ∃ n, (putS s).length = n := ⟨_, rfl⟩
            have HN1 := Lib.hid hn1
            have HTK := Lib.hid (show takeS (catL (ls.drop j)) = some (s, n1) by rw [HD.out, takeS_put HMS.out, hn1])
            have hn6 : n1 ≤ m6 := by rw [HM6.out, HD.out, List.length_append, hn1]; omega
            obtain ⟨l1, l2, l3⟩ := few_len HFS.out
            have HL2 := Lib.hid l2
            clear hn1 l2
            go_wp2_with fail
            refine (ptake_yes A6 m6 c6 (catL (ls.drop j)) s n1 _ HTK.out HM6.out.symm hm6 (by omega) (htab.below hb6) hr6).mono ?_
            rintro e w7 ⟨⟨A7, c7, rfl, hr7⟩, hb⟩
            have hb7 := hb6.trans (hb.mono hb6.size)
            have hr67 := hr6.below hb
            clear hr6 hb hb6
            have hx8 := Blk.new w7 24 #[.int .i64 s.kind, .int .u8 (s.priv.toNat : Int), .slice A7 s.params.length c7, .string ⟨s.inter.toArray⟩, .int .u8 (s.final.toNat : Int), .string ⟨s.data.toArray⟩]
            have hr78 := hr7.alloc (.cells #[.int .i64 s.kind, .int .u8 (s.priv.toNat : Int), .slice A7 s.params.length c7, .string ⟨s.inter.toArray⟩, .int .u8 (s.final.toNat : Int), .string ⟨s.data.toArray⟩] 24)
            have hr68 := hr67.alloc (.cells #[.int .i64 s.kind, .int .u8 (s.priv.toNat : Int), .slice A7 s.params.length c7, .string ⟨s.inter.toArray⟩, .int .u8 (s.final.toNat : Int), .string ⟨s.data.toArray⟩] 24)
            have hb8 : Below w.heap.size w (w7.alloc (.cells #[.int .i64 s.kind, .int .u8 (s.priv.toNat : Int), .slice A7 s.params.length c7, .string ⟨s.inter.toArray⟩, .int .u8 (s.final.toNat : Int), .string ⟨s.data.toArray⟩] 24)) := hb7.alloc hb7.size _
            clear hr7 hr67 hb7
            unfold sqV
            go_upto_region 18 with (fail)
            generalize w7.alloc (.cells #[.int .i64 s.kind, .int .u8 (s.priv.toNat : Int), .slice A7 s.params.length c7, .string ⟨s.inter.toArray⟩, .int .u8 (s.final.toNat : Int), .string ⟨s.data.toArray⟩] 24) = W8 at *
            obtain ⟨b, o, A', c', hA, hsq, a0, a1, a2, a3, a4, a5⟩ := (hq.below hb8).at_ hjl HSS.out
            cases hA
            obtain ⟨x0, x1, x2, x3, x4, x5⟩ := Blk.cells6 hx8
            have hr78d : RdP W8.drew A7 s.params := hr78
            have hsqd : RdP W8.drew A' s.params := hsq.rd
            have hsq2 : SqIn W8 s A' c' := hsq
            clear hr78 hsq
            go_wp2_with fail
            go_region_with (go_at_call 18; refine (psame_any s s A7 A' c7 c' true _ ((sameB_iff _ _).2 rfl) l1 l1 HL2.out HL2.out hr78d hsqd).mono ?_; rintro e w9 ⟨rfl, hb⟩)
            all_goals
              have hb9 : Below w.heap.size w w9 := hb8.drew.trans (hb.mono hb8.size)
              have hr69 : RdIn w9.heap.size w9 A6 (bs (catL (ls.drop j))) := RdIn.of ((show Rd W8.drew A6 (bs (catL (ls.drop j))) from hr68).below hb)
              obtain ⟨A10, hcut, hrd⟩ := cut_run (P := Tryd.prog) (T := 27) (e := 5) (by kernel_rfl) Tryd.underlying27 Tryd.sizeOf5 A6 m6 c6 n1 hn6 hm6
              have hr10 := (hrd w9.heap.size w9 _ HM6.out.symm hr69).rd (Nat.le_refl _)
              rw [show (catL (ls.drop j)).drop n1 = catL (ls.drop (j + 1)) by rw [HD.out, ← HN1.out, List.drop_left]] at hr10
              have HM10 := Lib.hid (show m6 - n1 = (catL (ls.drop (j + 1))).length by rw [HM6.out, HD.out, List.length_append, HN1.out]; omega)
              have hn0 : (0 : Int) ≤ (n1 : Int) := by omega
              have hn1 : (n1 : Int) ≤ (m6 : Int) := by omega
              clear hrd hr69 hb8 hb hr78d hsqd hsq2 hr68 hx8 a0 a1 a2 a3 a4 a5 x0 x1 x2 x3 x4 x5
              go_wp2_with fail
              go_roundw
              case rel => exact ⟨j + 1, A10, m6 - n1, c6 - n1, by omega, by go_num, rfl, ⟨by omega, by omega⟩, hr10, HM10, hb9⟩
              case measure => simp [intOf]; omega
          · obtain rfl : j = k := by omega
            obtain rfl : m6 = 0 := by rw [HM6.out, List.drop_of_length_le (by rw [HN.out]; omega)]; rfl
            go_wp2_with fail
            go_ret
            exact ⟨rfl, hb6⟩
end Go.Proofs.YtmmbfidnbdckmaaDoor
