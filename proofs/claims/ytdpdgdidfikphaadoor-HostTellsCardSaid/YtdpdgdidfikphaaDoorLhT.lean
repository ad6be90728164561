/-
  Layer 5: the walk of HostTells, out of what a law needs of the parser.
-/
import Derived.Test.YtdpdgdidfikphaaDoorHosC
import Derived.Test.YtdpdgdidfikphaaDoorLhG
import Derived.Test.YtdpdgdidfikphaaDoorWirF
import Derived.Lib.SmallJoins
namespace Go.Proofs.YtdpdgdidfikphaaDoor
open Go.RowKit

/-- The text of the host ahead: no ESC in it. -/
def noEsc (l : List UInt8) : List UInt8 := l.filter (· ≠ 27)
theorem noEsc_len (l : List UInt8) : (noEsc l).length ≤ l.length := List.length_filter_le _ _
theorem putsX_snoc (ls : List Sq) (s : Sq) : putsX (ls ++ [s]) = putsX ls ++ (putS s ++ [120]) := by
  induction ls with
  | nil => simp [putsX]
  | cons t ls ih =>
    show putS t ++ 120 :: putsX (ls ++ [s]) = (putS t ++ 120 :: putsX ls) ++ _
    rw [ih]
    simp
theorem putsX_feed {l : List UInt8} {ls : List Sq} (h : ∀ s ∈ ls, mayS s = 0 ∧ s.kind ≠ 2 ∧ smallP s.params) : feedH hp0 (noEsc l ++ putsX ls) = (hp0, ls) := by
  have h1 : feedH hp0 (noEsc l) = (hp0, []) := feed_idle _ fun c hc => by
    have := (List.mem_filter.1 hc).2
    exact fun e => (of_decide_eq_true this) (UInt8.toNat_inj.1 e)
  have := feed_then h1 (host_puts ls h)
  simpa using this
theorem putS_short {s : Sq} (h : mayS s = 0) : (putS s).length ≤ 20000 := by
  obtain ⟨hdl, _, hp, hil, _, _, _, _⟩ := ok_parts h
  have h3 := body_len hp hil
  unfold putS
  (repeat' split) <;> simp <;> omega
def TellB (s : Sq) : Prop := mayS s = 0 ∧ s.kind ≠ 2 ∧ smallP s.params
theorem putsX_len : ∀ (ls : List Sq), (∀ s ∈ ls, TellB s) → (putsX ls).length ≤ 20001 * ls.length
  | [], _ => by simp [putsX]
  | s :: ls, h => by
    have h1 := putS_short (h s (List.mem_cons_self ..)).1
    have h2 := putsX_len ls (fun t ht => h t (List.mem_cons_of_mem _ ht))
    rw [putsX, List.length_append, List.length_cons, List.length_cons]
    omega
theorem noEsc_snoc (l : List UInt8) (k : Nat) (hk : k < l.length) : noEsc (l.take (k + 1)) = noEsc (l.take k) ++ (if l[k] = 27 then [] else [l[k]]) := by
  unfold noEsc
  rw [List.take_succ_eq_append_getElem hk, List.filter_append]
  by_cases h : l[k] = 27
  · rw [if_pos h]; simp [h]
  · rw [if_neg h]; simp [h]
section
variable {HB : HBox} {Inv : World → Prop}
set_option maxRecDepth 100000 in
set_option maxHeartbeats 16000000 in
theorem hostTells_walk (H : HostC HB Inv) (B : Option Addr) (ls : List Sq) (d : Nat) (A : Option Addr) (l : List UInt8) (c : Nat) (hk : l.length ≤ c) (w : World) (hq : RdQ w B ls) (hr : Rd w A (bs l)) (hi : Inv w) :
    Calls Tryd.prog 4 #[.slice B ls.length d, .slice A l.length c] w fun e w' => e = .returned (.bool true) ∧ Below w.heap.size w w' := by
  obtain ⟨i0, hi0, hz0, hz1, hz2⟩ : ∃ i, Tryd.prog.info? 5 = some i ∧ i.zero = some (.int .u8 0) ∧ i.size = 1 ∧ i.bytes = 1 := ⟨_, rfl, rfl, rfl, rfl⟩
  obtain ⟨n, hn⟩ : ∃ m, ls.length = m := ⟨_, rfl⟩
  obtain ⟨m, hm⟩ : ∃ m, l.length = m := ⟨_, rfl⟩
  rw [hm] at hk
  rw [hm, hn]
  have HM := Lib.hid hm
  have HN := Lib.hid hn
  clear hm hn
  by_cases h1 : n ≤ 6
  · by_cases h2 : m ≤ 100
    · go_enter Tryd.func4, Tryd.ntmps4
      go_wp2_with fail
      refine (hostAwake H w hi).mono ?_
      rintro e w1 ⟨rfl, hb1⟩
      go_wp2_with fail
      go_loopw [6, 7] (fun v i wr => ∃ (k a : Nat), k ≤ m ∧ i = .int .i64 k ∧ a ≤ k ∧ Own wr w.heap.size 5 1 v a (bs (noEsc (l.take k))) ∧ Below w.heap.size w wr ∧ Hid ((noEsc (l.take k)).length = a)) (fun _ i _ => m - (intOf i).toNat)
      case atStart => exact ⟨0, 0, Nat.zero_le _, rfl, Nat.le_refl _, Own.nil_ _ _ _ _, hb1, Lib.hid rfl⟩
      case round =>
        obtain ⟨k, a, hkm, rfl, hak, own, hbw, HL⟩ := hrel
        clear hb1
        by_cases hlt : k < m
        · have hkl : k < l.length := by rw [HM.out]; exact hlt
          obtain ⟨x, hx⟩ : ∃ x, l[k]'hkl = x := ⟨_, rfl⟩
          obtain ⟨b, o, hA, hbl, hcc⟩ := (hr.below hbw) (by rw [bs_length, HM.out]; omega)
          have hck := hcc k (.int .u8 (x.toNat : Int)) (by unfold bs; rw [List.getElem?_map, List.getElem?_eq_getElem hkl, hx]; rfl)
          cases hA
          clear hcc
          have HS := Lib.hid (show noEsc (l.take (k + 1)) = noEsc (l.take k) ++ (if x = 27 then [] else [x]) by rw [noEsc_snoc l k hkl, hx])
          clear hx
          by_cases hx27 : x.toNat = 27
          · have h27 : x = 27 := UInt8.toNat_inj.1 hx27
            have HS2 := Lib.hid (show noEsc (l.take (k + 1)) = noEsc (l.take k) by rw [HS.out, if_pos h27, List.append_nil])
            have t1 : ((x.toNat : Int) == 27) = true := beq_iff_eq.2 (by omega)
            have t2 : ((x.toNat : Int) != 27) = false := by simp [bne, t1]
            clear hx27 h27
            go_wp2_with fail
            go_roundw
            case rel => exact ⟨k + 1, a, by omega, by go_num, by omega, by rw [HS2.out]; exact own, hbw, by rw [HS2.out]; exact HL⟩
            case measure => simp [intOf]; omega
          · have h27 : ¬ x = 27 := fun e => hx27 (by rw [e]; rfl)
            have HS2 := Lib.hid (show bs (noEsc (l.take k)) ++ bs [x] = bs (noEsc (l.take (k + 1))) by rw [HS.out, if_neg h27, bs_append])
            have HL2 := Lib.hid (show (noEsc (l.take (k + 1))).length = a + 1 by rw [HS.out, if_neg h27, List.length_append, HL.out]; rfl)
            have t1 : ((x.toNat : Int) == 27) = false := beq_false_of_ne (by omega)
            have t2 : ((x.toNat : Int) != 27) = true := by simp [bne, t1]
            have own1 := own.alloc (.cells (bs [x]).toArray 5)
            have hr1 := rd_lit wr [x] (bs [x]).toArray (0, 0) rfl
            have hbw1 := hbw.alloc hbw.size (.cells (bs [x]).toArray 5)
            have hs1 := hbw1.size
            have h63 : a + 1 ≤ maxLen := by simp only [maxLen]; omega
            have hlim : (a + 1) * 1 ≤ 140737488355328 := by omega
            clear hx27 h27 own hbw
            go_wp2_with (at_builtin; refine list_app _ rfl (.tmp 33) (.tmp 38) 22 rfl w.heap.size 5 i0 _ 1 1 Tryd.underlying22 hi0 hz0 hz1 hz2 rfl Nat.one_pos _ a _ rfl own1 (some ⟨wr.heap.size, 0, none⟩) 1 1 (bs [x]) rfl rfl hr1 (bs_one _) h63 hlim hs1 ?_; intro v2 w2 own2 hg2)
            rw [HS2.out] at own2
            have hbw2 := Lib.hid (hbw1.grown hg2 hs1 (fun j hj => (own1.lt j hj).1))
            clear hg2 own1 hbw1 hr1
            go_roundw
            case rel => exact ⟨k + 1, a + 1, by omega, by go_num, by omega, own2, hbw2.out, HL2⟩
            case measure => simp [intOf]; omega
        · obtain rfl : k = m := by omega
          have ht : l.take k = l := List.take_of_length_le (by rw [HM.out]; exact Nat.le_refl _)
          rw [ht] at own HL
          clear ht
          obtain ⟨w5, rfl⟩ : ∃ w5 : World, w5 = wr := ⟨_, rfl⟩
          go_wp2_with fail
          go_loopw [6, 8] (fun v i wr => ∃ (k2 a2 : Nat), k2 ≤ n ∧ i = .int .i64 k2 ∧ Own wr w.heap.size 5 1 v a2 (bs (noEsc l ++ putsX (ls.take k2))) ∧ Below w.heap.size w wr ∧ Hid ((noEsc l ++ putsX (ls.take k2)).length = a2) ∧ Hid (∀ s ∈ ls.take k2, TellB s)) (fun _ i _ => n - (intOf i).toNat)
          case atStart => exact ⟨0, a, Nat.zero_le _, rfl, by rw [List.take_zero, putsX, List.append_nil]; exact own, hbw, by rw [List.take_zero, putsX, List.append_nil]; exact HL, Lib.hid (fun s hs => by simp at hs)⟩
          case round =>
            clear own hbw
            obtain ⟨k2, a2, hk2, rfl, own, hbw, HL2, HA⟩ := hrel
            have hcl := putsX_len (ls.take k2) HA.out
            have ha2 : a2 ≤ 120106 := by
              have h3 := HL2.out
              have h4 := HL.out
              rw [List.length_append] at h3
              rw [List.length_take] at hcl
              have : min k2 ls.length ≤ 6 := by omega
              omega
            clear hcl
            by_cases hlt : k2 < n
            · have hkl : k2 < ls.length := by rw [HN.out]; exact hlt
              obtain ⟨s, hs⟩ : ∃ s, ls[k2]'hkl = s := ⟨_, rfl⟩
              obtain ⟨b, o, A', c', hA, hsq, a0, a1, a2', a3, a4, a5⟩ := (hq.below hbw).at_ hkl hs
              cases hA
              have HSN := Lib.hid (show ls.take (k2 + 1) = ls.take k2 ++ [s] by rw [List.take_succ_eq_append_getElem hkl, hs])
              have HS := Lib.hid hs
              clear hs
              by_cases hk2' : s.kind = 2
              · have t1 : (s.kind == 2) = true := beq_iff_eq.2 hk2'
                go_wp2_with fail
                go_ret
                exact ⟨rfl, hbw⟩
              · have t1 : (s.kind == 2) = false := beq_false_of_ne hk2'
                have HK := Lib.hid hk2'
                clear hk2'
                obtain ⟨D, hD⟩ : ∃ D, s.data.length = D := ⟨_, rfl⟩
                have hsz : (⟨s.data.toArray⟩ : ByteArray).size = D := by show s.data.toArray.size = D; simpa using hD
                have HD := Lib.hid hD
                clear hD
                by_cases hd2 : 200 < D
                · have t2 : decide (200 < (D : Int)) = true := by simp; omega
                  go_wp2_with fail
                  go_ret
                  exact ⟨rfl, hbw⟩
                · have t2 : decide (200 < (D : Int)) = false := by simp; omega
                  obtain ⟨M, hM⟩ : ∃ D, s.params.length = D := ⟨_, rfl⟩
                  by_cases hp2 : 20 < M
                  · have t3 : decide (20 < (M : Int)) = true := by simp; omega
                    rw [hM] at a2'
                    clear hM
                    go_wp2_with fail
                    go_ret
                    exact ⟨rfl, hbw⟩
                  · have hp3 : s.params.length ≤ 20 := by omega
                    have t3 : decide (20 < (s.params.length : Int)) = false := by simp; omega
                    clear hM hp2
                    cases hgr : greatB s.params with
                    | true =>
                      have HG := Lib.hid hgr
                      clear hgr
                      go_wp2_with (first | (refine (great_any s A' c' true _ HG.out (by omega) hsq.nr hsq.rd).mono ?_; rintro e w6 ⟨rfl, hb6⟩))
                      go_ret
                      exact ⟨rfl, hbw.trans (hb6.mono hbw.size)⟩
                    | false =>
                      have HG := Lib.hid hgr
                      clear hgr
                      go_wp2_with fail
                      refine (great_any s A' c' false _ HG.out (by omega) hsq.nr hsq.rd).mono ?_
                      rintro e w6 ⟨rfl, hb6⟩
                      have own6 := own.behind hb6
                      have hbw6 := hbw.trans (hb6.mono hbw.size)
                      clear a0 a1 a2' a3 a4 a5 own hsq hbw hb6 hsz
                      obtain ⟨b2, o2, A2, c2, hA2, hsq, a0, a1, a2', a3, a4, a5⟩ := (hq.below hbw6).at_ hkl HS.out
                      cases hA2
                      by_cases hms : mayS s = 0
                      · have HMS := Lib.hid hms
                        have hpl := putS_short hms
                        have HT := Lib.hid (show ∀ t ∈ ls.take (k2 + 1), TellB t from fun t ht => by
                          rw [HSN.out] at ht
                          rcases List.mem_append.1 ht with h | h
                          · exact HA.out t h
                          · rw [List.mem_singleton] at h; subst h; exact ⟨HMS.out, HK.out, great_small HG.out⟩)
                        clear hms
                        obtain ⟨P, hP⟩ : ∃ P, putS s = P := ⟨_, rfl⟩
                        have HP := Lib.hid hP
                        go_wp2_with fail
                        refine (wput_yes s A2 c2 _ HMS.out hsq.rd).mono ?_
                        rintro e w7 ⟨⟨A3, c3, rfl, hc3, hr3⟩, hb7⟩
                        rw [hP] at hpl hc3 hr3 ⊢
                        obtain ⟨N, hN⟩ : ∃ N, P.length = N := ⟨_, rfl⟩
                        rw [hN] at hpl hc3 ⊢
                        have HPN := Lib.hid hN
                        clear hP hN
                        have own7 := own6.behind hb7
                        have hbw7 := hbw6.trans (hb7.mono hbw6.size)
                        clear a0 a1 a2' a3 a4 a5 own6 hsq hbw6 hb7
                        have h63 : a2 + N ≤ maxLen := by simp only [maxLen]; omega
                        have hlim : (a2 + N) * 1 ≤ 140737488355328 := by omega
                        have g63 : a2 + N + 1 ≤ maxLen := by simp only [maxLen]; omega
                        have glim : (a2 + N + 1) * 1 ≤ 140737488355328 := by omega
                        have hs7 := hbw7.size
                        have HX := Lib.hid (show (bs (noEsc l ++ putsX (ls.take k2)) ++ bs P) ++ bs [120] = bs (noEsc l ++ putsX (ls.take (k2 + 1))) by
                          rw [HSN.out, putsX_snoc, HP.out, ← bs_append, ← bs_append, List.append_assoc, List.append_assoc])
                        have HY := Lib.hid (show (noEsc l ++ putsX (ls.take (k2 + 1))).length = a2 + N + 1 by
                          have h3 := HL2.out
                          rw [List.length_append] at h3
                          rw [HSN.out, putsX_snoc, HP.out, List.length_append, List.length_append, List.length_append, HPN.out]
                          show _ + (_ + (N + 1)) = _
                          omega)
                        clear hpl ha2
                        go_wp2_with (first
                          | (at_builtin; refine list_app _ rfl (.tmp 89) (.tmp 90) 22 rfl w.heap.size 5 i0 _ 1 1 Tryd.underlying22 hi0 hz0 hz1 hz2 rfl Nat.one_pos _ a2 _ rfl own7 A3 N c3 (bs P) rfl (by rw [bs_length, HPN.out]; omega) hr3 (bs_one P) h63 hlim hs7 ?_; intro v8 w8 own8 hg8
                             have hbw8 := hbw7.grown hg8 hs7 (fun j hj => (own7.lt j hj).1)
                             have own8b := own8.alloc (.cells (bs [120]).toArray 5)
                             have hr8 := rd_lit w8 [120] (bs [120]).toArray (0, 0) rfl
                             have hbw8b := hbw8.alloc hbw8.size (.cells (bs [120]).toArray 5)
                             have hs8 := hbw8b.size)
                          | (at_builtin; refine list_app _ rfl (.tmp 92) (.tmp 93) 22 rfl w.heap.size 5 i0 _ 1 1 Tryd.underlying22 hi0 hz0 hz1 hz2 rfl Nat.one_pos v8 (a2 + N) _ rfl own8b (some ⟨w8.heap.size, 0, none⟩) 1 1 (bs [120]) rfl rfl hr8 (bs_one _) g63 glim hs8 ?_; intro v9 w9 own9 hg9))
                        rw [HX.out] at own9
                        have hbw9 := Lib.hid (hbw8b.grown hg9 hs8 (fun j hj => (own8b.lt j hj).1))
                        clear hg8 hg9 own8 own8b hbw8 hbw8b hr8 own7 hbw7 hr3
                        go_roundw
                        case rel => exact ⟨k2 + 1, a2 + N + 1, by omega, by go_num, own9, hbw9.out, HY, HT⟩
                        case measure => simp [intOf]; omega
                      · obtain ⟨mm, hmm⟩ : ∃ m, mayS s = m := ⟨_, rfl⟩
                        rw [hmm] at hms
                        have HMM := Lib.hid hmm
                        have t4 : (mm == 0) = false := beq_false_of_ne hms
                        have t5 : (mm != 0) = true := by simp [bne, t4]
                        clear hmm
                        go_wp2_with fail
                        refine (wput_no_wide s A2 c2 mm _ HMM.out hms (by omega) (by have := hsq.ni; simp only [maxLen] at this; omega) hsq.rd).mono ?_
                        rintro e w7 ⟨rfl, hb7⟩
                        clear hms
                        go_wp2_with fail
                        go_ret
                        exact ⟨rfl, hbw6.trans (hb7.mono hbw6.size)⟩
            · have hkn : k2 = n := by omega
              have ht : ls.take k2 = ls := List.take_of_length_le (by rw [HN.out]; omega)
              rw [ht] at own HL2 HA
              clear ht hkn
              obtain ⟨w6, rfl⟩ : ∃ w6 : World, w6 = wr := ⟨_, rfl⟩
              obtain ⟨A5, c5, rfl, _⟩ := own.form
              have hr5 := own.rd
              have HF := Lib.hid (putsX_feed (l := l) HA.out)
              have HSH := Lib.hid (show ∀ s ∈ ls, ShortS s from fun s hs => short_may (HA.out s hs).1)
              go_wp2_with fail
              refine (H.new w w6 hi hbw).mono ?_
              rintro e w7 ⟨S, g, rfl, hp, hS7, hb7⟩
              have hr7 := RdOff.ahead hr5 hb7 hS7
              have hbw7 := hbw.trans (hb7.mono hbw.size)
              clear own hr5 hbw hb7
              go_wp2_with fail
              refine (H.feed_at A5 a2 c5 _ hp HL2.out (by omega) hr7 HF.out HN.out).mono ?_
              rintro e w8 ⟨S8, A8, c8, f8, rfl, hc8, hp8, _, hf8, hd8⟩
              have hbw8 := hbw7.trans (hf8.below (B := w.heap.size) hbw7.size (H.lo hp))
              have hq8 := hq.below hbw8
              have hq9 := hd8.out.q
              clear hd8 hf8 hbw7 hp hr7
              go_wp2_with fail
              refine (rsames_any ls ls A8 B n n c8 d true _ HN.out HN.out ⟨fun _ => rfl, fun _ => rfl⟩ (by omega) (by omega) HSH.out HSH.out hq9 hq8).mono ?_
              rintro e w9 ⟨rfl, hb9⟩
              have hp9 := H.behind hp8 hb9
              have hbw9 := hbw8.trans (hb9.mono hbw8.size)
              clear hp8 hb9 hq8 hq9
              go_wp2_with fail
              refine (H.idle_at hp9 true rfl).mono ?_
              rintro e w9' ⟨rfl, rfl⟩
              go_wp2_with fail
              go_ret
              exact ⟨rfl, hbw9⟩
    · have t1 : decide (6 < (n : Int)) = false := by simp; omega
      have t2 : decide (100 < (m : Int)) = true := by simp; omega
      go_enter Tryd.func4, Tryd.ntmps4
      go_wp2_with fail
      refine (hostAwake H w hi).mono ?_
      rintro e w1 ⟨rfl, hb1⟩
      go_wp2_with fail
      go_ret
      exact ⟨rfl, hb1⟩
  · have t1 : decide (6 < (n : Int)) = true := by simp; omega
    go_enter Tryd.func4, Tryd.ntmps4
    go_wp2_with fail
    refine (hostAwake H w hi).mono ?_
    rintro e w1 ⟨rfl, hb1⟩
    go_wp2_with fail
    go_ret
    exact ⟨rfl, hb1⟩
end
end Go.Proofs.YtdpdgdidfikphaaDoor
