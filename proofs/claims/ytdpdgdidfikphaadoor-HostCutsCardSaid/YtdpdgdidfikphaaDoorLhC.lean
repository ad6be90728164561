/-
  Layer 5: the walk of HostCuts, out of what a law needs of the parser.
-/
import Derived.Test.YtdpdgdidfikphaaDoorHosC
namespace Go.Proofs.YtdpdgdidfikphaaDoor
open Go.RowKit

/-- What is known at a round's head: two parsers apart, what the first one told of all, the row of what the second one told so far. -/
structure CutR (HB : HBox) (W w : World) (g g2 : Nat) (p1 : HP) (A3 : Option Addr) (ls : List Sq) (f3 : Nat → Option Addr × Nat) (done r : List UInt8) (v : Value) (Al : Option Addr) : Prop where
  all : ∃ S T f, HB w S g W.heap.size p1 ∧ HB w T g2 W.heap.size (feedH hp0 done).1 ∧ (∀ k, S k → ¬ T k) ∧ RowQ w (fun k => S k ∨ T k) W.heap.size v (feedH hp0 done).2 f ∧
    Held w (fun k => T k ∨ v.ownBlock = some k) (fun X => RdF X A3 ls f3) ∧ RdOff w (fun k => W.heap.size ≤ k) Al (bs r)
theorem Tryd.seqinfo : ∃ i, Tryd.prog.info? 32 = some i ∧ i.zero = some (.agg #[.int .i64 0, .int .u8 0, .slice none 0 0, .string ⟨#[]⟩, .int .u8 0, .string ⟨#[]⟩]) ∧ i.size = 6 ∧ i.bytes = 80 := ⟨_, rfl, rfl, rfl, rfl⟩
section
variable {HB : HBox} {Inv : World → Prop}
set_option maxRecDepth 100000 in
set_option maxHeartbeats 16000000 in
theorem hostCuts_walk (H : HostC HB Inv) (A : Option Addr) (l : List UInt8) (c : Nat) (hk : l.length ≤ c) (B : Option Addr) (l2 : List UInt8) (c2 : Nat) (_hk2 : l2.length ≤ c2) (w : World) (hr : Rd w A (bs l)) (hr2 : Rd w B (bs l2)) (hi : Inv w) :
    Calls Tryd.prog 3 #[.slice A l.length c, .slice B l2.length c2] w fun e w' => e = .returned (.bool true) ∧ Below w.heap.size w w' := by
  obtain ⟨j0, hj, hy0, hy1, hy2⟩ := Tryd.seqinfo
  obtain ⟨m, hm⟩ : ∃ m, l.length = m := ⟨_, rfl⟩
  obtain ⟨n, hn⟩ : ∃ m, l2.length = m := ⟨_, rfl⟩
  rw [hm] at hk
  rw [hm, hn]
  have HM := Lib.hid hm
  have HN := Lib.hid hn
  clear hm hn _hk2
  by_cases h1 : m ≤ 300
  · by_cases h2 : n ≤ 20
    · obtain ⟨p1, ls, hp1⟩ : ∃ q ls, feedH hp0 l = (q, ls) := ⟨_, _, rfl⟩
      obtain ⟨n1, hn1⟩ : ∃ n, ls.length = n := ⟨_, rfl⟩
      have hn300 : n1 ≤ 300 := by
        have := feed_len hp0 l
        rw [hp1, HM.out] at this
        dsimp only at this
        omega
      have HSH := Lib.hid (show ∀ s ∈ ls, ShortS s from fun s hs => short_may (feed_may hp0 l s (by rw [hp1]; exact hs)))
      have HP1 := Lib.hid hp1
      have HN1 := Lib.hid hn1
      clear hp1 hn1
      go_enter Tryd.func3, Tryd.ntmps3
      go_wp2_with fail
      refine (hostAwake H w hi).mono ?_
      rintro e w1 ⟨rfl, hb1⟩
      go_wp2_with fail
      refine (H.new w w1 hi hb1).mono ?_
      rintro e w2 ⟨S2, g, rfl, hp2, _, hb2⟩
      have hb2 := hb1.trans (hb2.mono hb1.size)
      go_wp2_with fail
      refine (H.feed_at A m c l hp2 HM.out (by omega) (RdOff.ahead hr hb2 (H.lo hp2)) HP1.out HN1.out).mono ?_
      rintro e w3 ⟨S, A3, c3, f3, rfl, _, hp3, hw3, hf3, hd3⟩
      have hb3 := hb2.trans (hf3.below (B := w.heap.size) hb2.size (H.lo hp2))
      go_wp2_with fail
      refine (H.new w w3 hi hb3).mono ?_
      rintro e w4 ⟨T, g2, rfl, hq4, hT, hb4⟩
      have hp4 := H.behind hp3 hb4
      have hb5 := hb3.trans (hb4.mono hb3.size)
      have rel : CutR HB w w4 g g2 p1 A3 ls f3 [] l (.slice none 0 0) A := by
        refine ⟨S, T, fun _ => (none, 0), hp4, hq4, fun k h1 h2 => by have := H.hi hp3 k h1; have := hT k h2; omega, RowQ.nil _ _ _ _, ?_, ?_⟩
        · exact hd3.go (Fr.of_below hb4 (fun _ => False)) (fun _ h => h.elim) (fun k hk => by
            rcases hk with hk | hk
            · exact .inr (hT k hk)
            · cases hk)
        · exact RdOff.of_rdIn (RdIn.of hr |>.below hb5) hb5.size (fun _ h => h)
      clear hp2 hb2 hf3 hw3 hd3 hp3 hb3 hq4 hT hb4 hp4 hb1 hr
      go_wp2_with fail
      go_loopw [9, 10, 11] (fun y1 y2 i wr => ∃ (k R cl : Nat) (done r : List UInt8) (v : Value) (Al : Option Addr), k ≤ n ∧ R ≤ m ∧ R ≤ cl ∧ i = .int .i64 k ∧ v = y1 ∧ y2 = .slice Al R cl ∧ Hid (r.length = R) ∧ Hid (done ++ r = l) ∧ CutR HB w wr g g2 p1 A3 ls f3 done r v Al ∧ Below w.heap.size w wr) (fun _ _ i _ => n - (intOf i).toNat)
      case atStart => exact ⟨0, m, c, [], l, _, A, Nat.zero_le _, Nat.le_refl _, hk, rfl, rfl, rfl, HM, Lib.hid rfl, rel, hb5⟩
      case round =>
        obtain ⟨k, R, cl, done, r, v, Al, hkn, hRm, hRc, rfl, rfl, rfl, HR, HDR, ⟨S1, T1, f, hp, hq, hap, row, hd, hrl⟩, hbw⟩ := hrel
        clear rel hb5
        have HAP := Lib.hid hap
        clear hap
        by_cases hlt : k < n
        · have hkl : k < l2.length := by rw [HN.out]; exact hlt
          obtain ⟨b, o, hB, hbb, hcc⟩ := (hr2.below hbw).at_ (by omega)
          have hck := hcc k hkl
          obtain ⟨x, hx⟩ : ∃ x, l2[k]'hkl = x := ⟨_, rfl⟩
          rw [hx] at hck
          cases hB
          obtain ⟨K, hK⟩ : ∃ K, x.toNat % (R + 1) = K := ⟨_, rfl⟩
          have hKR : K ≤ R := by have := Nat.mod_lt x.toNat (show 0 < R + 1 by omega); omega
          have hx0 : (0 : Int) ≤ (x.toNat : Int) := by omega
          have hx255 : (x.toNat : Int) ≤ 255 := by have := x.toNat_lt; omega
          have he : (x.toNat : Int) % ((R : Int) + 1) = (K : Int) := by rw [← hK, Int.natCast_emod]; rfl
          obtain ⟨i0, hi0, hz0, hz1, hz2⟩ : ∃ i, Tryd.prog.info? 5 = some i ∧ i.zero = some (.int .u8 0) ∧ i.size = 1 ∧ i.bytes = 1 := ⟨_, rfl, rfl, rfl, rfl⟩
          have hso : ∀ w, (sizeOf 5).run Tryd.prog w = .ok 1 w := fun w => by simp [sizeOf, typeInfo, hi0, hz1, Result.andThen]
          obtain ⟨A1, hcutk, hrk⟩ := cutk_run (P := Tryd.prog) (T := 22) rfl Tryd.underlying22 hso Al R cl K hKR hRc
          obtain ⟨A2, hcutl, hrl2⟩ := cutl_run (P := Tryd.prog) (T := 22) rfl Tryd.underlying22 hso Al R cl K hKR hRc
          have hr1 := (hrk _ _ _ (by rw [bs_length, HR.out]) hrl).mono (H.lo hq)
          rw [show (bs r).take K = bs (r.take K) by rw [bs, bs, List.map_take]] at hr1
          obtain ⟨R2, hR2⟩ : ∃ R2, R - K = R2 := ⟨_, rfl⟩
          obtain ⟨C2, hC2⟩ : ∃ C2, cl - K = C2 := ⟨_, rfl⟩
          have hRC2 : R2 ≤ C2 := by omega
          have hR2m : R2 ≤ m := by omega
          rw [hR2, hC2] at hcutl
          obtain ⟨pq, pl, hpl⟩ : ∃ q ls, feedH hp0 done = (q, ls) := ⟨_, _, rfl⟩
          obtain ⟨q', ms, hms⟩ : ∃ q ls, feedH pq (r.take K) = (q, ls) := ⟨_, _, rfl⟩
          rw [hpl] at hq row
          dsimp only at hq row
          obtain ⟨a, ha⟩ : ∃ a, pl.length = a := ⟨_, rfl⟩
          obtain ⟨d, hdn⟩ : ∃ d, ms.length = d := ⟨_, rfl⟩
          have hal : a ≤ 300 := by
            have h3 := feed_len hp0 done
            rw [hpl] at h3
            dsimp only at h3
            have h4 := congrArg List.length HDR.out
            rw [List.length_append, HM.out] at h4
            omega
          have hdl : d ≤ 300 := by
            have h3 := feed_len pq (r.take K)
            rw [hms, List.length_take] at h3
            dsimp only at h3
            omega
          have HKT := Lib.hid (show (r.take K).length = K by rw [List.length_take, HR.out]; omega)
          have HRD := Lib.hid (show (r.drop K).length = R2 by rw [List.length_drop, HR.out]; exact hR2)
          have HF2 := Lib.hid (feed_then hpl hms)
          have HMS := Lib.hid hms
          have HA := Lib.hid ha
          have HDN := Lib.hid hdn
          have HRL2 := Lib.hid hrl2
          have HDR2 := Lib.hid (show (done ++ r.take K) ++ r.drop K = l by rw [List.append_assoc, List.take_append_drop]; exact HDR.out)
          have own := row.own
          rw [ha] at own
          clear hrk hrl2 hpl hms ha hdn hK hR2 hC2 hcc hx
          have h63 : a + d ≤ maxLen := by simp only [maxLen]; omega
          have hlim : (a + d) * 80 ≤ 140737488355328 := by omega
          go_wp2_with fail
          refine (H.feed_at A1 K cl (r.take K) hq HKT.out (by omega) hr1 HMS.out HDN.out).mono ?_
          rintro e w6 ⟨T6, A6, c6, f6, rfl, _, hq6, hw6, hf6, hd6⟩
          have hfS : Fr wr w6 (fun k => S1 k ∨ T1 k) := hf6.mono fun _ h => .inr h
          have hwS : Wid wr (fun k => S1 k ∨ T1 k) (fun k => S1 k ∨ T6 k) := fun k hk => by
            rcases hk with hk | hk
            · exact .inl (.inl hk)
            · rcases hw6 k hk with h3 | h3
              · exact .inl (.inr h3)
              · exact .inr h3
          have row6 := row.fr hfS hwS
          have hp6 := H.fr hp hf6 (fun k hs ht => HAP.out k hs ht) (H.lo hq)
          have HAP6 := Lib.hid (show ∀ k, S1 k → ¬ T6 k from fun k h3 h4 => by
            rcases hw6 k h4 with h5 | h5
            · exact HAP.out k h3 h5
            · have := H.hi hp k h3; omega)
          have hwh6 := hd.go (S' := fun k => T6 k ∨ v.ownBlock = some k) hf6 (fun k hk => .inl hk) (fun k hk => by
            rcases hk with hk | hk
            · rcases hw6 k hk with h3 | h3
              · exact .inl (.inl h3)
              · exact .inr h3
            · exact .inl (.inr hk))
          have hm6 : Held w6 (fun k => (S1 k ∨ T6 k) ∨ v.ownBlock = some k) fun W => RdF W A6 ms f6 := hd6.go (Fr.refl w6 (fun _ => False)) (fun _ h => h.elim) (fun k hk => by
            rcases hk with (hk | hk) | hk
            · exact .inl (.inl ⟨H.hi hp k hk, fun ht => HAP.out k hk ht⟩)
            · exact .inl (.inr hk)
            · exact .inl (.inl ⟨(row.own.lt k hk).2, fun ht => row.apart k hk (.inr ht)⟩))
          have hrl6 := hrl.fr (hf6.mono (H.lo hq)) (Wid.refl _ _)
          have hbw6 := hbw.trans (hf6.below (B := w.heap.size) hbw.size (H.lo hq))
          have own6 := row6.own
          rw [HA.out] at own6
          have hr6 := hm6.out.1
          have hs6 := hbw6.size
          clear hf6 hw6 hfS hwS hp hq hd hd6 row own hrl hbw hr1 hck
          go_wp2_with (at_builtin; refine list_appB _ rfl (.tmp 44) (.tmp 49) 26 rfl w.heap.size 32 j0 _ 6 80 Tryd.underlying26 hj hy0 hy1 hy2 rfl (by decide) v a (flatQ pl f) rfl own6 A6 d c6 (flatQ ms f6) rfl (by rw [flatQ_length, HDN.out]) hr6 (flatQ_one _ _) h63 hlim hs6 ?_; intro v7 w7 own7 hg7 hk7)
          have row7 := row6.app (fun k hk => by
            rcases hk with hk | hk
            · exact H.hi hp6 k hk
            · exact H.hi hq6 k hk) (hm6.imp fun W hW => hW.2) (by rw [HA.out, HDN.out]) own7 hg7 hk7
          have hvb : ∀ k, v.ownBlock = some k → w.heap.size ≤ k := fun k hk => (own6.lt k hk).1
          have hp7 := H.fr hp6 (Fr.of_grown hg7) (fun k hs hv => row6.apart k hv (.inl hs)) (fun k hv => hvb k hv)
          have hq7 := H.fr hq6 (Fr.of_grown hg7) (fun k hs hv => row6.apart k hv (.inr hs)) (fun k hv => hvb k hv)
          have hwh7 := hwh6.go (S' := fun k => T6 k ∨ v7.ownBlock = some k) (Fr.of_grown hg7) (fun k hk => .inr hk) (fun k hk => by
            rcases hk with hk | hk
            · exact .inl (.inl hk)
            · rcases hk7 k hk with h3 | h3
              · exact .inl (.inr h3)
              · exact .inr h3)
          have hrl7 := hrl6.fr ((Fr.of_grown hg7).mono hvb) (Wid.refl _ _)
          have hrl8 := HRL2.out _ _ _ (by rw [bs_length, HR.out]) hrl7
          rw [show (bs r).drop K = bs (r.drop K) by rw [bs, bs, List.map_drop]] at hrl8
          have hbw7 := Lib.hid (hbw6.grown hg7 hs6 hvb)
          have cut7 : CutR HB w w7 g g2 p1 A3 ls f3 (done ++ r.take K) (r.drop K) v7 A2 := by
            refine ⟨S1, T6, joinF pl.length f f6, hp7, ?_, HAP6.out, ?_, hwh7, hrl8⟩
            · rw [HF2.out]; exact hq7
            · rw [HF2.out]; exact row7
          clear row7 hp7 hq7 hwh7 hrl7 hrl8 hg7 hk7 own7 row6 hp6 hq6 hwh6 hm6 hrl6 hbw6 own6 hr6 hs6 hvb
          go_wp2_with fail
          go_roundw
          case rel => exact ⟨k + 1, R2, C2, _, _, _, _, by omega, hR2m, hRC2, by go_num, rfl, rfl, HRD, HDR2, cut7, hbw7.out⟩
          case measure => simp [intOf]; omega
        · have hkn2 : k = n := by omega
          subst hkn2
          obtain ⟨w5, rfl⟩ : ∃ w5 : World, w5 = wr := ⟨_, rfl⟩
          obtain ⟨pq, pl, hpl⟩ : ∃ q ls, feedH hp0 done = (q, ls) := ⟨_, _, rfl⟩
          obtain ⟨q', ms, hms⟩ : ∃ q ls, feedH pq r = (q, ls) := ⟨_, _, rfl⟩
          have hall := feed_then hpl hms
          rw [HDR.out, HP1.out] at hall
          simp only [Prod.mk.injEq] at hall
          obtain ⟨hq1, hl1⟩ := hall
          subst hq1
          rw [hpl] at hq row
          dsimp only at hq row
          obtain ⟨a, ha⟩ : ∃ a, pl.length = a := ⟨_, rfl⟩
          obtain ⟨d, hdn⟩ : ∃ d, ms.length = d := ⟨_, rfl⟩
          have had : a + d = n1 := by rw [← HN1.out, hl1, List.length_append, ha, hdn]
          obtain ⟨qb, hqb⟩ : ∃ qb, decide (p1.how = 0) = qb := ⟨_, rfl⟩
          have HL1 := Lib.hid hl1
          have HMS := Lib.hid hms
          have HA := Lib.hid ha
          have HDN := Lib.hid hdn
          have HQB := Lib.hid hqb
          have HAD := Lib.hid had
          have own := row.own
          rw [ha] at own
          have hr1 := hrl.mono (H.lo hq)
          clear hms hl1 ha hdn hqb
          have h63 : a + d ≤ maxLen := by simp only [maxLen]; omega
          have hlim : (a + d) * 80 ≤ 140737488355328 := by omega
          go_wp2_with fail
          refine (H.feed_at Al R cl r hq HR.out (by omega) hr1 HMS.out HDN.out).mono ?_
          rintro e w6 ⟨T6, A6, c6, f6, rfl, _, hq6, hw6, hf6, hd6⟩
          have hfS : Fr w5 w6 (fun k => S1 k ∨ T1 k) := hf6.mono fun _ h => .inr h
          have hwS : Wid w5 (fun k => S1 k ∨ T1 k) (fun k => S1 k ∨ T6 k) := fun k hk => by
            rcases hk with hk | hk
            · exact .inl (.inl hk)
            · rcases hw6 k hk with h3 | h3
              · exact .inl (.inr h3)
              · exact .inr h3
          have row6 := row.fr hfS hwS
          have hp6 := H.fr hp hf6 (fun k hs ht => HAP.out k hs ht) (H.lo hq)
          have hwh6 := hd.go (S' := fun k => T6 k ∨ v.ownBlock = some k) hf6 (fun k hk => .inl hk) (fun k hk => by
            rcases hk with hk | hk
            · rcases hw6 k hk with h3 | h3
              · exact .inl (.inl h3)
              · exact .inr h3
            · exact .inl (.inr hk))
          have hm6 : Held w6 (fun k => (S1 k ∨ T6 k) ∨ v.ownBlock = some k) fun W => RdF W A6 ms f6 := hd6.go (Fr.refl w6 (fun _ => False)) (fun _ h => h.elim) (fun k hk => by
            rcases hk with (hk | hk) | hk
            · exact .inl (.inl ⟨H.hi hp k hk, fun ht => HAP.out k hk ht⟩)
            · exact .inl (.inr hk)
            · exact .inl (.inl ⟨(row.own.lt k hk).2, fun ht => row.apart k hk (.inr ht)⟩))
          have hbw6 := hbw.trans (hf6.below (B := w.heap.size) hbw.size (H.lo hq))
          have own6 := row6.own
          rw [HA.out] at own6
          have hr6 := hm6.out.1
          have hs6 := hbw6.size
          clear hf6 hw6 hfS hwS hp hq hd hd6 row own hrl hbw hr1
          go_wp2_with (at_builtin; refine list_appB _ rfl (.tmp 54) (.tmp 57) 26 rfl w.heap.size 32 j0 _ 6 80 Tryd.underlying26 hj hy0 hy1 hy2 rfl (by decide) v a (flatQ pl f) rfl own6 A6 d c6 (flatQ ms f6) rfl (by rw [flatQ_length, HDN.out]) hr6 (flatQ_one _ _) h63 hlim hs6 ?_
                       intro v7 w7 own7 hg7 hk7
                       obtain ⟨A7, c7, rfl, _⟩ := own7.form)
          have row7 := row6.app (fun k hk => by
            rcases hk with hk | hk
            · exact H.hi hp6 k hk
            · exact H.hi hq6 k hk) (hm6.imp fun W hW => hW.2) (by rw [HA.out, HDN.out]) own7 hg7 hk7
          have hvb : ∀ k, v.ownBlock = some k → w.heap.size ≤ k := fun k hk => (own6.lt k hk).1
          have hp7 := H.fr hp6 (Fr.of_grown hg7) (fun k hs hv => row6.apart k hv (.inl hs)) (fun k hv => hvb k hv)
          have hq7 := H.fr hq6 (Fr.of_grown hg7) (fun k hs hv => row6.apart k hv (.inr hs)) (fun k hv => hvb k hv)
          have hwh7 := hwh6.go (S' := fun _ => False) (Fr.of_grown hg7) (fun k hk => .inr hk) (fun k hk => hk.elim)
          have hq3 := hwh7.out.q
          have hq4 : RdQ w7 A7 ls := by
            have hh := row7
            rw [← HL1.out] at hh
            have e7 : ls.length = a + d := by rw [HN1.out]; exact HAD.out.symm
            rw [← e7] at hh
            exact hh.rdQ.q
          have hbw7 := Lib.hid (hbw6.grown hg7 hs6 hvb)
          clear row7 hwh7 hg7 hk7 own7 row6 hp6 hq6 hwh6 hm6 hbw6 own6 hr6 hs6 hvb
          go_wp2_with fail
          refine (rsames_any ls ls A3 A7 n1 n1 c3 c7 true _ HN1.out HN1.out ⟨fun _ => rfl, fun _ => rfl⟩ (by omega) (by omega) HSH.out HSH.out hq3 hq4).mono ?_
          rintro e w8 ⟨rfl, hb8⟩
          have hp8 := H.behind hp7 hb8
          have hq8 := H.behind hq7 hb8
          have hb9 := hbw7.out.trans (hb8.mono hbw7.out.size)
          clear hp7 hq7 hb8 hq3 hq4
          go_wp2_with fail
          refine (H.idle_at hp8 qb HQB.out).mono ?_
          rintro e w8' ⟨rfl, rfl⟩
          go_wp2_with fail
          refine (H.idle_at hq8 qb HQB.out).mono ?_
          rintro e w8' ⟨rfl, rfl⟩
          go_wp2_with fail
          go_ret
          exact ⟨rfl, hb9⟩
    · have t1 : decide (300 < (m : Int)) = false := by simp; omega
      have t2 : decide (20 < (n : Int)) = true := by simp; omega
      go_enter Tryd.func3, Tryd.ntmps3
      go_wp2_with fail
      refine (hostAwake H w hi).mono ?_
      rintro e w1 ⟨rfl, hb1⟩
      go_wp2_with fail
      go_ret
      exact ⟨rfl, hb1⟩
  · have t1 : decide (300 < (m : Int)) = true := by simp; omega
    go_enter Tryd.func3, Tryd.ntmps3
    go_wp2_with fail
    refine (hostAwake H w hi).mono ?_
    rintro e w1 ⟨rfl, hb1⟩
    go_wp2_with fail
    go_ret
    exact ⟨rfl, hb1⟩
end
end Go.Proofs.YtdpdgdidfikphaaDoor
