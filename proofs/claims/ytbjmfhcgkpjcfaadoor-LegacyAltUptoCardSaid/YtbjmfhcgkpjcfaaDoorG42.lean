/-
  Layer 2, walked: the document's All. Layer 10, the document's functions, walked. Layer 3, walked: Arg, the program's and the document's. Stage 11, the landed legacy: what LegacyForms needs of the program.
-/
import Derived.Test.YtbjmfhcgkpjcfaaDoorG08
import Derived.Test.YtbjmfhcgkpjcfaaDoorG09
import Derived.Test.YtbjmfhcgkpjcfaaDoorG14
import Derived.Test.YtbjmfhcgkpjcfaaDoorG15
import Derived.Test.YtbjmfhcgkpjcfaaDoorG18
import Derived.Test.YtbjmfhcgkpjcfaaDoorG20
import Derived.Test.YtbjmfhcgkpjcfaaDoorG27
import Derived.Test.YtbjmfhcgkpjcfaaDoorG36
import Derived.Test.YtbjmfhcgkpjcfaaDoorG38
import Derived.Test.YtbjmfhcgkpjcfaaDoorG41
namespace Go.Proofs.YtbjmfhcgkpjcfaaDoor
open Go.RowKit

theorem rtake_tup (A : Option Addr) (n c : Nat) (l : List UInt8) (r : Int) (m : Nat) (w : World) (hn : l.length = n) (h : takeL l = (r, m)) (hl : l.length ≤ 4294967296) (hlc : n ≤ c) (hr : Rd w A (bs l)) :
    Calls Tryd.prog 54 #[.slice A n c] w fun e w' => e = .returned (.tuple #[.int .i64 r, .int .i64 m]) ∧ Below w.heap.size w w' := by
  subst hn
  refine (rtake_any A c l w hl hlc hr).mono ?_
  rintro e w' ⟨rfl, hb⟩
  exact ⟨by unfold Tk; rw [h], hb⟩
theorem all_pre {t : List UInt8} {pre : List Int} {k m : Nat} {r : Int} (h : allL t = (allL (t.drop k)).map (pre ++ ·)) (ht : takeL (t.drop k) = (r, m)) (hm : m ≠ 0) : allL t = (allL (t.drop (k + m))).map ((pre ++ [r]) ++ ·) := by
  rw [h, allL_yes (by rw [ht]; exact hm), ht, List.drop_drop]
  cases allL (t.drop (k + m)) with
  | none => rfl
  | some x => simp

set_option maxRecDepth 100000 in
set_option maxHeartbeats 2000000 in
theorem rall_own (A : Option Addr) (c : Nat) (t : List UInt8) (w : World) (ht : t.length ≤ 4294967296) (htc : t.length ≤ c) (hr : Rd w A (bs t)) :
    Calls Tryd.prog 34 #[.slice A t.length c] w (AlO (allL t) w) := by
  obtain ⟨i0, hi, hz0, hz1, hz2⟩ := info_parts Tryd.intinfo
  go_enter Tryd.func34, Tryd.ntmps34
  go_wp2
  go_loopw [4, 5] (fun v i wr => ∃ (k : Nat) (pre : List Int), k ≤ t.length ∧ i = .int .i64 k ∧ pre.length ≤ k ∧ allL t = (allL (t.drop k)).map (pre ++ ·) ∧ Own wr w.heap.size 3 1 v pre.length (is_ pre) ∧ Below w.heap.size w wr) (fun _ i _ => t.length - (intOf i).toNat)
  case atStart => exact ⟨0, [], Nat.zero_le _, rfl, Nat.le_refl _, by rw [List.drop_zero]; cases allL t <;> rfl, Own.nil_ _ _ _ _, Below.refl _ _⟩
  case round =>
    obtain ⟨k, pre, hk, rfl, hpk, hpre, hown, hbw⟩ := hrel
    have HP := Lib.hid hpre
    clear hpre
    by_cases hlt : k < t.length
    · have hrw := hr.below hbw
      obtain ⟨b, o, rfl, hb, hcc⟩ := hrw.at_ (by omega)
      have hdr := (RdIn.of hrw).drop k hlt
      clear hcc
      have k0 : (0 : Int) ≤ (k : Int) := by omega
      have k1 : (k : Int) ≤ (t.length : Int) := by omega
      have hlen := Lib.hid (show (t.drop k).length = t.length - k from List.length_drop)
      have hld : (t.drop k).length ≤ 4294967296 := by rw [List.length_drop]; omega
      by_cases hz : (takeL (t.drop k)).2 = 0
      · have E := Lib.hid (take_zero hz)
        have EN := Lib.hid (show allL t = none by rw [HP.out, allL_no (by rw [List.length_drop]; omega) hz]; rfl)
        clear hz
        go_wp2_with fail
        refine (rtake_tup _ _ _ (t.drop k) 0 0 _ hlen.out E.out hld (by omega) hdr).mono ?_
        rintro e w2 ⟨rfl, hb2⟩
        have hb2 : Below w.heap.size w w2 := hbw.trans (hb2.mono hbw.size)
        go_wp2_with fail
        go_ret2
        exact AlO.no EN.out hb2
      · have hle := (take_snd_le (t.drop k)).1
        obtain ⟨r, hr1⟩ : ∃ r, (takeL (t.drop k)).1 = r := ⟨_, rfl⟩
        obtain ⟨m, hm1⟩ : ∃ m, (takeL (t.drop k)).2 = m := ⟨_, rfl⟩
        have E := Lib.hid (show takeL (t.drop k) = (r, m) by rw [← hr1, ← hm1])
        rw [hm1, List.length_drop] at hle
        rw [hm1] at hz
        have m1 : ((m : Int) == 0) = false := beq_false_of_ne (by omega)
        have PE := Lib.hid (all_pre HP.out E.out hz)
        clear hr1 hm1
        have h63 : pre.length + 1 ≤ maxLen := by simp only [maxLen]; omega
        have hlim : (pre.length + 1) * 8 ≤ 140737488355328 := by omega
        have one1 : ∀ x : Int, ∀ u ∈ [Value.int .i64 x], u.oneCell' = true := fun x => ints_one [x]
        go_wp2_with fail
        refine (rtake_tup _ _ _ (t.drop k) r m _ hlen.out E.out hld (by omega) hdr).mono ?_
        rintro e w2 ⟨rfl, hb2⟩
        have hown2 := hown.behind hb2
        have hb2 : Below w.heap.size w w2 := hbw.trans (hb2.mono hbw.size)
        have hs2 := hb2.size
        go_wp2_with (at_builtin; refine list_app _ rfl (.tmp 21) (.tmp 23) 60 rfl w.heap.size 3 i0 _ 1 8 Tryd.underlying60 hi hz0 hz1 hz2 rfl Nat.one_pos _ _ _ rfl (hown2.alloc _) (some ⟨w2.heap.size, 0, none⟩) 1 1 _ rfl rfl (rd_lit w2 _ _) (one1 _) h63 hlim (by simp; omega) ?_; intro v4 w4 hown4 hg4)
        have hb4 : Below w.heap.size w w4 := (hb2.alloc hs2 _).grown hg4 (by simp; omega) (fun g hg => (hown2.lt g hg).1)
        have ho : Own w4 w.heap.size 3 1 v4 (pre ++ [r]).length (is_ (pre ++ [r])) := by
          rw [List.length_append, show is_ (pre ++ [r]) = is_ pre ++ [.int .i64 r] by simp [is_]]
          exact hown4
        clear hown4 hg4
        go_wp2
        go_roundw
        case rel => exact ⟨k + m, pre ++ [r], by omega, by go_num, by rw [List.length_append]; show pre.length + 1 ≤ _; omega, PE.out, ho, hb4⟩
        case measure => simp [intOf]; omega
    · have E := Lib.hid (show allL t = some pre by
        rw [HP.out, List.drop_of_length_le (by omega)]
        show some (pre ++ []) = _
        rw [List.append_nil])
      go_wp2
      go_ret2
      exact AlO.yes E.out hown hbw
theorem rall_any (A : Option Addr) (c : Nat) (t : List UInt8) (w : World) (ht : t.length ≤ 4294967296) (htc : t.length ≤ c) (hr : Rd w A (bs t)) :
    Calls Tryd.prog 34 #[.slice A t.length c] w (Al (allL t) w) :=
  (rall_own A c t w ht htc hr).mono fun _ _ h => h.al
end Go.Proofs.YtbjmfhcgkpjcfaaDoor
namespace Go.Proofs.YtbjmfhcgkpjcfaaDoor
open Go.RowKit

set_option maxRecDepth 100000 in
theorem rhas10_any (n b : Int) (hb : 0 < b) (hb2 : b ≤ 256) (hn2 : n ≤ 9223372036854775807) (w : World) : Calls Tryd.prog 29 #[.int .i64 n, .int .i64 b] w fun e w' => e = .returned (.bool (hasN n b)) ∧ Below w.heap.size w w' := by
  obtain ⟨N, hN⟩ : ∃ N, max n 0 = N := ⟨_, rfl⟩
  have hmax := max0 n N hN (P := Tryd.prog)
  have hN0 : 0 ≤ N := by omega
  have hN1 : N ≤ 9223372036854775807 := by omega
  have hbe : (b == 0) = false := by simp; omega
  have hb0 : b ≠ 0 := by omega
  obtain ⟨q, hq⟩ : ∃ q, N / b = q := ⟨_, rfl⟩
  have hd : Int.tdiv N b = q := by rw [← hq]; exact Int.tdiv_eq_ediv_of_nonneg hN0
  have hq0 : 0 ≤ q := by rw [← hq]; exact Int.ediv_nonneg hN0 (by omega)
  have hq1 : q ≤ 9223372036854775807 := by rw [← hq]; exact Int.le_trans (Int.ediv_le_self b hN0) hN1
  obtain ⟨r, hr⟩ : ∃ r, q % 2 = r := ⟨_, rfl⟩
  have hm : Int.tmod q 2 = r := by rw [← hr]; exact Int.tmod_eq_emod_of_nonneg hq0
  obtain ⟨v, hv⟩ : ∃ v, (r == 1) = v := ⟨_, rfl⟩
  have HB := Lib.hid (show hasN n b = v by unfold hasN; rw [hN, hq, hr, hv])
  rw [HB.out]
  have hw := IntWalk.i64_in q ⟨by omega, hq1⟩
  clear hq hr hN hn2
  go_enter Tryd.func29, Tryd.ntmps29
  go_wp2
  go_ret
  exact ⟨by simp, by first | exact Below.refl _ _ | exact below_drewN (Below.refl _ _) _⟩
section
variable {k : Ky}
set_option maxRecDepth 100000 in
set_option maxHeartbeats 4000000 in
theorem rshown_any (k : Ky) (hk : okK k) (w : World) : Calls Tryd.prog 14 #[kyV k] w fun e w' => e = .returned (.int .i64 (shownK k)) ∧ Below w.heap.size w w' := by
  have hB := ky_box w k
  have hhas := rhas10_any k.mods 1 (by decide) (by decide) hk.mods.2 (w.alloc (.cells (kyC k) 25))
  have k0 := Blk.new w 25 (kyC k)
  have hsh : shownK k = if hasN k.mods 1 = false then k.code else if k.shift ≠ 0 then k.shift else if 97 ≤ k.code ∧ k.code ≤ 122 then k.code - 32 else k.code := rfl
  obtain ⟨p, hp⟩ : ∃ p, hasN k.mods 1 = p := ⟨_, rfl⟩
  have hc := hk.code
  rw [hp] at hhas hsh
  clear hk hp
  rw [kyV]
  rw [kyC] at hB hhas k0
  obtain ⟨code, mods, typ, shift, base, text⟩ := k
  simp only at hB hhas k0 hsh hc ⊢
  go_enter Tryd.func14, Tryd.ntmps14
  have a0 := k0.cell 0
  have a1 := k0.cell 1
  have a3 := k0.cell 3
  have HSH := Lib.hid hsh
  clear hsh
  go_wp2_with fail
  refine hhas.mono ?_
  clear hhas
  rintro e w1 ⟨rfl, hb1⟩
  have k1 := k0.below hb1 k0.lt
  have hB1 := hB.trans (hb1.mono hB.size)
  clear k0 hB hb1 a0 a1 a3
  have a0 := k1.cell 0
  have a3 := k1.cell 3
  cases p with
  | false =>
    go_wp2_with fail
    go_ret
    exact ⟨ret_i (by rw [HSH.out]; rfl), hB1⟩
  | true =>
    by_cases h3 : shift = 0
    · subst h3
      by_cases h4 : 97 ≤ code
      · by_cases h5 : code ≤ 122
        · go_wp2_with fail
          go_ret
          exact ⟨ret_i (by rw [HSH.out, if_neg (by decide), if_neg (fun h => h rfl), if_pos ⟨h4, h5⟩]), hB1⟩
        · have h6 : 122 < code := by omega
          go_wp2_with fail
          go_ret
          exact ⟨ret_i (by rw [HSH.out, if_neg (by decide), if_neg (fun h => h rfl), if_neg (by omega)]), hB1⟩
      · have h6 : code < 97 := by omega
        go_wp2_with fail
        go_ret
        exact ⟨ret_i (by rw [HSH.out, if_neg (by decide), if_neg (fun h => h rfl), if_neg (by omega)]), hB1⟩
    · have h5 : (shift == 0) = false := beq_false_of_ne h3
      have h6 : (shift != 0) = true := by simp [bne, h5]
      have H3 := Lib.hid h3
      clear h3
      go_wp2_with fail
      go_ret
      exact ⟨ret_i (by rw [HSH.out, if_neg (by decide), if_pos H3.out]), hB1⟩
set_option maxRecDepth 100000 in
theorem rtxt10_any (c : Int) (w : World) : Calls Tryd.prog 16 #[.int .i64 c] w fun e w' => e = .returned (.bool (textK c)) ∧ Below w.heap.size w w' := by
  have hl := rlook_any c w
  obtain ⟨ki, hki⟩ : ∃ q, (lookE c).kind = q := ⟨_, rfl⟩
  have HT := Lib.hid (show textK c = (ki == 1) by unfold textK; rw [hki])
  have hf : ∀ W : World, (Instr.field 46 (enV (lookE c)) 0).run Tryd.prog W = .ok (.int .i64 ki) W := fun W => by
    rw [← hki]
    exact (by kernel_rfl : (Instr.field 46 (enV (lookE c)) 0).run Tryd.prog W = .ok (.int .i64 (lookE c).kind) W)
  obtain ⟨E, hE⟩ : ∃ E, enV (lookE c) = E := ⟨_, rfl⟩
  rw [hE] at hl hf
  rw [HT.out]
  clear hE hki HT
  obtain ⟨v, hv⟩ : ∃ v, (ki == 1) = v := ⟨_, rfl⟩
  rw [hv]
  go_enter Tryd.func16, Tryd.ntmps16
  go_wp2_with fail
  refine hl.mono ?_
  clear hl
  rintro e w1 ⟨rfl, hb1⟩
  go_wp2_with fail
  go_ret
  exact ⟨rfl, hb1⟩
end
section
/-- As far as code points are what a key may have. -/
theorem clean_step {ks : List Int} {i : Nat} (h : i < ks.length) : cleanP (ks.take (i + 1)) = (cleanP (ks.take i) && !(decide (ks[i] < 32) || decide (127 ≤ ks[i]) && decide (ks[i] ≤ 159))) := by
  unfold cleanP
  rw [List.take_succ_eq_append_getElem h, List.all_append]
  simp
theorem clean_hit {ks : List Int} {i : Nat} (h : i < ks.length) (hb : (decide (ks[i] < 32) || decide (127 ≤ ks[i]) && decide (ks[i] ≤ 159)) = true) : cleanP ks = false := by
  unfold cleanP
  rw [List.all_eq_false]
  exact ⟨ks[i], List.getElem_mem h, by rw [hb]; decide⟩
set_option maxRecDepth 100000 in
set_option maxHeartbeats 8000000 in
theorem rclean_any (s : ByteArray) (hs : s.size ≤ 4294967296) (w : World) : Calls Tryd.prog 17 #[.string s] w fun e w' => e = .returned (.bool (cleanB s)) ∧ Below w.heap.size w w' := by
  have hms : s.size ≤ maxLen := by simp only [maxLen]; omega
  have hlen : s.data.toList.length = s.size := Array.length_toList
  obtain ⟨R, hR⟩ : ∃ R, cleanB s = R := ⟨_, rfl⟩
  obtain ⟨o, ho⟩ : ∃ o, allL s.data.toList = o := ⟨_, rfl⟩
  have HC := Lib.hid (show cleanO o = R by rw [← hR, ← ho]; rfl)
  obtain ⟨l, hl⟩ : ∃ l, s.data.toList = l := ⟨_, rfl⟩
  rw [hl] at hlen ho
  have HL := Lib.hid hl
  have HO := Lib.hid ho
  have HLN := Lib.hid hlen
  rw [hR]
  have HSZ := Lib.hid hs
  clear hR hl ho hlen hs
  go_enter Tryd.func17, Tryd.ntmps17
  go_wp2_with (first
    | ((with_reducible refine list_conv _ rfl (.tmp 7) 9 28 rfl w.heap.size 5 s ?_ Tryd.underlying9 Tryd.underlying28 Tryd.underlying5 hms (Nat.le_refl _) ?_); rfl; intro v1 w1 own1 hg1; obtain ⟨A1, c1, rfl, hr1⟩ := own1.form; have hc1 := own1.capT; have hB1 := below_none hg1; clear hg1))
  rw [HL.out] at hr1
  have hall := rall_any A1 c1 l w1 (by rw [HLN.out]; exact HSZ.out) (by rw [HLN.out]; exact hc1) hr1
  rw [HLN.out, HO.out] at hall
  refine hall.mono ?_
  clear hall hr1 own1
  intro e w2 hA
  cases o with
  | none =>
    obtain ⟨rfl, hb2⟩ := hA
    have hB2 := hB1.trans (hb2.mono hB1.size)
    have HCF := Lib.hid (show false = R from HC.out)
    go_wp2_with fail
    go_ret
    exact ⟨ret_b HCF.out, hB2⟩
  | some ks =>
    have HCT := Lib.hid (show (decide (ks.length ≤ 8) && cleanP ks) = R from HC.out)
    clear HC
    obtain ⟨A2, c2, rfl, hr2, hb2⟩ := hA
    have hB2 := hB1.trans (hb2.mono hB1.size)
    clear hB1 hb2
    by_cases h8 : 8 < ks.length
    · have t1 : decide (8 < (ks.length : Int)) = true := decide_eq_true (by omega)
      have HE := Lib.hid (show decide (ks.length ≤ 8) = false from decide_eq_false (by omega))
      go_wp2_with fail
      go_ret
      exact ⟨ret_b (by rw [← HCT.out, HE.out]; rfl), hB2⟩
    · have t1 : decide (8 < (ks.length : Int)) = false := decide_eq_false (by omega)
      have HE := Lib.hid (show decide (ks.length ≤ 8) = true from decide_eq_true (by omega))
      have hk8 : (ks.length : Int) ≤ 8 := by omega
      obtain ⟨n, hn⟩ : ∃ n, ks.length = n := ⟨_, rfl⟩
      have HN := Lib.hid hn
      rw [hn] at t1 hk8 ⊢
      rw [hn] at HE HCT
      clear hn h8
      go_wp2_with fail
      go_loopw [5] (fun z wr => ∃ i : Nat, i ≤ n ∧ z = .int .i64 i ∧ cleanP (ks.take i) = true ∧ Below w.heap.size w wr ∧ Rd wr A2 (is_ ks)) (fun z _ => n - (intOf z).toNat)
      case atStart => exact ⟨0, Nat.zero_le _, rfl, rfl, hB2, hr2⟩
      case round =>
        clear hB2 hr2
        obtain ⟨i, hi, rfl, hcl, hbw, hr⟩ := hrel
        have HCL := Lib.hid hcl
        clear hcl
        by_cases hlt : i < n
        · have hil : i < ks.length := by rw [HN.out]; exact hlt
          obtain ⟨b, o, rfl, hbl, hcc⟩ := hr.int_at (by omega)
          have hci := hcc i hil
          have HS := Lib.hid (clean_step hil)
          have HH := Lib.hid (@clean_hit ks i hil)
          obtain ⟨x, hx⟩ : ∃ x, ks[i]'hil = x := ⟨_, rfl⟩
          rw [hx] at hci HS HH
          have g0 : (0 : Int) ≤ (i : Int) := by omega
          have g1 : (i : Int) < (n : Int) := by omega
          clear hcc hx
          by_cases h1 : x < 32
          · have HF := Lib.hid (HH.out (by simp [h1]))
            go_wp2_with fail
            go_ret
            exact ⟨ret_b (by rw [← HCT.out, HF.out, HE.out]; rfl), hbw⟩
          · have h1' : 32 ≤ x := by omega
            by_cases h2 : 127 ≤ x
            · by_cases h3 : x ≤ 159
              · have HF := Lib.hid (HH.out (by simp [h2, h3]))
                go_wp2_with fail
                go_ret
                exact ⟨ret_b (by rw [← HCT.out, HF.out, HE.out]; rfl), hbw⟩
              · have h3' : 159 < x := by omega
                have HG := Lib.hid (show cleanP (ks.take (i + 1)) = true by rw [HS.out, HCL.out]; simp; omega)
                clear h1 h3
                go_wp2_with fail
                go_roundw
                case rel => exact ⟨i + 1, by omega, by go_num, HG.out, hbw, hr⟩
                case measure => simp [intOf]; omega
            · have h2' : x < 127 := by omega
              have HG := Lib.hid (show cleanP (ks.take (i + 1)) = true by rw [HS.out, HCL.out]; simp; omega)
              clear h1 h2
              go_wp2_with fail
              go_roundw
              case rel => exact ⟨i + 1, by omega, by go_num, HG.out, hbw, hr⟩
              case measure => simp [intOf]; omega
        · have HF := Lib.hid (show cleanP ks = true by
            have := HCL.out
            rwa [List.take_of_length_le (by rw [HN.out]; omega)] at this)
          go_wp2_with fail
          go_ret
          exact ⟨ret_b (by rw [← HCT.out, HF.out, HE.out]; rfl), hbw⟩
end
section
set_option maxRecDepth 100000 in
set_option maxHeartbeats 16000000 in
theorem rmay10_any (k : Ky) (hs : k.text.size ≤ 4294967296) (w : World) : Calls Tryd.prog 8 #[kyV k] w fun e w' => e = .returned (.bool (mayK k)) ∧ Below w.heap.size w w' := by
  obtain ⟨code, mods, typ, shift, base, text⟩ := k
  simp only at hs
  have HLK : Hid (∀ W, Calls Tryd.prog 15 #[.int .i64 code] W fun e w' => e = .returned (enV (lookE code)) ∧ Below W.heap.size W w') := Lib.hid fun W => rlook_any code W
  obtain ⟨ki, hki⟩ : ∃ q, (lookE code).kind = q := ⟨_, rfl⟩
  have hf : ∀ W : World, (Instr.field 46 (enV (lookE code)) 0).run Tryd.prog W = .ok (.int .i64 ki) W := fun W => by
    rw [← hki]
    exact (by kernel_rfl : (Instr.field 46 (enV (lookE code)) 0).run Tryd.prog W = .ok (.int .i64 (lookE code).kind) W)
  obtain ⟨a0, h0⟩ : ∃ a, (ki == 0) = a := ⟨_, rfl⟩
  obtain ⟨a1, h1⟩ : ∃ a, decide (mods < 0) = a := ⟨_, rfl⟩
  obtain ⟨a2, h2⟩ : ∃ a, decide (255 < mods) = a := ⟨_, rfl⟩
  obtain ⟨a3, h3⟩ : ∃ a, decide (typ < 1) = a := ⟨_, rfl⟩
  obtain ⟨a4, h4⟩ : ∃ a, decide (3 < typ) = a := ⟨_, rfl⟩
  obtain ⟨s0, hs0⟩ : ∃ a, (shift == 0) = a := ⟨_, rfl⟩
  obtain ⟨b0, hb0⟩ : ∃ a, (base == 0) = a := ⟨_, rfl⟩
  obtain ⟨p, hp⟩ : ∃ a, textK shift = a := ⟨_, rfl⟩
  obtain ⟨q, hq⟩ : ∃ a, textK base = a := ⟨_, rfl⟩
  obtain ⟨r, hr⟩ : ∃ a, cleanB text = a := ⟨_, rfl⟩
  have HM := Lib.hid (show mayK ⟨code, mods, typ, shift, base, text⟩ = (!(a0 || a1 || a2 || a3 || a4) && ((s0 || p) && (b0 || q) && r)) by
    rw [← h0, ← hki, ← h1, ← h2, ← h3, ← h4, ← hs0, ← hb0, ← hp, ← hq, ← hr]
    rfl)
  have HP : Hid (∀ W, Calls Tryd.prog 16 #[.int .i64 shift] W fun e w' => e = .returned (.bool p) ∧ Below W.heap.size W w') := Lib.hid fun W => by
    have := rtxt10_any shift W
    rwa [hp] at this
  have HQ : Hid (∀ W, Calls Tryd.prog 16 #[.int .i64 base] W fun e w' => e = .returned (.bool q) ∧ Below W.heap.size W w') := Lib.hid fun W => by
    have := rtxt10_any base W
    rwa [hq] at this
  have HR : Hid (∀ W, Calls Tryd.prog 17 #[.string text] W fun e w' => e = .returned (.bool r) ∧ Below W.heap.size W w') := Lib.hid fun W => by
    have := rclean_any text hs W
    rwa [hr] at this
  obtain ⟨E, hE⟩ : ∃ E, enV (lookE code) = E := ⟨_, rfl⟩
  rw [hE] at HLK hf
  rw [HM.out]
  clear hE hki hp hq hr hs HM
  have hB := ky_box w ⟨code, mods, typ, shift, base, text⟩
  have k0 := Blk.new w 25 (kyC ⟨code, mods, typ, shift, base, text⟩)
  rw [kyV]
  rw [kyC] at hB k0
  simp only at hB k0 ⊢
  have c0 := k0.cell 0
  go_enter Tryd.func8, Tryd.ntmps8
  go_wp2_with fail
  refine (HLK.out _).mono ?_
  rintro e w1 ⟨rfl, hb1⟩
  have k1 := k0.below hb1 k0.lt
  have hB1 := hB.trans (hb1.mono hB.size)
  clear HLK k0 hB hb1 c0
  have c1 := k1.cell 1
  have c2 := k1.cell 2
  have c3 := k1.cell 3
  have c4 := k1.cell 4
  have c5 := k1.cell 5
  cases a0 with
  | true =>
    go_wp2_with fail
    go_ret
    exact ⟨ret_b (by simp), hB1⟩
  | false =>
    cases a1 with
    | true =>
      go_wp2_with fail
      go_ret
      exact ⟨ret_b (by simp), hB1⟩
    | false =>
      cases a2 with
      | true =>
        go_wp2_with fail
        go_ret
        exact ⟨ret_b (by simp), hB1⟩
      | false =>
        cases a3 with
        | true =>
          go_wp2_with fail
          go_ret
          exact ⟨ret_b (by simp), hB1⟩
        | false =>
          cases a4 with
          | true =>
            go_wp2_with fail
            go_ret
            exact ⟨ret_b (by simp), hB1⟩
          | false =>
            cases s0 with
            | true =>
              cases b0 with
              | true =>
                go_wp2_with fail
                refine (HR.out _).mono ?_
                rintro e w2 ⟨rfl, hb2⟩
                have k2 := k1.below hb2 k1.lt
                have hB2 := hB1.trans (hb2.mono hB1.size)
                clear k1 hB1 hb2 c3 c4 c5
                have c3 := k2.cell 3
                have c4 := k2.cell 4
                have c5 := k2.cell 5
                go_wp2_with fail
                go_ret
                exact ⟨ret_b (by simp), hB2⟩
              | false =>
                go_wp2_with fail
                refine (HQ.out _).mono ?_
                rintro e w2 ⟨rfl, hb2⟩
                have k2 := k1.below hb2 k1.lt
                have hB2 := hB1.trans (hb2.mono hB1.size)
                clear k1 hB1 hb2 c3 c4 c5
                have c3 := k2.cell 3
                have c4 := k2.cell 4
                have c5 := k2.cell 5
                cases q with
                | false =>
                  go_wp2_with fail
                  go_ret
                  exact ⟨ret_b (by simp), hB2⟩
                | true =>
                  go_wp2_with fail
                  refine (HR.out _).mono ?_
                  rintro e w3 ⟨rfl, hb3⟩
                  have k3 := k2.below hb3 k2.lt
                  have hB3 := hB2.trans (hb3.mono hB2.size)
                  clear k2 hB2 hb3 c3 c4 c5
                  have c3 := k3.cell 3
                  have c4 := k3.cell 4
                  have c5 := k3.cell 5
                  go_wp2_with fail
                  go_ret
                  exact ⟨ret_b (by simp), hB3⟩
            | false =>
              go_wp2_with fail
              refine (HP.out _).mono ?_
              rintro e w2 ⟨rfl, hb2⟩
              have k2 := k1.below hb2 k1.lt
              have hB2 := hB1.trans (hb2.mono hB1.size)
              clear k1 hB1 hb2 c3 c4 c5
              have c3 := k2.cell 3
              have c4 := k2.cell 4
              have c5 := k2.cell 5
              cases p with
              | false =>
                go_wp2_with fail
                go_ret
                exact ⟨ret_b (by simp), hB2⟩
              | true =>
                cases b0 with
                | true =>
                  go_wp2_with fail
                  refine (HR.out _).mono ?_
                  rintro e w3 ⟨rfl, hb3⟩
                  have k3 := k2.below hb3 k2.lt
                  have hB3 := hB2.trans (hb3.mono hB2.size)
                  clear k2 hB2 hb3 c3 c4 c5
                  have c3 := k3.cell 3
                  have c4 := k3.cell 4
                  have c5 := k3.cell 5
                  go_wp2_with fail
                  go_ret
                  exact ⟨ret_b (by simp), hB3⟩
                | false =>
                  go_wp2_with fail
                  refine (HQ.out _).mono ?_
                  rintro e w3 ⟨rfl, hb3⟩
                  have k3 := k2.below hb3 k2.lt
                  have hB3 := hB2.trans (hb3.mono hB2.size)
                  clear k2 hB2 hb3 c3 c4 c5
                  have c3 := k3.cell 3
                  have c4 := k3.cell 4
                  have c5 := k3.cell 5
                  cases q with
                  | false =>
                    go_wp2_with fail
                    go_ret
                    exact ⟨ret_b (by simp), hB3⟩
                  | true =>
                    go_wp2_with fail
                    refine (HR.out _).mono ?_
                    rintro e w4 ⟨rfl, hb4⟩
                    have k4 := k3.below hb4 k3.lt
                    have hB4 := hB3.trans (hb4.mono hB3.size)
                    clear k3 hB3 hb4 c3 c4 c5
                    have c3 := k4.cell 3
                    have c4 := k4.cell 4
                    have c5 := k4.cell 5
                    go_wp2_with fail
                    go_ret
                    exact ⟨ret_b (by simp), hB4⟩
end
end Go.Proofs.YtbjmfhcgkpjcfaaDoor
namespace Go.Proofs.YtbjmfhcgkpjcfaaDoor
open Go.RowKit

set_option maxRecDepth 100000 in
set_option maxHeartbeats 4000000 in
theorem parg_any (s : Sq) (A : Option Addr) (c : Nat) (i o v : Int) (w : World) (hv : argL s.params i o = v) (hi0 : -9223372036854775808 ≤ i) (hi1 : i ≤ 9223372036854775807) (hl : s.params.length ≤ 4294967296) (hr : RdP w A s.params) :
    Calls Tryd.prog 12 #[sqV s A c, .int .i64 i, .int .i64 o] w fun e w' => e = .returned (.int .i64 v) ∧ Below w.heap.size w w' := by
  have hB : ∀ o, Below w.heap.size w (w.alloc o) := fun o => (Below.refl _ w).alloc (Nat.le_refl _) _
  have hr2 := hr.alloc (.cells (seqC s A c) 36)
  unfold seqC at hr2
  obtain ⟨np, hnp⟩ : ∃ np, s.params.length = np := ⟨_, rfl⟩
  have HNP := Lib.hid hnp
  rw [hnp] at hl hr2
  have HV := Lib.hid hv
  clear hv hr
  unfold sqV
  rw [hnp]
  clear hnp
  by_cases h1 : i < 0
  · have E := Lib.hid (show o = v by rw [← HV.out]; unfold argL; rw [if_pos (by omega)])
    go_enter Tryd.func12, Tryd.ntmps12
    go_wp2_with fail
    go_ret
    exact ⟨ret_i E.out, hB _⟩
  · by_cases h2 : (np : Int) ≤ i
    · have E := Lib.hid (show o = v by rw [← HV.out]; unfold argL; rw [if_pos (by rw [HNP.out]; omega)])
      go_enter Tryd.func12, Tryd.ntmps12
      go_wp2_with fail
      go_ret
      exact ⟨ret_i E.out, hB _⟩
    · obtain ⟨k, rfl⟩ : ∃ k : Nat, i = (k : Int) := ⟨i.toNat, by omega⟩
      have hk : k < np := by omega
      have hk1 : (k : Int) < (np : Int) := by omega
      have hk0 : (0 : Int) ≤ (k : Int) := by omega
      have hkp : k < s.params.length := by rw [HNP.out]; exact hk
      clear h1 h2
      obtain ⟨b, oo, hA, hb, hcc⟩ := hr2 (by rw [HNP.out]; omega)
      obtain ⟨A', c', hck, hrk⟩ := hcc k hkp
      cases hA
      obtain ⟨p, hp⟩ : ∃ p, s.params[k]'hkp = p := ⟨_, rfl⟩
      rw [hp] at hck hrk
      have HAL := Lib.hid (show headI o p = v by
        rw [← HV.out]
        unfold argL
        rw [if_neg (by rw [HNP.out]; omega), Int.toNat_natCast, List.getD_eq_getElem?_getD, List.getElem?_eq_getElem hkp, hp]; rfl)
      clear hp hcc
      cases p with
      | nil =>
        have E := Lib.hid (show o = v from HAL.out)
        clear HAL
        go_enter Tryd.func12, Tryd.ntmps12
        go_wp2_with fail
        go_ret
        exact ⟨ret_i E.out, hB _⟩
      | cons x p =>
        obtain ⟨b2, o2, hA2, hb2, hc2⟩ := hrk.int_at (by simp)
        cases hA2
        have hc0 := hc2 0 (by simp)
        rw [Nat.add_zero, List.getElem_cons_zero] at hc0
        obtain ⟨m, hm⟩ : ∃ m, (x :: p).length = m := ⟨_, rfl⟩
        have hm1 : 0 < m := by rw [← hm]; simp
        rw [hm] at hck
        have t1 : ((m : Int) == 0) = false := beq_false_of_ne (by omega)
        clear hc2 hrk hm
        by_cases hx : x < 0
        · have E := Lib.hid (show o = v by have : (if x < 0 then o else x) = v := HAL.out; rw [if_pos hx] at this; exact this)
          clear HAL
          go_enter Tryd.func12, Tryd.ntmps12
          go_wp2_with fail
          go_ret
          exact ⟨ret_i E.out, hB _⟩
        · have E := Lib.hid (show x = v by have : (if x < 0 then o else x) = v := HAL.out; rw [if_neg hx] at this; exact this)
          clear HAL
          go_enter Tryd.func12, Tryd.ntmps12
          go_wp2_with fail
          go_ret
          exact ⟨ret_i E.out, hB _⟩

end Go.Proofs.YtbjmfhcgkpjcfaaDoor
namespace Go.Proofs.YtbjmfhcgkpjcfaaDoor
open Go.RowKit

theorem legF : LegF Inv11 where
  toLegC := legC
  take := fun A n c l s m w hv hs hn hc hl hr => ptake_yes A n c l s m w hs hn hc hl hv.2.2 hr
  arg := fun s A c i o v w _ ha h0 h1 hl hr => parg_any s A c i o v w ha h0 h1 hl hr
  form := fun m c o w hv hc hK h0 h1 => by
    have hm : mayK ⟨c, o, 1, 0, 0, ByteArray.empty⟩ = true := may_press (by omega) h0 (by omega)
    refine (lkey_func m ⟨c, o, 1, 0, 0, ByteArray.empty⟩ (ok_lit11 hc ⟨by omega, by omega⟩ (in_lit11 (by decide)) _) (show (0 : Nat) ≤ 4294967296 by decide) hm (by show (1 : Int) ≠ 3; decide) hK w hv).mono ?_
    rintro e w' ⟨A, c, he, hc, hr, hb⟩
    exact ⟨A, c, he, hc rfl, hr, hb⟩
end Go.Proofs.YtbjmfhcgkpjcfaaDoor
