/-
  Layer 11, walked: the document's Key, all of it. Layer 10, the landed mods: whether a text may be that of a key's event.
-/
import Derived.Test.YtbjmfhcgkpjcfaaGreatDoorG25
import Derived.Test.YtbjmfhcgkpjcfaaGreatDoorG36
import Derived.Test.YtbjmfhcgkpjcfaaGreatDoorG38
import Derived.Test.YtbjmfhcgkpjcfaaGreatDoorG39
namespace Go.Proofs.YtbjmfhcgkpjcfaaGreatDoor
open Go.RowKit

set_option maxRecDepth 100000 in
set_option maxHeartbeats 8000000 in
theorem rkey11_no (m : Mo) (k : Ky) (hs : k.text.size ≤ 4294967296) (h : mayK k = false ∨ k.typ = 3) (w : World) :
    Calls Tryz.prog 7 #[moV m, kyV k] w (Out (legL m k) w) := by
  rw [leg_no h]
  obtain ⟨v, hv⟩ : ∃ v, mayK k = v := ⟨_, rfl⟩
  have HM : Hid (∀ W, Calls Tryz.prog 14 #[kyV k] W fun e w' => e = .returned (.bool v) ∧ Below W.heap.size W w') := Lib.hid fun W => by rw [← hv]; exact rmay10_any k hs W
  rw [hv] at h
  clear hv hs
  simp only [kyV] at HM
  rw [kyV, moV]
  obtain ⟨code, mods, typ, shift, base, text⟩ := k
  obtain ⟨m0, m1, m2, m3, m4, m5, m6, m7, m8, m9⟩ := m
  simp only at HM h ⊢
  have k3 := Blk.new (w.alloc (.cells #[.bool m0, .bool m1, .bool m2, .bool m3, .bool m4, .bool m5, .bool m6, .int .i64 m7, .int .i64 m8, .int .i64 m9] 23)) 25 #[.int .i64 code, .int .i64 mods, .int .i64 typ, .int .i64 shift, .int .i64 base, .string text]
  rw [World.size_alloc] at k3
  have hB0 : Below w.heap.size w ((w.alloc (.cells #[.bool m0, .bool m1, .bool m2, .bool m3, .bool m4, .bool m5, .bool m6, .int .i64 m7, .int .i64 m8, .int .i64 m9] 23)).alloc (.cells #[.int .i64 code, .int .i64 mods, .int .i64 typ, .int .i64 shift, .int .i64 base, .string text] 25)) := ((Below.refl _ w).alloc (Nat.le_refl _) _).alloc (by simp) _
  obtain ⟨a0, a1, a2, a3, a4, a5⟩ := Blk.cells6 k3
  cases v with
  | false =>
    clear h
    go_enter Tryz.func7, Tryz.ntmps7
    go_wp2_with fail
    refine (HM.out _).mono ?_
    rintro e w1 ⟨rfl, hb1⟩
    go_wp2_with fail
    go_ret
    exact nil_out (hB0.trans (hb1.mono hB0.size))
  | true =>
    obtain rfl : typ = 3 := h.resolve_left (by decide)
    clear h
    go_enter Tryz.func7, Tryz.ntmps7
    go_wp2_with fail
    refine (HM.out _).mono ?_
    rintro e w1 ⟨rfl, hb1⟩
    have b2 := (k3.below hb1 k3.lt).cell 2
    go_wp2_with fail
    go_ret
    exact nil_out (hB0.trans (hb1.mono hB0.size))
set_option maxRecDepth 100000 in
set_option maxHeartbeats 16000000 in
theorem rkey11_pad (m : Mo) (k : Ky) (hk : okK k) (hs : k.text.size ≤ 4294967296) (hm : mayK k = true) (h3 : k.typ ≠ 3) (h5 : (lookE k.code).kind = 5) (hkp : m.keypad = true ∧ oldN k.mods = 0) (w : World) :
    Calls Tryz.prog 7 #[moV m, kyV k] w (Out (legL m k) w) := by
  obtain ⟨R, hR⟩ : ∃ R, legL m k = R := ⟨_, rfl⟩
  have HM : Hid (∀ W, Calls Tryz.prog 14 #[kyV k] W fun e w' => e = .returned (.bool true) ∧ Below W.heap.size W w') := Lib.hid fun W => by rw [← hm]; exact rmay10_any k hs W
  have HO : Hid (∀ W, Calls Tryz.prog 16 #[.int .i64 k.mods] W fun e w' => e = .returned (.int .i64 (oldN k.mods)) ∧ Below W.heap.size W w') := Lib.hid fun W => rold_any k.mods W
  have HL : Hid (∀ W, Calls Tryz.prog 15 #[.int .i64 k.code] W fun e w' => e = .returned (enV (lookE k.code)) ∧ Below W.heap.size W w') := Lib.hid fun W => rlook_any k.code W
  have t3 : (k.typ == 3) = false := beq_false_of_ne h3
  have ho : 0 ≤ oldN k.mods ∧ oldN k.mods < 8 := by unfold oldN; omega
  rw [leg_yes hm h3] at hR
  unfold legG at hR
  obtain ⟨hch, hfn⟩ := char_e k.code
  rw [if_pos h5, if_pos hkp] at hR
  have E := Lib.hid hR.symm
  have hR0 : legL m k = R := by rw [leg_yes hm h3]; unfold legG; rw [if_pos h5, if_pos hkp]; exact hR
  rw [hR0]
  clear hR hR0 hm h3
  have HT : Hid (∀ W, Calls Tryz.prog 17 #[.int .i64 2, .int .u8 (lookE k.code).fin, .slice none 0 0] W (Out (seqB 2 (lookE k.code).fin []) W)) := Lib.hid fun W => rseq11_any 2 _ hfn.1 (by omega) none [] 0 0 rfl (by decide) W (Rd.nil _ _)
  obtain ⟨⟨K, F, N, C, B⟩, hE⟩ : ∃ E, lookE k.code = E := ⟨_, rfl⟩
  simp only [hE] at HL h5 E HT
  clear hE hch hfn
  obtain ⟨hkp, ov⟩ := hkp
  simp only [ov] at HO
  clear ov ho
  subst h5
  obtain ⟨code, mods, typ, shift, base, text⟩ := k
  obtain ⟨m0, m1, m2, m3, m4, m5, m6, m7, m8, m9⟩ := m
  simp only [enV, kyV] at HM HO HL t3 HT E
  simp only at hkp
  subst hkp
  rw [kyV, moV]
  have k2 := (Blk.new w 23 #[.bool m0, .bool true, .bool m2, .bool m3, .bool m4, .bool m5, .bool m6, .int .i64 m7, .int .i64 m8, .int .i64 m9]).alloc (.cells #[.int .i64 code, .int .i64 mods, .int .i64 typ, .int .i64 shift, .int .i64 base, .string text] 25)
  have k3 := Blk.new (w.alloc (.cells #[.bool m0, .bool true, .bool m2, .bool m3, .bool m4, .bool m5, .bool m6, .int .i64 m7, .int .i64 m8, .int .i64 m9] 23)) 25 #[.int .i64 code, .int .i64 mods, .int .i64 typ, .int .i64 shift, .int .i64 base, .string text]
  rw [World.size_alloc] at k3
  have hB0 : Below w.heap.size w ((w.alloc (.cells #[.bool m0, .bool true, .bool m2, .bool m3, .bool m4, .bool m5, .bool m6, .int .i64 m7, .int .i64 m8, .int .i64 m9] 23)).alloc (.cells #[.int .i64 code, .int .i64 mods, .int .i64 typ, .int .i64 shift, .int .i64 base, .string text] 25)) := ((Below.refl _ w).alloc (Nat.le_refl _) _).alloc (by simp) _
  obtain ⟨a0, a1, a2, a3, a4, a5⟩ := Blk.cells6 k3
  go_enter Tryz.func7, Tryz.ntmps7
  go_wp2_with fail
  refine (HM.out _).mono ?_
  rintro e w1 ⟨rfl, hb1⟩
  have m1_ := k2.below hb1 k2.lt
  have k1_ := k3.below hb1 k3.lt
  have hB1 := hB0.trans (hb1.mono hB0.size)
  clear k2 k3 hB0 hb1 a0 a1 a2 a3 a4 a5
  obtain ⟨a0, a1, a2, a3, a4, a5⟩ := Blk.cells6 k1_
  go_wp2_with fail
  refine (HL.out _).mono ?_
  rintro e w2 ⟨rfl, hb2⟩
  have m2_ := m1_.below hb2 m1_.lt
  have k2_ := k1_.below hb2 k1_.lt
  have hB2 := hB1.trans (hb2.mono hB1.size)
  clear m1_ k1_ hB1 hb2 a0 a1 a2 a3 a4 a5
  have m2a := m2_.alloc (.cells #[.int .i64 5, .int .u8 F, .int .i64 N, .int .i64 C, .bool B] 45)
  have k2a := k2_.alloc (.cells #[.int .i64 5, .int .u8 F, .int .i64 N, .int .i64 C, .bool B] 45)
  have e2a := Blk.new w2 45 #[.int .i64 5, .int .u8 F, .int .i64 N, .int .i64 C, .bool B]
  have hB2a := hB2.alloc hB2.size (.cells #[.int .i64 5, .int .u8 F, .int .i64 N, .int .i64 C, .bool B] 45)
  have hlk := k2_.lt
  obtain ⟨a0, a1, a2, a3, a4, a5⟩ := Blk.cells6 k2a
  go_wp2_with fail
  refine (HO.out _).mono ?_
  rintro e w3 ⟨rfl, hb3⟩
  have mB := m2a.below hb3 m2a.lt
  have kB := k2a.below hb3 k2a.lt
  have eB := e2a.below hb3 e2a.lt
  have hB3 := hB2a.trans (hb3.mono hB2a.size)
  clear m2_ k2_ m2a k2a e2a hB2a hb3 a0 a1 a2 a3 a4 a5
  have hlw := hB2.size
  obtain ⟨a0, a1, a2, a3, a4, a5⟩ := Blk.cells6 kB
  obtain ⟨e0, e1, e2, e3, e4⟩ := Blk.cells5 eB
  obtain ⟨c0, c1, c2, c3, c4, c5, c6, c7, c8, c9⟩ := Blk.cells10 mB
  go_wp2_with fail
  refine (HT.out _).mono ?_
  rintro e w6 ⟨A6, c6_, rfl, hr6, hb6⟩
  go_wp2_with fail
  go_ret
  exact out_is E.out ⟨A6, c6_, rfl, hr6, hB3.trans (hb6.mono hB3.size)⟩
/-- The document's Key. -/
theorem rkey11_any (m : Mo) (k : Ky) (hk : okK k) (hs : k.text.size ≤ 4294967296) (w : World) :
    Calls Tryz.prog 7 #[moV m, kyV k] w (Out (legL m k) w) := by
  by_cases h : mayK k = false ∨ k.typ = 3
  · exact rkey11_no m k hs h w
  · have hm : mayK k = true := by
      cases e : mayK k with
      | true => rfl
      | false => exact absurd (.inl e) h
    have h3 : k.typ ≠ 3 := fun e => h (.inr e)
    by_cases h5 : (lookE k.code).kind = 5
    · by_cases hkp : m.keypad = true ∧ oldN k.mods = 0
      · exact rkey11_pad m k hk hs hm h3 h5 hkp w
      · by_cases h1 : (lookE (lookE k.code).char).kind = 1
        · exact rkey11_p_text m k hk hs hm h3 h5 hkp h1 w
        · by_cases h2 : (lookE (lookE k.code).char).kind = 2
          · exact rkey11_p_plain m k hk hs hm h3 h5 hkp h2 w
          · by_cases hf : (lookE (lookE k.code).char).kind = 3 ∨ (lookE (lookE k.code).char).kind = 4
            · exact rkey11_p_func m k hk hs hm h3 h5 hkp hf w
            · exact rkey11_p_none m k hk hs hm h3 h5 hkp ⟨h1, h2, fun e => hf (.inl e), fun e => hf (.inr e)⟩ w
    · by_cases h1 : (lookE k.code).kind = 1
      · exact rkey11_m_text m k hk hs hm h3 h5 h1 w
      · by_cases h2 : (lookE k.code).kind = 2
        · exact rkey11_m_plain m k hk hs hm h3 h5 h2 w
        · by_cases hf : (lookE k.code).kind = 3 ∨ (lookE k.code).kind = 4
          · exact rkey11_m_func m k hk hs hm h3 h5 hf w
          · exact rkey11_m_none m k hk hs hm h3 h5 ⟨h1, h2, fun e => hf (.inl e), fun e => hf (.inr e)⟩ w
end Go.Proofs.YtbjmfhcgkpjcfaaGreatDoor
namespace Go.Proofs.YtbjmfhcgkpjcfaaGreatDoor
open Go.RowKit

/-- A control character. -/
def ctl (r : Int) : Bool := decide (r < 32) || decide (127 ≤ r) && decide (r ≤ 159)
theorem clean_any (ks : List Int) : cleanP ks = !(ks.any ctl) := by
  unfold cleanP
  rw [List.not_any_eq_all_not]
  rfl
/-- What has more than 32 bytes has more than 8 code points. -/
theorem clean_long {l : List UInt8} (h : 32 < l.length) : cleanL l = false := by
  unfold cleanL
  cases ho : allL l with
  | none => rfl
  | some ks =>
    obtain ⟨_, h2⟩ := text_all_n l.length l (Nat.le_refl _) ks ho
    have h3 := catL_length ks
    rw [h2] at h3
    show (decide (ks.length ≤ 8) && cleanP ks) = false
    rw [decide_eq_false (by omega), Bool.false_and]

set_option maxRecDepth 100000 in
set_option maxHeartbeats 4000000 in
theorem ctl_any (r : Int) (w : World) : Calls Tryz.prog 45 #[.int .i64 r] w fun e w' => e = .returned (.bool (ctl r)) ∧ Below w.heap.size w w' := by
  obtain ⟨R, hR⟩ : ∃ R, ctl r = R := ⟨_, rfl⟩
  rw [hR]
  have HC := Lib.hid hR
  clear hR
  by_cases h1 : r < 32
  · have HF := Lib.hid (show true = R by rw [← HC.out]; simp [ctl, h1])
    go_enter Tryz.func45, Tryz.ntmps45
    go_wp2_with fail
    go_ret
    exact ⟨ret_b HF.out, Below.refl _ _⟩
  · by_cases h2 : 127 ≤ r
    · by_cases h3 : r ≤ 159
      · have HF := Lib.hid (show true = R by rw [← HC.out]; simp [ctl, h1, h2, h3])
        go_enter Tryz.func45, Tryz.ntmps45
        go_wp2_with fail
        go_ret
        exact ⟨ret_b HF.out, Below.refl _ _⟩
      · have HF := Lib.hid (show false = R by rw [← HC.out]; simp [ctl, h1, h3])
        go_enter Tryz.func45, Tryz.ntmps45
        go_wp2_with fail
        go_ret
        exact ⟨ret_b HF.out, Below.refl _ _⟩
    · have HF := Lib.hid (show false = R by rw [← HC.out]; simp [ctl, h1, h2])
      go_enter Tryz.func45, Tryz.ntmps45
      go_wp2_with fail
      go_ret
      exact ⟨ret_b HF.out, Below.refl _ _⟩

set_option maxRecDepth 100000 in
set_option maxHeartbeats 4000000 in
theorem idxf_any (A : Option Addr) (c : Nat) (l : List Int) (w : World) (hl : l.length ≤ 4294967296) (hr : Rd w A (is_ l)) :
    Calls Tryz.prog 59 #[.slice A l.length c, .func (.func 45) #[] #[]] w fun e w' => (∃ i : Int, e = .returned (.int .i64 i) ∧ decide (0 ≤ i) = l.any ctl ∧ -1 ≤ i ∧ i ≤ 4294967296) ∧ Below w.heap.size w w' := by
  obtain ⟨n, hn⟩ : ∃ n, l.length = n := ⟨_, rfl⟩
  have HN := Lib.hid hn
  rw [hn] at hl ⊢
  clear hn
  go_enter Tryz.func59, Tryz.ntmps59
  go_wp2
  go_loopw [5, 8] (fun _ z wr => ∃ i : Nat, i ≤ n ∧ z = .int .i64 i ∧ (l.take i).any ctl = false ∧ Below w.heap.size w wr) (fun _ z _ => n - (intOf z).toNat)
  case atStart => exact ⟨0, Nat.zero_le _, rfl, rfl, Below.refl _ _⟩
  case round =>
    obtain ⟨i, hi, rfl, hcl, hbw⟩ := hrel
    have HCL := Lib.hid hcl
    clear hcl
    by_cases hlt : i < n
    · have hil : i < l.length := by rw [HN.out]; exact hlt
      obtain ⟨b, o, rfl, hbl, hcc⟩ := (hr.below hbw).int_at (by omega)
      have hci := hcc i hil
      have HS := Lib.hid (List.take_succ_eq_append_getElem hil)
      have HM := Lib.hid (List.getElem_mem hil)
      obtain ⟨x, hx⟩ : ∃ x, l[i]'hil = x := ⟨_, rfl⟩
      rw [hx] at hci HS HM
      have g0 : (0 : Int) ≤ (i : Int) := by omega
      have g1 : (i : Int) < (n : Int) := by omega
      clear hcc hx
      obtain ⟨q, hq⟩ : ∃ q, ctl x = q := ⟨_, rfl⟩
      have hcall : ∀ W : World, Calls Tryz.prog 45 #[.int .i64 x] W fun e w' => e = .returned (.bool q) ∧ Below W.heap.size W w' := fun W => by rw [← hq]; exact ctl_any x W
      have HQ := Lib.hid hq
      clear hq
      go_wp2_with fail
      refine (hcall _).mono ?_
      rintro e w2 ⟨rfl, hb2⟩
      have hB2 := hbw.trans (hb2.mono hbw.size)
      clear hcall hb2
      cases q with
      | true =>
        go_wp2_with fail
        go_ret
        refine ⟨⟨_, rfl, ?_, by omega, by omega⟩, hB2⟩
        rw [decide_eq_true g0]
        exact (List.any_eq_true.2 ⟨x, HM.out, HQ.out⟩).symm
      | false =>
        go_wp2_with fail
        go_roundw
        case rel => exact ⟨i + 1, by omega, by go_num, by rw [HS.out, List.any_append, HCL.out]; simp [HQ.out], hB2⟩
        case measure => simp [intOf]; omega
    · have HE := Lib.hid (show l.any ctl = false by
        have h1 := HCL.out
        have h2 := HN.out
        rwa [List.take_of_length_le (by omega)] at h1)
      go_wp2_with fail
      go_ret
      exact ⟨⟨_, rfl, by rw [HE.out]; rfl, by decide, by decide⟩, hbw⟩
theorem has_any (A : Option Addr) (n c : Nat) (l : List Int) (hn : l.length = n) (q : Bool) (hq : l.any ctl = q) (w : World) (hl : n ≤ 4294967296) (hr : Rd w A (is_ l)) :
    Calls Tryz.prog 46 #[.slice A n c, .func (.func 45) #[] #[]] w fun e w' => e = .returned (.bool q) ∧ Below w.heap.size w w' := by
  have hcall := idxf_any A c l w (by omega) hr
  rw [hn, hq] at hcall
  clear hq hn
  go_enter Tryz.func46, Tryz.ntmps46
  go_wp2_with fail
  refine hcall.mono ?_
  clear hcall
  rintro e w1 ⟨⟨i, rfl, hd, h1, h2⟩, hb1⟩
  have HD := Lib.hid hd
  clear hd
  go_wp2_with fail
  go_ret
  exact ⟨ret_b HD.out, hb1⟩

set_option maxRecDepth 100000 in
set_option maxHeartbeats 8000000 in
theorem pkeytext_any (s : ByteArray) (hs : s.size ≤ 4294967296) (w : World) (hz : Siz w) : Calls Tryz.prog 25 #[.string s] w fun e w' => e = .returned (.bool (cleanB s)) ∧ Below w.heap.size w w' := by
  have hms : s.size ≤ maxLen := by simp only [maxLen]; omega
  have hlen : s.data.toList.length = s.size := Array.length_toList
  obtain ⟨R, hR⟩ : ∃ R, cleanB s = R := ⟨_, rfl⟩
  by_cases h32 : 32 < s.size
  · have HF := Lib.hid (show false = R by rw [← hR]; exact (clean_long (by omega)).symm)
    rw [hR]
    have t1 : decide (32 < (s.size : Int)) = true := decide_eq_true (by omega)
    clear hR hlen
    go_enter Tryz.func25, Tryz.ntmps25
    go_wp2_with fail
    go_ret
    exact ⟨ret_b HF.out, Below.refl _ _⟩
  obtain ⟨o, ho⟩ : ∃ o, allL s.data.toList = o := ⟨_, rfl⟩
  have HC := Lib.hid (show cleanO o = R by rw [← hR, ← ho]; rfl)
  obtain ⟨l, hl⟩ : ∃ l, s.data.toList = l := ⟨_, rfl⟩
  rw [hl] at hlen ho
  have HL := Lib.hid hl
  have HO := Lib.hid ho
  have HLN := Lib.hid hlen
  rw [hR]
  have HSZ := Lib.hid hs
  have t1 : decide (32 < (s.size : Int)) = false := decide_eq_false (by omega)
  clear hR hl ho hlen hs h32
  go_enter Tryz.func25, Tryz.ntmps25
  go_wp2_with (first
    | ((with_reducible refine list_conv _ rfl (.tmp 10) 9 27 rfl w.heap.size 5 s ?_ Tryz.underlying9 Tryz.underlying27 Tryz.underlying5 hms (Nat.le_refl _) ?_); rfl; intro v1 w1 own1 hg1; obtain ⟨A1, c1, rfl, hr1⟩ := own1.form; have hc1 := own1.capT; have hB1 := below_none hg1; clear hg1))
  rw [HL.out] at hr1
  have hall := all_any A1 c1 l w1 (hz.below' hB1) (by rw [HLN.out]; exact HSZ.out) (by rw [HLN.out]; exact hc1) hr1
  rw [HLN.out, HO.out] at hall
  refine hall.mono ?_
  clear hall hr1 own1
  intro e w2 hA
  cases o with
  | none =>
    obtain ⟨rfl, hb2⟩ := hA
    have hB2 := hB1.trans (hb2.mono hB1.size)
    have HCF := Lib.hid (show false = R from HC.out)
    go_wp2_with fail
    go_ret
    exact ⟨ret_b HCF.out, hB2⟩
  | some ks =>
    have HCT := Lib.hid (show (decide (ks.length ≤ 8) && cleanP ks) = R from HC.out)
    clear HC
    obtain ⟨A2, c2, rfl, hr2, hb2⟩ := hA
    have hB2 := hB1.trans (hb2.mono hB1.size)
    clear hB1 hb2
    by_cases h8 : 8 < ks.length
    · have t2 : decide ((ks.length : Int) ≤ 8) = false := decide_eq_false (by omega)
      have HE := Lib.hid (show decide (ks.length ≤ 8) = false from decide_eq_false (by omega))
      go_wp2_with fail
      go_ret
      exact ⟨ret_b (by rw [← HCT.out, HE.out]; rfl), hB2⟩
    · have t2 : decide ((ks.length : Int) ≤ 8) = true := decide_eq_true (by omega)
      have HE := Lib.hid (show decide (ks.length ≤ 8) = true from decide_eq_true (by omega))
      obtain ⟨q, hq⟩ : ∃ q, ks.any ctl = q := ⟨_, rfl⟩
      have HQ := Lib.hid (show (!q) = R by rw [← HCT.out, HE.out, Bool.true_and, clean_any, hq])
      have hcall := has_any A2 ks.length c2 ks rfl q hq w2 (by omega) hr2
      obtain ⟨n, hn⟩ : ∃ n, ks.length = n := ⟨_, rfl⟩
      rw [hn] at t2 hcall ⊢
      clear hn h8 hq HE
      go_wp2_with fail
      refine hcall.mono ?_
      clear hcall
      rintro e w3 ⟨rfl, hb3⟩
      have hB3 := hB2.trans (hb3.mono hB2.size)
      cases q with
      | true =>
        have HF := Lib.hid (show false = R from HQ.out)
        go_wp2_with fail
        go_ret
        exact ⟨ret_b HF.out, hB3⟩
      | false =>
        have HF := Lib.hid (show true = R from HQ.out)
        go_wp2_with fail
        go_ret
        exact ⟨ret_b HF.out, hB3⟩
end Go.Proofs.YtbjmfhcgkpjcfaaGreatDoor
