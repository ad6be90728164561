/-
  Layer 4: the walk of QueueWhole.
-/
import Derived.Test.YthilpfgmbikhfaaQuW
import Derived.Test.YthilpfgmbikhfaaQuS
import Derived.Test.YthilpfgmbikhfaaLqR
namespace Go.Proofs.Ythilpfgmbikhfaa
open Go.RowKit

/-- A queue, and two rows of the law's own that lie apart from it and from each other. -/
structure Rows2 (w : World) (g room base B : Nat) (l : List UInt8) (d : Nat) (v u : Value) (a b : Nat) (I O : List UInt8) : Prop where
  all : ∃ S q, QB w S g room base q l d ∧ Own w B 5 1 v a (bs I) ∧ Own w B 5 1 u b (bs O) ∧ (∀ k, v.ownBlock = some k → ¬ S k) ∧ (∀ k, u.ownBlock = some k → ¬ S k) ∧ (∀ k, v.ownBlock = some k → u.ownBlock ≠ some k)

set_option maxRecDepth 100000 in
set_option maxHeartbeats 16000000 in
theorem queueWhole_walk (rm : Int) (lo : 0 ≤ rm) (hi3 : rm ≤ 65535) (A : Option Addr) (ls : List St) (c : Nat) (hl : ls.length ≤ maxLen) (w : World) (hq : RdSt w A ls) :
    Calls Try.prog 4 #[.int .u16 rm, .slice A ls.length c] w fun e w' => e = .returned (.bool true) ∧ Below w.heap.size w w' := by
  obtain ⟨i0, hi, hz0, hz1, hz2⟩ := u8_parts
  obtain ⟨n, hn⟩ : ∃ n, ls.length = n := ⟨_, rfl⟩
  rw [hn] at hl
  rw [hn]
  have HN := Lib.hid hn
  clear hn
  obtain ⟨fb, hfb⟩ : ∃ fb, fewB ls = fb := ⟨_, rfl⟩
  have HFB := Lib.hid hfb
  clear hfb
  have hqi := hq.in_
  cases fb with
  | false =>
    go_enter Try.func4, Try.ntmps4
    go_wp2_with fail
    refine (awake_any w).mono ?_
    rintro e w1 ⟨rfl, hb1⟩
    go_wp2_with fail
    refine (few_any ls A n c false w1 HN.out hl HFB.out (hqi.below hb1)).mono ?_
    rintro e w1' ⟨rfl, rfl⟩
    go_wp2_with fail
    go_ret
    exact ⟨rfl, hb1⟩
  | true =>
    obtain ⟨h30, h200⟩ := few_parts HFB.out
    rw [HN.out] at h30
    have H200 := Lib.hid h200
    clear h200 hq
    go_enter Try.func4, Try.ntmps4
    go_wp2_with fail
    refine (awake_any w).mono ?_
    rintro e w1 ⟨rfl, hb1⟩
    go_wp2_with fail
    refine (few_any ls A n c true w1 HN.out hl HFB.out (hqi.below hb1)).mono ?_
    rintro e w1' ⟨rfl, rfl⟩
    go_wp2_with fail
    obtain ⟨N, hN⟩ := Int.eq_ofNat_of_zero_le (show 0 ≤ 64 + rm % 500 by omega)
    have hN1 : 64 ≤ N := by omega
    have hN2 : N ≤ 600 := by omega
    rw [hN]
    clear hN
    refine (new_yes N w1 hN1 (by omega)).mono ?_
    rintro e w2 ⟨rfl, hw2⟩
    have q2 := QB.new w1 N w.heap.size hb1.size (by omega)
    have hF2 := Lib.hid (hb1.alloc hb1.size (.cells #[.int .i64 (N : Int), .slice none 0 0, .int .i64 0] 54))
    rw [hw2] at q2 hF2
    clear hw2
    obtain ⟨S2, hS2⟩ : ∃ S2, S2 = fun k => k = w1.heap.size := ⟨_, rfl⟩
    rw [← hS2] at q2
    clear hS2
    obtain ⟨g, hg⟩ : ∃ g, w1.heap.size = g := ⟨_, rfl⟩
    rw [hg] at q2
    rw [hg]
    clear hg hb1
    have HQI := Lib.hid hqi
    clear hqi
    have rows : Rows2 w2 g N w.heap.size w.heap.size [] 0 (.slice none 0 0) (.slice none 0 0) 0 0 [] [] := ⟨⟨S2, _, q2, Own.nil_ _ _ _ _, Own.nil_ _ _ _ _, fun k h => (by cases h), fun k h => (by cases h), fun k h => (by cases h)⟩⟩
    clear q2
    go_wp2_with fail
    go_loopw [8, 9, 10] (fun y1 y2 i wr => ∃ (k d a b : Nat) (l I O : List UInt8) (vi vo : Value), k ≤ n ∧ d ≤ k ∧ a ≤ 200 * k ∧ i = .int .i64 k ∧ vi = y1 ∧ vo = y2 ∧ Hid (O ++ l = I) ∧ Rows2 wr g N w.heap.size w.heap.size l d vi vo a b I O ∧ Below w.heap.size w wr) (fun _ _ i _ => n - (intOf i).toNat)
    case atStart => exact ⟨0, 0, 0, 0, [], [], [], _, _, Nat.zero_le _, Nat.le_refl _, Nat.zero_le _, rfl, rfl, rfl, Lib.hid rfl, rows, hF2.out⟩
    case round =>
      obtain ⟨k, d, a, b, l, I, O, vi, vo, hk, hdk, ha, rfl, rfl, rfl, hIO, ⟨S, vq, q, owi, owo, hni, hno, hio⟩, hbw⟩ := hrel
      clear rows hF2
      have hba : b ≤ a := by
        have h1 := owi.1
        have h2 := owo.1
        rw [bs_length] at h1 h2
        have h3 := congrArg List.length hIO.out
        rw [List.length_append] at h3
        omega
      have HNI := Lib.hid hni
      have HNO := Lib.hid hno
      have HIO := Lib.hid hio
      clear hni hno hio
      by_cases hlt : k < n
      · have hkp : k < ls.length := by rw [HN.out]; exact hlt
        obtain ⟨⟨x, nn⟩, hxn⟩ : ∃ s, ls[k]'hkp = s := ⟨_, rfl⟩
        obtain ⟨bk, o, A', c', hA, hb, hrx, hx, hnn, hck, hcn⟩ := (HQI.out.below hbw).at_ k hkp x nn hxn
        cases hA
        obtain ⟨m, hm⟩ : ∃ m, x.length = m := ⟨_, rfl⟩
        have hm200 : m ≤ 200 := by rw [← hm]; exact H200.out (x, nn) (by rw [← hxn]; exact List.getElem_mem hkp)
        rw [hm] at hck
        have HM := Lib.hid hm
        clear hm hx hxn
        obtain ⟨bb, hbb⟩ : ∃ bb, hasRoom N l x = bb := ⟨_, rfl⟩
        obtain ⟨l1, hl1⟩ : ∃ l1, pushL N l x = l1 := ⟨_, rfl⟩
        obtain ⟨d1, hd1⟩ : ∃ d1, pushD N l x d = d1 := ⟨_, rfl⟩
        have e2 := push_drops hbb hd1
        have hd2 : d1 ≤ d + 1 := by rw [e2]; split <;> omega
        obtain ⟨I1, hI1⟩ : ∃ I1, O ++ l1 = I1 := ⟨_, rfl⟩
        have hI2 : I1 = if bb = true then I ++ x else I := by
          rw [← hI1, ← hl1, ← hIO.out]
          unfold pushL
          rw [hbb]
          split
          · rw [List.append_assoc]
          · rfl
        obtain ⟨p1, hp1⟩ : ∃ p1, l1.length = p1 := ⟨_, rfl⟩
        obtain ⟨K, hK⟩ : ∃ K, drainK nn l1 = K := ⟨_, rfl⟩
        have hKp : K ≤ p1 := by rw [← hK, ← hp1]; exact drainK_le _ _
        have HK := Lib.hid hK
        have HP1 := Lib.hid hp1
        have HBB := Lib.hid hbb
        have HL1 := Lib.hid hl1
        have HD1 := Lib.hid hd1
        have HI1 := Lib.hid hI1
        have HI2 := Lib.hid hI2
        have HKL := Lib.hid (show (bs (l1.take K)).length = K by rw [bs_length, List.length_take]; omega)
        clear hK hp1 hbb hl1 hd1 hI1 hI2 e2
        have HBI := Lib.hid owi.lt
        have HBO := Lib.hid owo.lt
        have hp2 : w.heap.size ≤ wr.heap.size := hbw.size
        go_wp2_with fail
        refine (push_any q A' m c' x bb l1 d1 HM.out (by omega) (by omega) (hrx.rd hp2) HBB.out HL1.out HD1.out).mono ?_
        rintro e w3 ⟨rfl, ⟨S3, v3, q3, hw3⟩, hf3⟩
        have hbx := hf3.below (B := w.heap.size) hbw.size q.lo
        have hbw3 := hbw.trans hbx
        have hck3 := (hbx.cell (p := ⟨bk, o + k * 2, none⟩) hb).trans hck
        have hcn3 := (hbx.cell (p := ⟨bk, o + k * 2 + 1, none⟩) hb).trans hcn
        have hrx3 := (hrx.below hbx).rd hbw3.size
        have owi3 := owi.fr hf3 HNI.out
        have owo3 := owo.fr hf3 HNO.out
        have HNI3 := Lib.hid (show ∀ j, vi.ownBlock = some j → ¬ S3 j from fun j hj => hw3.out (HBI.out j hj).2 (HNI.out j hj))
        have HNO3 := Lib.hid (show ∀ j, vo.ownBlock = some j → ¬ S3 j from fun j hj => hw3.out (HBO.out j hj).2 (HNO.out j hj))
        have hbs3 := hbw3.size
        have hpN : p1 ≤ N := by rw [← HP1.out]; exact q3.fit
        clear hf3 hw3 q owi owo hck hcn hrx hbx hbw
        have tN : decide ((N : Int) < (p1 : Int)) = false := by simp; omega
        have hx63 : a + m ≤ maxLen := by simp only [maxLen]; omega
        have hxlim : (a + m) * 1 ≤ 140737488355328 := by omega
        have hy63 : b + K ≤ maxLen := by simp only [maxLen]; omega
        have hylim : (b + K) * 1 ≤ 140737488355328 := by omega
        cases bb
        case' true =>
          go_wp2_with (at_builtin; refine list_appB _ rfl (.tmp 35) (.tmp 40) 28 rfl w.heap.size 5 i0 _ 1 1 Try.underlying28 hi hz0 hz1 hz2 rfl Nat.one_pos vi a (bs I) rfl owi3 A' m c' (bs x) rfl (by rw [bs_length, HM.out]; omega) hrx3 (bs_one x) hx63 hxlim hbs3 ?_; intro v4 w4 owi4 hg4 hk4)
          have hI : I1 = I ++ x := by rw [HI2.out]; simp
          rw [← bs_append, ← hI] at owi4
          have q4 := q3.grown hg4 (fun j hj => HNI3.out j hj)
          have owo4 := owo3.fr (Fr.of_grown hg4) (fun j hj hr => HIO.out j hr hj)
          have HNI4 := Lib.hid (show ∀ j, v4.ownBlock = some j → ¬ S3 j from fun j hj hs => by
            rcases hk4 j hj with h1 | h1
            · exact HNI3.out j h1 hs
            · have := q3.hi j hs; omega)
          have HIO4 := Lib.hid (show ∀ j, v4.ownBlock = some j → vo.ownBlock ≠ some j from fun j hj hr => by
            rcases hk4 j hj with h1 | h1
            · exact HIO.out j h1 hr
            · have := (owo3.lt j hr).2; omega)
          have hbx4 := (Below.refl w.heap.size w3).grown hg4 hbs3 (fun j hj => (owi3.lt j hj).1)
          have hcn4 := (hbx4.cell (p := ⟨bk, o + k * 2 + 1, none⟩) hb).trans hcn3
          have hbw4 := hbw3.trans hbx4
          have ha4 : a + m ≤ 200 * (k + 1) := by omega
          clear hg4 hk4 hbx4 hI
        case' false =>
          have hI : I1 = I := by rw [HI2.out]; simp
          have owi4 := owi3
          rw [← hI] at owi4
          have q4 := q3
          have owo4 := owo3
          have HNI4 := HNI3
          have HIO4 := HIO
          have hcn4 := hcn3
          have hbw4 := hbw3
          have ha4 : a ≤ 200 * (k + 1) := by omega
          clear hI
        all_goals
          clear q3 owi3 owo3 hcn3 hck3 hbw3 hrx3 HNI3 HIO hx63 hxlim HI2
          go_wp2_with fail
          refine (len_at q4 p1 HP1.out).mono ?_
          rintro e w5 ⟨rfl, rfl⟩
          go_wp2_with fail
          refine (drain_any q4 nn K hnn.2 HK.out).mono ?_
          rintro e w6 ⟨⟨A6, c6, rfl, own6⟩, ⟨v6, q6⟩, hf6⟩
          have owi6 := owi4.fr hf6 HNI4.out
          have owo6 := owo4.fr hf6 HNO3.out
          have hbw6 := hbw4.trans (hf6.below (B := w.heap.size) hbw4.size q4.lo)
          have hr6 := own6.rd
          have hbs6 := hbw6.size
          clear q4 owi4 owo4 hcn4 hbw4 hf6 own6 hbs3
          go_wp2_with (at_builtin; refine list_appB _ rfl (.tmp 46) (.tmp 53) 28 rfl w.heap.size 5 i0 _ 1 1 Try.underlying28 hi hz0 hz1 hz2 rfl Nat.one_pos vo b (bs O) rfl owo6 A6 K c6 (bs (l1.take K)) rfl (by rw [HKL.out, Nat.mul_one]) hr6 (bs_one _) hy63 hylim hbs6 ?_; intro v7 w7 owo7 hg7 hk7)
          rw [← bs_append] at owo7
          have q7 := q6.grown hg7 (fun j hj => HNO3.out j hj)
          have owi7 := owi6.fr (Fr.of_grown hg7) (fun j hj hr => HIO4.out j hj hr)
          have HNO7 := Lib.hid (show ∀ j, v7.ownBlock = some j → ¬ S3 j from fun j hj hs => by
            rcases hk7 j hj with h1 | h1
            · exact HNO3.out j h1 hs
            · have := q6.hi j hs; omega)
          have HIO7 := Lib.hid (show ∀ j, _ → v7.ownBlock ≠ some j from fun j hj hr => by
            rcases hk7 j hr with h1 | h1
            · exact HIO4.out j hj h1
            · have := (owi6.lt j hj).2; omega)
          have hbw7 := Lib.hid (hbw6.grown hg7 hbs6 (fun j hj => (owo6.lt j hj).1))
          have HIOn := Lib.hid (show (O ++ l1.take K) ++ l1.drop K = I1 by rw [List.append_assoc, List.take_append_drop]; exact HI1.out)
          clear hg7 hk7 q6 owi6 owo6 hbw6 hr6 hbs6
          go_roundw
          case rel => exact ⟨k + 1, d1, _, b + K, l1.drop K, I1, O ++ l1.take K, _, _, by omega, by omega, ha4, by go_num, rfl, rfl, HIOn, ⟨S3, _, q7, owi7, owo7, HNI4.out, HNO7.out, HIO7.out⟩, hbw7.out⟩
          case measure => simp [intOf]; omega
      · have hkn : k = n := by omega
        subst hkn
        obtain ⟨w3, rfl⟩ : ∃ w3 : World, w3 = wr := ⟨_, rfl⟩
        obtain ⟨Ai, ci, rfl, _⟩ := owi.form
        obtain ⟨p, hp⟩ : ∃ p, l.length = p := ⟨_, rfl⟩
        have hpN : p ≤ N := by rw [← hp]; exact q.fit
        have hIa : I.length = a := by have := owi.1; rw [bs_length] at this; omega
        have hIb : I.length = b + p := by
          have h2 := owo.1
          rw [bs_length] at h2
          rw [← hIO.out, List.length_append, hp]
          omega
        have HK := Lib.hid (show drainK (N : Int) l = p by unfold drainK; rw [hp]; omega)
        have HT := Lib.hid (show l.take p = l from List.take_of_length_le (by omega))
        have HD := Lib.hid (show l.drop p = [] from List.drop_of_length_le (by omega))
        have HP := Lib.hid (show (bs l).length = p by rw [bs_length, hp])
        have hy63 : b + p ≤ maxLen := by simp only [maxLen]; omega
        have hylim : (b + p) * 1 ≤ 140737488355328 := by omega
        have HIa := Lib.hid hIa
        have HIb := Lib.hid hIb
        clear hp hIa hIb
        go_wp2_with fail
        refine (drain_any q (N : Int) p (by omega) HK.out).mono ?_
        rintro e w6 ⟨⟨A6, c6, rfl, own6⟩, ⟨v6, q6⟩, hf6⟩
        rw [HT.out] at own6
        rw [HD.out] at q6
        have owi6 := owi.fr hf6 HNI.out
        have owo6 := owo.fr hf6 HNO.out
        have hbw6 := hbw.trans (hf6.below (B := w.heap.size) hbw.size q.lo)
        have hr6 := own6.rd
        have hbs6 := hbw6.size
        clear q owi owo hbw hf6 own6
        go_wp2_with (first
          | (at_builtin; refine list_appB _ rfl (.tmp 55) (.tmp 58) 28 rfl w.heap.size 5 i0 _ 1 1 Try.underlying28 hi hz0 hz1 hz2 rfl Nat.one_pos vo b (bs O) rfl owo6 A6 p c6 (bs l) rfl (by rw [HP.out, Nat.mul_one]) hr6 (bs_one _) hy63 hylim hbs6 ?_; intro v7 w7 owo7 hg7 hk7
             rw [← bs_append, hIO.out] at owo7
             have q7 := q6.grown hg7 (fun j hj => HNO.out j hj)
             have owi7 := owi6.fr (Fr.of_grown hg7) (fun j hj hr => HIO.out j hj hr)
             have hbw7 := hbw6.grown hg7 hbs6 (fun j hj => (owo6.lt j hj).1)
             obtain ⟨A7, c7, rfl, hr7⟩ := owo7.form
             have hcv1 : (convert 28 9 (.slice A7 (b + p) c7)).run Try.prog w7 = .ok (.string ⟨I.toArray⟩) w7 := conv_str Try.underlying28 Try.underlying5 HIb.out hr7 _ Try.underlying9
             have hcv2 : (convert 28 9 (.slice Ai a ci)).run Try.prog w7 = .ok (.string ⟨I.toArray⟩) w7 := conv_str Try.underlying28 Try.underlying5 HIa.out owi7.rd _ Try.underlying9
             clear hk7 hg7)
          | (refine (len_at q7 0 rfl).mono ?_; rintro e w' ⟨rfl, rfl⟩))
        go_ret
        exact ⟨rfl, hbw7⟩
end Go.Proofs.Ythilpfgmbikhfaa
