/-
  Stage 12, the landed other: Back; what the laws need of it.
-/
import Derived.Test.YtmagokkegadmiaaGreatDoorG11
import Derived.Test.YtmagokkegadmiaaGreatDoorG15
import Derived.Test.YtmagokkegadmiaaGreatDoorG29
import Derived.Test.YtmagokkegadmiaaGreatDoorG33
import Derived.Test.YtmagokkegadmiaaGreatDoorG34
namespace Go.Proofs.YtmagokkegadmiaaGreatDoor
open Go.RowKit

theorem arg_pos (ps : List (List Int)) (i : Int) : 0 ≤ argL ps i 0 := by
  unfold argL
  split
  · omega
  · generalize ps.getD i.toNat [] = l
    unfold headI
    split
    · split <;> omega
    · omega
theorem arg_most {ps : List (List Int)} (h : parOk ps = true) (i : Int) : argL ps i 0 ≤ 1114111 := by
  obtain ⟨h1, _⟩ := parOk_all h
  unfold argL
  split
  · omega
  · rename_i hi
    have hl : i.toNat < ps.length := by omega
    rw [List.getD_eq_getElem?_getD, List.getElem?_eq_getElem hl, Option.getD_some]
    have := (h1 _ (List.getElem_mem hl)).2
    generalize ps[i.toNat]'hl = l at this
    unfold headI
    split
    · rename_i n r
      have := this n (List.mem_cons_self ..)
      split <;> omega
    · omega
theorem data_none {s : Sq} (h : mayS s = 0) (hk : s.kind = 1) : s.data = [] := by
  obtain ⟨_, _, _, _, _, _, _, hb⟩ := ok_parts h
  unfold bareOk at hb
  rw [hk] at hb
  simp only [Bool.and_eq_true, Bool.or_eq_true, decide_eq_true_eq] at hb
  rcases hb.2 with h | h
  · exact h
  · omega
theorem arg_three (a b c : Int) (hb : 0 ≤ b) (hc : 0 ≤ c) : argL [[a], [b], [c]] 1 0 = b ∧ argL [[a], [b], [c]] 2 0 = c := by
  unfold argL
  refine ⟨?_, ?_⟩
  · rw [if_neg (by simp)]
    show (if b < 0 then (0 : Int) else b) = b
    rw [if_neg (by omega)]
  · rw [if_neg (by simp)]
    show (if c < 0 then (0 : Int) else c) = c
    rw [if_neg (by omega)]
/-- What the program asks of a sequence is what the document does. -/
theorem back_same {s : Sq} (h : mayS s = 0) (n : Nat) : backS s n n = if sameB s (sqN 1 126 [27, argL s.params 1 0, argL s.params 2 0]) = true ∧ 2 ≤ argL s.params 1 0 ∧ argL s.params 1 0 ≤ 8 then (argL s.params 2 0, argL s.params 1 0 - 1, true) else (0, 0, false) := by
  by_cases hq : sameB s (sqN 1 126 [27, argL s.params 1 0, argL s.params 2 0]) = true
  · have hs := (sameB_iff _ _).1 hq
    have hps : s.params = [[27], [argL s.params 1 0], [argL s.params 2 0]] := congrArg Sq.params hs
    have hbs : backS s n n = backP s.params := backS_at ⟨rfl, congrArg Sq.kind hs, congrArg Sq.final hs, congrArg Sq.priv hs, congrArg Sq.inter hs⟩
    have hv := backP_at 27 (argL s.params 1 0) (argL s.params 2 0)
    rw [← hps] at hv
    rw [hbs, hv]
    have := arg_pos s.params 2
    by_cases hr : 2 ≤ argL s.params 1 0 ∧ argL s.params 1 0 ≤ 8
    · rw [if_pos ⟨rfl, hr.1, hr.2, this⟩, if_pos ⟨hq, hr⟩]
    · rw [if_neg (fun h => hr ⟨h.2.1, h.2.2.1⟩), if_neg (fun h => hr h.2)]
  · rw [if_neg (fun h => hq h.1)]
    by_cases hb : (n = n ∧ s.kind = 1 ∧ s.final = 126 ∧ s.priv = 0 ∧ s.inter = [])
    · rw [backS_at hb]
      obtain ⟨_, h1, h2, h3, h4⟩ := hb
      have h5 := data_none h h1
      obtain ⟨kind, priv, ps, inter, fin, data⟩ := s
      simp only at h1 h2 h3 h4 h5 hq ⊢
      subst h1 h2 h3 h4 h5
      unfold backP
      split
      · rename_i a p c
        by_cases hr : a = 27 ∧ 2 ≤ p ∧ p ≤ 8 ∧ 0 ≤ c
        · exfalso
          apply hq
          obtain ⟨e1, e2⟩ := arg_three a p c (by omega) hr.2.2.2
          rw [e1, e2, hr.1]
          exact (sameB_iff _ _).2 rfl
        · rw [if_neg hr]
      · rfl
    · exact if_neg hb
theorem bsame {x : Value} {p c : Int} {q : Bool} {v : Value} {W : World} (H : ∀ B d, RdP W B ([27, p, c].map fun n => [n]) → Calls Tryz.prog 28 #[x, NQV B d] W fun e w' => e = .returned (.bool q) ∧ Below W.heap.size W w') (h : FSeq p c v W) :
    Calls Tryz.prog 28 #[x, v] W fun e w' => e = .returned (.bool q) ∧ Below W.heap.size W w' := by
  obtain ⟨A, d, rfl, hr⟩ := h
  exact H A d hr
theorem of_out {p : Int} (h : p < 1 ∨ 256 < p) : ofN p = (0, false) := if_pos h
theorem of_in {p : Int} (h : ¬ (p < 1 ∨ 256 < p)) : ofN p = (p - 1, true) := if_neg h
set_option maxRecDepth 100000 in
set_option maxHeartbeats 8000000 in
theorem oback_any (A : Option Addr) (n cap : Nat) (l : List UInt8) (w : World) (hv : Inv12 w) (hn : l.length = n) (hlc : n ≤ cap) (hl : n ≤ 4294967) (hr : Rd w A (bs l)) :
    Calls Tryz.prog 11 #[.slice A n cap] w (BkE (backO l) w) := by
  obtain ⟨R, hR⟩ : ∃ R, backO l = R := ⟨_, rfl⟩
  rw [hR]
  have HN := Lib.hid hn
  have HV := Lib.hid hv
  cases ht : takeS l with
  | none =>
    have htk := ptake_no A n cap l w ht hn hlc (by omega) hv.2.2 hr
    have HE := Lib.hid (show R = (0, 0, false) by rw [← hR]; unfold backO; rw [ht])
    clear hR hr hl hlc hn ht hv
    go_enter Tryz.func11, Tryz.ntmps11
    go_wp2_with fail
    refine htk.mono ?_
    clear htk
    rintro e w1 ⟨rfl, hb1⟩
    have hB1 := hb1.alloc hb1.size (.cells #[.int .i64 0, .int .u8 0, .slice none 0 0, .string ⟨#[]⟩, .int .u8 0, .string ⟨#[]⟩] 52)
    unfold zeroS
    go_wp2_with fail
    refine bodyPost_ret (v := .tuple #[.int .i64 0, .int .i64 0, .bool false]) (by simp [results, Tryz.results11, go_sem]) rfl (BkE.no HE.out hB1)
  | some x =>
    obtain ⟨s, m⟩ := x
    have htk := ptake_yes A n cap l s m w ht hn hlc (by omega) hv.2.2 hr
    obtain ⟨hm, hms, hcut⟩ := takeS_some ht
    have hmn : m ≤ n := by
      rw [hms, ← hn, hcut, List.length_append]
      omega
    obtain ⟨_, _, hpar, _⟩ := ok_parts hm
    have HR := Lib.hid (show R = backS s m n by rw [← hR]; unfold backO; rw [ht]; simp only [hn])
    have HBS := Lib.hid (fun k => back_same hm k)
    have hp0 := arg_pos s.params 1
    have hp1 := arg_most hpar 1
    have hc0 := arg_pos s.params 2
    have hc1 := arg_most hpar 2
    obtain ⟨l16, l8⟩ := parOk_lens hpar
    have l8' : ∀ p ∈ s.params, p.length ≤ 4294967296 := fun p hp => by have := (l8 p hp).1; omega
    obtain ⟨p, hp⟩ : ∃ p, argL s.params 1 0 = p := ⟨_, rfl⟩
    obtain ⟨c, hc⟩ : ∃ c, argL s.params 2 0 = c := ⟨_, rfl⟩
    rw [hp] at hp0 hp1 HBS
    rw [hc] at hc0 hc1 HBS
    obtain ⟨q, hq⟩ : ∃ q, sameB s (sqN 1 126 [27, p, c]) = q := ⟨_, rfl⟩
    rw [hq] at HBS
    have HA1 : ∀ A1 c1, Hid (∀ W, RdP W A1 s.params → Calls Tryz.prog 27 #[sqV s A1 c1, .int .i64 1, .int .i64 0] W fun e w' => e = .returned (.int .i64 p) ∧ Below W.heap.size W w') := fun A1 c1 => Lib.hid fun W h => parg_any s A1 c1 1 0 p W hp (by omega) (by omega) (by omega) h
    have HA2 : ∀ A1 c1, Hid (∀ W, RdP W A1 s.params → Calls Tryz.prog 27 #[sqV s A1 c1, .int .i64 2, .int .i64 0] W fun e w' => e = .returned (.int .i64 c) ∧ Below W.heap.size W w') := fun A1 c1 => Lib.hid fun W h => parg_any s A1 c1 2 0 c W hc (by omega) (by omega) (by omega) h
    have HSM : ∀ A1 c1, Hid (∀ W, RdP W A1 s.params → ∀ B d, RdP W B ([27, p, c].map fun n => [n]) → Calls Tryz.prog 28 #[sqV s A1 c1, NQV B d] W fun e w' => e = .returned (.bool q) ∧ Below W.heap.size W w') := fun A1 c1 => Lib.hid fun W h B d h2 => by
      have := psame_any s (sqN 1 126 [27, p, c]) A1 B c1 d q W hq (by omega) (by show 3 ≤ _; omega) l8' (fun x hx => by have : x ∈ [[27], [p], [c]] := hx; simp only [List.mem_cons, List.not_mem_nil, or_false] at this; rcases this with rfl | rfl | rfl <;> simp) h h2
      rwa [sqn_v (n := 3) rfl (by decide) (by decide)] at this
    clear hR hr hl hlc hn ht hv hms hcut hm hpar hp hc hq l16 l8 l8'
    go_enter Tryz.func11, Tryz.ntmps11
    go_wp2_with fail
    refine htk.mono ?_
    clear htk
    rintro e w1 ⟨⟨A1, c1, rfl, hr1⟩, hb1⟩
    have HA1 := HA1 A1 c1
    have HA2 := HA2 A1 c1
    have HSM := HSM A1 c1
    obtain ⟨kind, priv, ps, inter, fin, data⟩ := s
    simp only at hr1 HA1 HA2 HSM
    unfold sqV at HA1 HA2 HSM ⊢
    have k0 := Blk.new w1 52 #[.int .i64 kind, .int .u8 (priv.toNat : Int), .slice A1 ps.length c1, .string ⟨inter.toArray⟩, .int .u8 (fin.toNat : Int), .string ⟨data.toArray⟩]
    have hB1 := hb1.alloc hb1.size (.cells #[.int .i64 kind, .int .u8 (priv.toNat : Int), .slice A1 ps.length c1, .string ⟨inter.toArray⟩, .int .u8 (fin.toNat : Int), .string ⟨data.toArray⟩] 52)
    have hr2 := hr1.alloc (.cells #[.int .i64 kind, .int .u8 (priv.toNat : Int), .slice A1 ps.length c1, .string ⟨inter.toArray⟩, .int .u8 (fin.toNat : Int), .string ⟨data.toArray⟩] 52)
    obtain ⟨P8, hP8⟩ : ∃ x : Int, (priv.toNat : Int) = x := ⟨_, rfl⟩
    obtain ⟨F8, hF8⟩ : ∃ x : Int, (fin.toNat : Int) = x := ⟨_, rfl⟩
    obtain ⟨IT, hIT⟩ : ∃ x : ByteArray, (⟨inter.toArray⟩ : ByteArray) = x := ⟨_, rfl⟩
    obtain ⟨DA, hDA⟩ : ∃ x : ByteArray, (⟨data.toArray⟩ : ByteArray) = x := ⟨_, rfl⟩
    obtain ⟨np, hnp⟩ : ∃ x : Nat, ps.length = x := ⟨_, rfl⟩
    have HRB : Hid (m = n → R = if q = true ∧ 2 ≤ p ∧ p ≤ 8 then (c, p - 1, true) else (0, 0, false)) := Lib.hid fun h => by rw [HR.out, h]; exact HBS.out n
    have HRL : Hid (m ≠ n → R = (0, 0, false)) := Lib.hid fun h => by rw [HR.out]; exact if_neg (fun hh => h hh.1)
    rw [hP8, hF8, hIT, hDA, hnp] at k0 hB1 hr2 HA1 HA2 HSM
    rw [hP8, hF8, hIT, hDA, hnp]
    clear hP8 hF8 hIT hDA hnp hr1 hb1 HR HBS
    by_cases hmn2 : m = n
    rotate_left
    · have HE := Lib.hid (HRL.out hmn2)
      have g1 : (m : Int) < (n : Int) := by omega
      clear hmn2 hmn HRL HRB
      go_wp2_with fail
      refine bodyPost_ret (v := .tuple #[.int .i64 0, .int .i64 0, .bool false]) (by simp [results, Tryz.results11, go_sem]) rfl (BkE.no HE.out hB1)
    · subst hmn2
      have HRB2 := Lib.hid (HRB.out rfl)
      clear HRL hmn HRB
      have g1 : ¬ (m : Int) < (m : Int) := by omega
      obtain ⟨W1, hW1⟩ : ∃ W, w1.alloc (.cells #[.int .i64 kind, .int .u8 P8, .slice A1 np c1, .string IT, .int .u8 F8, .string DA] 52) = W := ⟨_, rfl⟩
      rw [hW1] at k0 hB1 hr2
      go_wp2_with fail
      clear hW1
      have lk : ∀ W, Below W1.heap.size W1 W → Blk W w1.heap.size 52 #[.int .i64 kind, .int .u8 P8, .slice A1 np c1, .string IT, .int .u8 F8, .string DA] := fun W hW => k0.below hW k0.lt
      have hrd : ∀ W, Below W1.heap.size W1 W → RdP W A1 ps := fun W hW => hr2.below hW
      have hst : ∀ f ∈ ([] : List Fact), f.ok := fun _ h => by cases h
      refine wp_region_told (w1 := W1) (K := []) (ix := 1000) (R0 := fun _ _ _ => True) (R1 := fun _ _ _ => True) [] (⟨#[.slice A m cap, undef, .int .i64 0, .int .i64 0, .bool false, .pointer (some ⟨w1.heap.size, 0, none⟩), .int .i64 (m : Int), .int .i64 0, .int .i64 p, .int .i64 c, undef, undef, .tuple #[.agg #[.int .i64 kind, .int .u8 P8, .slice A1 np c1, .string IT, .int .u8 F8, .string DA], .int .i64 (m : Int), .int .i64 0], .slice A m cap, .tuple #[.agg #[.int .i64 kind, .int .u8 P8, .slice A1 np c1, .string IT, .int .u8 F8, .string DA], .int .i64 (m : Int), .int .i64 0], .agg #[.int .i64 kind, .int .u8 P8, .slice A1 np c1, .string IT, .int .u8 F8, .string DA], .int .i64 (m : Int), .int .i64 0, .int .i64 0, .bool false, .bool false, .int .i64 (m : Int), .slice A m cap, .int .i64 (m : Int), .bool false, .bool false, .agg #[.int .i64 kind, .int .u8 P8, .slice A1 np c1, .string IT, .int .u8 F8, .string DA], .int .i64 p, .agg #[.int .i64 kind, .int .u8 P8, .slice A1 np c1, .string IT, .int .u8 F8, .string DA], .int .i64 c, undef, undef, undef, undef, undef, undef, undef, undef, undef, undef, undef, undef, undef, undef, undef, undef, undef, undef, undef, undef, undef, undef, undef, undef, undef, undef], []⟩) (fun g => ⟨#[.slice A m cap, undef, .int .i64 0, .int .i64 0, .bool false, .pointer (some ⟨w1.heap.size, 0, none⟩), .int .i64 (m : Int), .int .i64 0, .int .i64 p, .int .i64 c, undef, undef, .tuple #[.agg #[.int .i64 kind, .int .u8 P8, .slice A1 np c1, .string IT, .int .u8 F8, .string DA], .int .i64 (m : Int), .int .i64 0], .slice A m cap, .tuple #[.agg #[.int .i64 kind, .int .u8 P8, .slice A1 np c1, .string IT, .int .u8 F8, .string DA], .int .i64 (m : Int), .int .i64 0], .agg #[.int .i64 kind, .int .u8 P8, .slice A1 np c1, .string IT, .int .u8 F8, .string DA], .int .i64 (m : Int), .int .i64 0, .int .i64 0, .bool false, .bool false, .int .i64 (m : Int), .slice A m cap, .int .i64 (m : Int), .bool false, .bool false, .agg #[.int .i64 kind, .int .u8 P8, .slice A1 np c1, .string IT, .int .u8 F8, .string DA], .int .i64 p, .agg #[.int .i64 kind, .int .u8 P8, .slice A1 np c1, .string IT, .int .u8 F8, .string DA], .int .i64 c, undef, undef, undef, undef, undef, undef, undef, undef, undef, undef, undef, undef, undef, undef, undef, undef, undef, undef, undef, undef, undef, undef, undef, undef, undef, undef], []⟩) [.agg #[.int .i64 kind, .int .u8 P8, .slice A1 np c1, .string IT, .int .u8 F8, .string DA], .int .i64 p, .agg #[.int .i64 kind, .int .u8 P8, .slice A1 np c1, .string IT, .int .u8 F8, .string DA], .int .i64 c, .int .i64 p, .int .i64 c] (by kernel_rfl) (by kernel_rfl) (by kernel_rfl) (fun g => by kernel_rfl) (by kernel_rfl) (Below.refl _ _).drew (by decide) (by kernel_rfl)
        (goes_cons (goesK_load hst (ahead_none (by decide)) rfl (by decide) (by decide) (by kernel_rfl) (fun g => by kernel_rfl) rfl (fun g => by kernel_rfl) rfl (fun g => by kernel_rfl) lk Tryz.underlying52 rfl (by kernel_rfl)) 
        (goes_cons (goesK_call (args := fun g => #[.agg #[.int .i64 kind, .int .u8 P8, .slice A1 np c1, .string IT, .int .u8 F8, .string DA], .int .i64 1, .int .i64 0]) hst (ahead_none (by decide)) rfl (by decide) (by decide) (by kernel_rfl) (fun g => by kernel_rfl) rfl (fun g => by kernel_rfl) (fun g w => by kernel_rfl) (fun g W hW hin => HA1.out W (hrd W hW))) 
        (goes_cons (goesK_load hst (ahead_none (by decide)) rfl (by decide) (by decide) (by kernel_rfl) (fun g => by kernel_rfl) rfl (fun g => by kernel_rfl) rfl (fun g => by kernel_rfl) lk Tryz.underlying52 rfl (by kernel_rfl)) 
        (goes_cons (goesK_call (args := fun g => #[.agg #[.int .i64 kind, .int .u8 P8, .slice A1 np c1, .string IT, .int .u8 F8, .string DA], .int .i64 2, .int .i64 0]) hst (ahead_none (by decide)) rfl (by decide) (by decide) (by kernel_rfl) (fun g => by kernel_rfl) rfl (fun g => by kernel_rfl) (fun g w => by kernel_rfl) (fun g W hW hin => HA2.out W (hrd W hW))) 
        (goes_cons (goesK_pure (fun _ => .int .i64 p) rfl (by decide) (by decide) (by kernel_rfl) (fun g => by kernel_rfl) rfl (fun g => by kernel_rfl) (fun g w => by kernel_rfl)) 
        (goes_cons (goesK_pure (fun _ => .int .i64 c) rfl (by decide) (by decide) (by kernel_rfl) (fun g => by kernel_rfl) rfl (fun g => by kernel_rfl) (fun g w => by kernel_rfl)) goes_nil)))))) ?_
      intro g W2 hW2 _
      have k1 := k0.below hW2 k0.lt
      have hr3 := hr2.below hW2
      have hB2 := hB1.trans (hW2.mono hB1.size)
      clear k0 hr2 hB1 lk hrd hst HA1 HA2 hW2
      have lk : ∀ W, Below W2.heap.size W2 W → Blk W w1.heap.size 52 #[.int .i64 kind, .int .u8 P8, .slice A1 np c1, .string IT, .int .u8 F8, .string DA] := fun W hW => k1.below hW k1.lt
      have hrd : ∀ W, Below W2.heap.size W2 W → RdP W A1 ps := fun W hW => hr3.below hW
      have hst : ∀ f ∈ ([⟨3, 33, FTwo p c⟩, ⟨4, 34, FSeq p c⟩] : List Fact), f.ok := List.forall_mem_cons.2 ⟨ftwo_ok _ _ _ _, List.forall_mem_cons.2 ⟨fseq_ok _ _ _ _, fun _ h => by cases h⟩⟩
      cases q with
      | false =>
        have HE := Lib.hid (show R = (0, 0, false) from HRB2.out.trans (if_neg (fun h => by cases h.1)))
        clear HRB2
        go_wp2_with fail
        refine wp_region_told (w1 := W2) (K := [⟨3, 33, FTwo p c⟩, ⟨4, 34, FSeq p c⟩]) (ix := 1000) (R0 := fun _ _ _ => True) (R1 := fun _ _ _ => True) [33, 34] (⟨#[.slice A m cap, undef, .int .i64 0, .int .i64 0, .bool false, .pointer (some ⟨w1.heap.size, 0, none⟩), .int .i64 (m : Int), .int .i64 0, .int .i64 p, .int .i64 c, undef, undef, .tuple #[.agg #[.int .i64 kind, .int .u8 P8, .slice A1 np c1, .string IT, .int .u8 F8, .string DA], .int .i64 (m : Int), .int .i64 0], .slice A m cap, .tuple #[.agg #[.int .i64 kind, .int .u8 P8, .slice A1 np c1, .string IT, .int .u8 F8, .string DA], .int .i64 (m : Int), .int .i64 0], .agg #[.int .i64 kind, .int .u8 P8, .slice A1 np c1, .string IT, .int .u8 F8, .string DA], .int .i64 (m : Int), .int .i64 0, .int .i64 0, .bool false, .bool false, .int .i64 (m : Int), .slice A m cap, .int .i64 (m : Int), .bool false, .bool false, .agg #[.int .i64 kind, .int .u8 P8, .slice A1 np c1, .string IT, .int .u8 F8, .string DA], .int .i64 p, .agg #[.int .i64 kind, .int .u8 P8, .slice A1 np c1, .string IT, .int .u8 F8, .string DA], .int .i64 c, .agg #[.int .i64 kind, .int .u8 P8, .slice A1 np c1, .string IT, .int .u8 F8, .string DA], .int .i64 p, .int .i64 c, undef, undef, .bool false, .bool true, undef, undef, undef, undef, undef, undef, undef, undef, undef, undef, undef, undef, undef, undef, undef, undef, undef, undef, undef], []⟩) (fun g => ⟨#[.slice A m cap, undef, .int .i64 0, .int .i64 0, .bool false, .pointer (some ⟨w1.heap.size, 0, none⟩), .int .i64 (m : Int), .int .i64 0, .int .i64 p, .int .i64 c, undef, undef, .tuple #[.agg #[.int .i64 kind, .int .u8 P8, .slice A1 np c1, .string IT, .int .u8 F8, .string DA], .int .i64 (m : Int), .int .i64 0], .slice A m cap, .tuple #[.agg #[.int .i64 kind, .int .u8 P8, .slice A1 np c1, .string IT, .int .u8 F8, .string DA], .int .i64 (m : Int), .int .i64 0], .agg #[.int .i64 kind, .int .u8 P8, .slice A1 np c1, .string IT, .int .u8 F8, .string DA], .int .i64 (m : Int), .int .i64 0, .int .i64 0, .bool false, .bool false, .int .i64 (m : Int), .slice A m cap, .int .i64 (m : Int), .bool false, .bool false, .agg #[.int .i64 kind, .int .u8 P8, .slice A1 np c1, .string IT, .int .u8 F8, .string DA], .int .i64 p, .agg #[.int .i64 kind, .int .u8 P8, .slice A1 np c1, .string IT, .int .u8 F8, .string DA], .int .i64 c, .agg #[.int .i64 kind, .int .u8 P8, .slice A1 np c1, .string IT, .int .u8 F8, .string DA], .int .i64 p, .int .i64 c, (g 33), (g 34), .bool false, .bool true, undef, undef, undef, undef, undef, undef, undef, undef, undef, undef, undef, undef, undef, undef, undef, undef, undef, undef, undef], []⟩) [.agg #[.int .i64 kind, .int .u8 P8, .slice A1 np c1, .string IT, .int .u8 F8, .string DA], .int .i64 p, .int .i64 c, undef, undef, .bool false, .bool true] (by kernel_rfl) (by kernel_rfl) (by kernel_rfl) (fun g => by kernel_rfl) (by kernel_rfl) (Below.refl _ _).drew (by decide) (by kernel_rfl)
          (goes_cons (goesK_load hst (ahead_none (by decide)) rfl (by decide) (by decide) (by kernel_rfl) (fun g => by kernel_rfl) rfl (fun g => by kernel_rfl) rfl (fun g => by kernel_rfl) lk Tryz.underlying52 rfl (by kernel_rfl)) 
          (goes_cons (goesK_pure (fun _ => .int .i64 p) rfl (by decide) (by decide) (by kernel_rfl) (fun g => by kernel_rfl) rfl (fun g => by kernel_rfl) (fun g w => by kernel_rfl)) 
          (goes_cons (goesK_pure (fun _ => .int .i64 c) rfl (by decide) (by decide) (by kernel_rfl) (fun g => by kernel_rfl) rfl (fun g => by kernel_rfl) (fun g w => by kernel_rfl)) 
          (goes_cons (goesK_any hst (ahead_none (by decide)) rfl (by decide) (by decide) 0 rfl (by kernel_rfl) (fun g => by kernel_rfl) rfl (fun g => by kernel_rfl) (fun g W hW hin => two_made rfl rfl rfl W)) 
          (goes_cons (goesK_ghost (args := fun g => #[g 33]) hst (ahead_none (by decide)) rfl (by decide) (by decide) 1 rfl (by kernel_rfl) (fun g => by kernel_rfl) rfl (fun g => by kernel_rfl) (fun g w => by kernel_rfl) (fun g W hW hin => ftwo_seq (hin 0 _ rfl (by kernel_rfl)))) 
          (goes_cons (goesK_call (args := fun g => #[.agg #[.int .i64 kind, .int .u8 P8, .slice A1 np c1, .string IT, .int .u8 F8, .string DA], g 34]) hst (ahead_none (by decide)) rfl (by decide) (by decide) (by kernel_rfl) (fun g => by kernel_rfl) rfl (fun g => by kernel_rfl) (fun g w => by kernel_rfl) (fun g W hW hin => bsame (HSM.out W (hrd W hW)) (hin 1 _ rfl (by kernel_rfl)))) 
          (goes_cons (goesK_pure (fun _ => .bool true) rfl (by decide) (by decide) (by kernel_rfl) (fun g => by kernel_rfl) rfl (fun g => by kernel_rfl) (fun g w => by kernel_rfl)) goes_nil))))))) ?_
        intro g W3 hW3 _
        have hB3 := hB2.trans (hW3.mono hB2.size)
        generalize g 33 = v33
        generalize g 34 = v34
        clear lk hrd hst k1 hr3 HSM
        go_wp2_with fail
        refine bodyPost_ret (v := .tuple #[.int .i64 0, .int .i64 0, .bool false]) (by simp [results, Tryz.results11, go_sem]) rfl (BkE.no HE.out hB3)
      | true =>
        have HRB3 := Lib.hid (show R = if 2 ≤ p ∧ p ≤ 8 then (c, p - 1, true) else (0, 0, false) by
          rw [HRB2.out]
          by_cases h : 2 ≤ p ∧ p ≤ 8
          · rw [if_pos ⟨rfl, h⟩, if_pos h]
          · rw [if_neg (fun hh => h hh.2), if_neg h])
        clear HRB2
        go_wp2_with fail
        refine wp_region_told (w1 := W2) (K := [⟨3, 33, FTwo p c⟩, ⟨4, 34, FSeq p c⟩]) (ix := 1000) (R0 := fun _ _ _ => True) (R1 := fun _ _ _ => True) [33, 34] (⟨#[.slice A m cap, undef, .int .i64 0, .int .i64 0, .bool false, .pointer (some ⟨w1.heap.size, 0, none⟩), .int .i64 (m : Int), .int .i64 0, .int .i64 p, .int .i64 c, undef, undef, .tuple #[.agg #[.int .i64 kind, .int .u8 P8, .slice A1 np c1, .string IT, .int .u8 F8, .string DA], .int .i64 (m : Int), .int .i64 0], .slice A m cap, .tuple #[.agg #[.int .i64 kind, .int .u8 P8, .slice A1 np c1, .string IT, .int .u8 F8, .string DA], .int .i64 (m : Int), .int .i64 0], .agg #[.int .i64 kind, .int .u8 P8, .slice A1 np c1, .string IT, .int .u8 F8, .string DA], .int .i64 (m : Int), .int .i64 0, .int .i64 0, .bool false, .bool false, .int .i64 (m : Int), .slice A m cap, .int .i64 (m : Int), .bool false, .bool false, .agg #[.int .i64 kind, .int .u8 P8, .slice A1 np c1, .string IT, .int .u8 F8, .string DA], .int .i64 p, .agg #[.int .i64 kind, .int .u8 P8, .slice A1 np c1, .string IT, .int .u8 F8, .string DA], .int .i64 c, .agg #[.int .i64 kind, .int .u8 P8, .slice A1 np c1, .string IT, .int .u8 F8, .string DA], .int .i64 p, .int .i64 c, undef, undef, .bool true, .bool false, undef, undef, undef, undef, undef, undef, undef, undef, undef, undef, undef, undef, undef, undef, undef, undef, undef, undef, undef], []⟩) (fun g => ⟨#[.slice A m cap, undef, .int .i64 0, .int .i64 0, .bool false, .pointer (some ⟨w1.heap.size, 0, none⟩), .int .i64 (m : Int), .int .i64 0, .int .i64 p, .int .i64 c, undef, undef, .tuple #[.agg #[.int .i64 kind, .int .u8 P8, .slice A1 np c1, .string IT, .int .u8 F8, .string DA], .int .i64 (m : Int), .int .i64 0], .slice A m cap, .tuple #[.agg #[.int .i64 kind, .int .u8 P8, .slice A1 np c1, .string IT, .int .u8 F8, .string DA], .int .i64 (m : Int), .int .i64 0], .agg #[.int .i64 kind, .int .u8 P8, .slice A1 np c1, .string IT, .int .u8 F8, .string DA], .int .i64 (m : Int), .int .i64 0, .int .i64 0, .bool false, .bool false, .int .i64 (m : Int), .slice A m cap, .int .i64 (m : Int), .bool false, .bool false, .agg #[.int .i64 kind, .int .u8 P8, .slice A1 np c1, .string IT, .int .u8 F8, .string DA], .int .i64 p, .agg #[.int .i64 kind, .int .u8 P8, .slice A1 np c1, .string IT, .int .u8 F8, .string DA], .int .i64 c, .agg #[.int .i64 kind, .int .u8 P8, .slice A1 np c1, .string IT, .int .u8 F8, .string DA], .int .i64 p, .int .i64 c, (g 33), (g 34), .bool true, .bool false, undef, undef, undef, undef, undef, undef, undef, undef, undef, undef, undef, undef, undef, undef, undef, undef, undef, undef, undef], []⟩) [.agg #[.int .i64 kind, .int .u8 P8, .slice A1 np c1, .string IT, .int .u8 F8, .string DA], .int .i64 p, .int .i64 c, undef, undef, .bool true, .bool false] (by kernel_rfl) (by kernel_rfl) (by kernel_rfl) (fun g => by kernel_rfl) (by kernel_rfl) (Below.refl _ _).drew (by decide) (by kernel_rfl)
          (goes_cons (goesK_load hst (ahead_none (by decide)) rfl (by decide) (by decide) (by kernel_rfl) (fun g => by kernel_rfl) rfl (fun g => by kernel_rfl) rfl (fun g => by kernel_rfl) lk Tryz.underlying52 rfl (by kernel_rfl)) 
          (goes_cons (goesK_pure (fun _ => .int .i64 p) rfl (by decide) (by decide) (by kernel_rfl) (fun g => by kernel_rfl) rfl (fun g => by kernel_rfl) (fun g w => by kernel_rfl)) 
          (goes_cons (goesK_pure (fun _ => .int .i64 c) rfl (by decide) (by decide) (by kernel_rfl) (fun g => by kernel_rfl) rfl (fun g => by kernel_rfl) (fun g w => by kernel_rfl)) 
          (goes_cons (goesK_any hst (ahead_none (by decide)) rfl (by decide) (by decide) 0 rfl (by kernel_rfl) (fun g => by kernel_rfl) rfl (fun g => by kernel_rfl) (fun g W hW hin => two_made rfl rfl rfl W)) 
          (goes_cons (goesK_ghost (args := fun g => #[g 33]) hst (ahead_none (by decide)) rfl (by decide) (by decide) 1 rfl (by kernel_rfl) (fun g => by kernel_rfl) rfl (fun g => by kernel_rfl) (fun g w => by kernel_rfl) (fun g W hW hin => ftwo_seq (hin 0 _ rfl (by kernel_rfl)))) 
          (goes_cons (goesK_call (args := fun g => #[.agg #[.int .i64 kind, .int .u8 P8, .slice A1 np c1, .string IT, .int .u8 F8, .string DA], g 34]) hst (ahead_none (by decide)) rfl (by decide) (by decide) (by kernel_rfl) (fun g => by kernel_rfl) rfl (fun g => by kernel_rfl) (fun g w => by kernel_rfl) (fun g W hW hin => bsame (HSM.out W (hrd W hW)) (hin 1 _ rfl (by kernel_rfl)))) 
          (goes_cons (goesK_pure (fun _ => .bool false) rfl (by decide) (by decide) (by kernel_rfl) (fun g => by kernel_rfl) rfl (fun g => by kernel_rfl) (fun g w => by kernel_rfl)) goes_nil))))))) ?_
        intro g W3 hW3 _
        have hB3 := hB2.trans (hW3.mono hB2.size)
        generalize g 33 = v33
        generalize g 34 = v34
        clear lk hrd hst k1 hr3 HSM
        obtain ⟨G, hG⟩ : ∃ G, ofN p = G := ⟨_, rfl⟩
        obtain ⟨on, ob⟩ := G
        have HOF : Hid (∀ W, Calls Tryz.prog 29 #[.int .i64 p] W fun e w' => e = .returned (.tuple #[.int .i64 on, .bool ob]) ∧ Below W.heap.size W w') := Lib.hid fun W => by
          have := pof_any p W ⟨by omega, by omega⟩
          rwa [hG] at this
        by_cases ho : p < 1 ∨ 256 < p
        · have HE := Lib.hid (show R = (0, 0, false) by rw [HRB3.out, if_neg (by omega)])
          rw [of_out ho] at hG
          simp only [Prod.mk.injEq] at hG
          obtain ⟨rfl, rfl⟩ := hG
          clear HRB3 ho hp0 hp1 hc0 hc1
          go_wp2_with fail
          refine (HOF.out _).mono ?_
          rintro e w4 ⟨rfl, hb4⟩
          have hB4 := hB3.trans (hb4.mono hB3.size)
          go_wp2_with fail
          refine bodyPost_ret (v := .tuple #[.int .i64 0, .int .i64 0, .bool false]) (by simp [results, Tryz.results11, go_sem]) rfl (BkE.no HE.out hB4)
        · rw [of_in ho] at hG
          simp only [Prod.mk.injEq] at hG
          obtain ⟨h1, rfl⟩ := hG
          by_cases hz : p = 1
          · have HE := Lib.hid (show R = (0, 0, false) by rw [HRB3.out, if_neg (by omega)])
            have e0 : (on == 0) = true := by subst h1 hz; rfl
            clear HRB3 ho hp0 hp1 hc0 hc1 h1 hz
            go_wp2_with fail
            refine (HOF.out _).mono ?_
            rintro e w4 ⟨rfl, hb4⟩
            have hB4 := hB3.trans (hb4.mono hB3.size)
            go_wp2_with fail
            refine bodyPost_ret (v := .tuple #[.int .i64 0, .int .i64 0, .bool false]) (by simp [results, Tryz.results11, go_sem]) rfl (BkE.no HE.out hB4)
          · have e0 : (on == 0) = false := beq_false_of_ne (by omega)
            have HOL : Hid (∀ W, Calls Tryz.prog 30 #[.int .i64 on] W fun e w' => e = .returned (.int .i64 (oldN on)) ∧ Below W.heap.size W w') := Lib.hid fun W => pold_any on W ⟨by omega, by omega⟩
            obtain ⟨ov, hov⟩ : ∃ x, oldN on = x := ⟨_, rfl⟩
            rw [hov] at HOL
            have hq2 : ov = on % 8 := by rw [← hov]; unfold oldN; omega
            by_cases h8 : p ≤ 8
            · have HE := Lib.hid (show R = (c, on, true) by rw [HRB3.out, if_pos (by omega), h1])
              have e1 : (ov == on) = true := by rw [show ov = on by omega]; exact beq_self_eq_true on
              have e2 : (ov != on) = false := by rw [bne, e1]; rfl
              clear HRB3 ho hp0 hp1 hc0 hc1 h1 hz hov hq2 h8
              go_wp2_with fail
              refine (HOF.out _).mono ?_
              rintro e w4 ⟨rfl, hb4⟩
              have hB4 := hB3.trans (hb4.mono hB3.size)
              go_wp2_with fail
              refine (HOL.out _).mono ?_
              rintro e w5 ⟨rfl, hb5⟩
              have hB5 := hB4.trans (hb5.mono hB4.size)
              go_wp2_with fail
              refine bodyPost_ret (v := .tuple #[.int .i64 c, .int .i64 on, .bool true]) (by simp [results, Tryz.results11, go_sem]) rfl (BkE.yes HE.out hB5)
            · have HE := Lib.hid (show R = (0, 0, false) by rw [HRB3.out, if_neg (by omega)])
              have e1 : (ov == on) = false := beq_false_of_ne (by omega)
              have e2 : (ov != on) = true := by rw [bne, e1]; rfl
              clear HRB3 ho hp0 hp1 hc0 hc1 h1 hz hov hq2 h8
              go_wp2_with fail
              refine (HOF.out _).mono ?_
              rintro e w4 ⟨rfl, hb4⟩
              have hB4 := hB3.trans (hb4.mono hB3.size)
              go_wp2_with fail
              refine (HOL.out _).mono ?_
              rintro e w5 ⟨rfl, hb5⟩
              have hB5 := hB4.trans (hb5.mono hB4.size)
              go_wp2_with fail
              refine bodyPost_ret (v := .tuple #[.int .i64 0, .int .i64 0, .bool false]) (by simp [results, Tryz.results11, go_sem]) rfl (BkE.no HE.out hB5)
/-- What the layer's laws need of the program. -/
theorem othC : OthC Inv12 where
  invB := fun h hb => h.below hb
  key := fun m k w hv hk hs => okey_any m k hk hs w hv
  back := fun A n c l w hv hn hc hl hr => oback_any A n c l w hv hn hc hl hr
end Go.Proofs.YtmagokkegadmiaaGreatDoor
