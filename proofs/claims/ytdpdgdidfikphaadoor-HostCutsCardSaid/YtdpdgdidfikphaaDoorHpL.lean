/-
  Layer 5: a part of a parameter with a figure more.
-/
import Derived.Test.YtdpdgdidfikphaaDoorHpE
import Derived.Test.YtdpdgdidfikphaaDoorFigT
namespace Go.Proofs.YtdpdgdidfikphaaDoor
open Go.RowKit

theorem sat_more (n : Int) (c : UInt8) (hc : isD c = true) (h0 : -1 ≤ n) (h1 : n ≤ 65535) : min (satv (textL n ++ [c]) : Int) 65535 = rd 65535 n c := by
  have hd : 48 ≤ c.toNat ∧ c.toNat ≤ 57 := by simpa [isD] using hc
  have e : satv (textL n ++ [c]) = dstep (satv (textL n)) c := by
    have ha : ∀ x ∈ textL n ++ [c], isD x = true := fun x hx => by
      rcases List.mem_append.1 hx with h | h
      · exact text_all_isD n x h
      · rw [List.mem_singleton] at h; subst h; exact hc
    have tw : ∀ l : List UInt8, (∀ x ∈ l, isD x = true) → l.takeWhile isD = l := fun l hl => by
      induction l with
      | nil => rfl
      | cons x l ih => rw [List.takeWhile_cons_of_pos (hl x (List.mem_cons_self ..)), ih fun y hy => hl y (List.mem_cons_of_mem _ hy)]
    unfold satv
    rw [tw _ ha, tw _ (text_all_isD n), List.foldl_append]
    rfl
  have e2 : (satv (textL n) : Int) = max n 0 := by
    by_cases h : n < 0
    · rw [textL_neg n h, show max n 0 = 0 by omega]; rfl
    · have := sat_text n (by omega) (by omega) [] rfl
      rw [List.append_nil] at this
      rw [this]; omega
  rw [e]
  unfold dstep rd
  omega
set_option maxRecDepth 100000 in
set_option maxHeartbeats 8000000 in
theorem longer_any (n : Int) (c : UInt8) (w : World) (hc : isD c = true) (h0 : -1 ≤ n) (h1 : n ≤ 65535) (htab : Tab w) :
    Calls Tryd.prog 50 #[.int .i64 n, .int .u8 (c.toNat : Int)] w fun e w' => e = .returned (.int .i64 (rd 65535 n c)) ∧ Below w.heap.size w w' := by
  obtain ⟨i0, hi, hz0, hz1, hz2⟩ := byte_parts
  have HE := Lib.hid (sat_more n c hc h0 h1)
  obtain ⟨T, hT⟩ : ∃ T, textL n = T := ⟨_, rfl⟩
  have hTl : T.length ≤ 21 := by rw [← hT]; exact textL_length n (by omega)
  rw [hT] at HE
  have hms : (⟨T.toArray⟩ : ByteArray).size ≤ maxLen := by
    show T.length ≤ maxLen
    simp only [maxLen]; omega
  have h63 : T.length + 1 ≤ maxLen := by simp only [maxLen]; omega
  have hlim : (T.length + 1) * 1 ≤ 140737488355328 := by omega
  go_enter Tryd.func50, Tryd.ntmps50
  go_wp2_with fail
  refine (text_any n w (by omega) (by omega) htab).mono ?_
  rw [hT]
  clear hT
  rintro e w1 ⟨rfl, hb1⟩
  have hbs1 : w.heap.size ≤ w1.heap.size := hb1.size
  go_wp2_with first
    | ((with_reducible refine list_conv _ rfl (.tmp 9) 9 22 rfl w.heap.size 5 ⟨T.toArray⟩ ?_ Tryd.underlying9 Tryd.underlying22 Tryd.underlying5 hms hbs1 ?_); rfl; intro v3 w3 own3 hg3; have own4 := own3.alloc (.cells (bs [c]).toArray 5 (0, 0)); have rd4 := rd_lit w3 [c] (bs [c]).toArray (0, 0) rfl; have hbs3 : w.heap.size ≤ (w3.alloc (.cells (bs [c]).toArray 5 (0, 0))).heap.size := by (have := hg3.size; simp; omega))
    | (at_builtin; refine list_app _ rfl (.tmp 10) (.tmp 12) 22 rfl w.heap.size 5 i0 _ 1 1 Tryd.underlying22 hi hz0 hz1 hz2 rfl Nat.one_pos v3 T.length (bs T) rfl own4 (some ⟨w3.heap.size, 0, none⟩) 1 1 (bs [c]) rfl rfl rd4 (bs_one [c]) h63 hlim hbs3 ?_; intro v5 w5 own5 hg5; obtain ⟨A5, c5, rfl, rd5⟩ := own5.form; rw [← bs_append] at rd5)
  have hb3 : Below w.heap.size w1 w3 := (Fr.of_grown hg3).below hbs1 (fun k hk => by cases hk)
  have hb5 : Below w.heap.size (w3.alloc (.cells (bs [c]).toArray 5 (0, 0))) w5 := (Fr.of_grown hg5).below hbs3 (fun k hk => (own3.lt k hk).1)
  have hb : Below w.heap.size w w5 := ((hb1.trans hb3).alloc (Nat.le_trans hbs1 hg3.size) _).trans hb5
  have hs5 : w.heap.size ≤ w5.heap.size := hb.size
  refine (take_at A5 c5 (T ++ [c]) (T.length + 1) w5 (by simp) (by simp; omega) rd5).mono ?_
  obtain ⟨x, hx⟩ : ∃ x : Int, (satv (T ++ [c]) : Int) = x := ⟨_, rfl⟩
  rw [hx] at HE ⊢
  clear hx rd5 own5 hg5 own4 rd4 hg3 own3
  rintro e w6 ⟨rfl, hb6⟩
  go_wp2_with fail
  all_goals
    go_ret
    exact ⟨ret_i (by have := HE.out; omega), hb.trans (hb6.mono hs5)⟩
end Go.Proofs.YtdpdgdidfikphaaDoor
