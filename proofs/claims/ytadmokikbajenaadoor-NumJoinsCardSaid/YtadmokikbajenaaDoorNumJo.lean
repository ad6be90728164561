/-
  Layer 1's law of bytes one behind the other, walked.
-/
import Derived.Test.YtadmokikbajenaaDoorNumW
import Derived.Test.YtadmokikbajenaaDoorNumM
import Derived.Test.YtadmokikbajenaaDoorOwn
import Derived.Test.YtadmokikbajenaaDoorNumBy
namespace Go.Proofs.YtadmokikbajenaaDoor
open Go.RowKit

theorem str_cat (a b c : List UInt8) (h : a ++ b = c) : (⟨a.toArray⟩ : ByteArray) ++ (⟨b.toArray⟩ : ByteArray) = ⟨c.toArray⟩ := by
  subst h
  apply ByteArray.ext
  simp [ByteArray.data_append]

set_option maxHeartbeats 2000000 in
theorem numJoins_walk (A : Option Addr) (a : List UInt8) (c : Nat) (za : a.length ≤ 140737488351232) (B : Option Addr) (b : List UInt8) (d : Nat) (zb : b.length ≤ 140737488351232) (odd : Bool) (w : World) (hra : Rd w A (bs a)) (hrb : Rd w B (bs b)) (htab : Tab w) :
    Calls Tryd.prog 8 #[.slice A a.length c, .slice B b.length d, .bool odd] w fun e w' => e = .returned (.bool true) ∧ Below w.heap.size w w' := by
  obtain ⟨i0, hi, hz0, hz1, hz2⟩ := info_parts Tryd.u8info
  by_cases hlen : 100 < a.length + b.length
  · go_enter Tryd.func8, Tryd.ntmps8
    go_wp2_with fail
    refine (awake_any _ htab).mono ?_
    rintro e w1 ⟨rfl, hb1⟩
    go_wp2_with fail
    go_ret
    exact ⟨rfl, hb1⟩
  · have hl : a.length + b.length ≤ 100 := by omega
    clear hlen za zb
    have h1 : 0 + a.length ≤ maxLen := by simp only [maxLen]; omega
    have h2 : (0 + a.length) * 1 ≤ 140737488355328 := by omega
    have h3 : 0 + a.length + b.length ≤ maxLen := by simp only [maxLen]; omega
    have h4 : (0 + a.length + b.length) * 1 ≤ 140737488355328 := by omega
    have oa := bs_one a
    have ob := bs_one b
    have la := Lib.hid (hexL_length a)
    have lb := Lib.hid (hexL_length b)
    have ha2 : (hexL a).length ≤ 200 := by rw [la.out]; omega
    have hb2' : (hexL b).length ≤ 200 := by rw [lb.out]; omega
    have eS : (⟨(hexL a).toArray⟩ : ByteArray) ++ (⟨(hexL b).toArray⟩ : ByteArray) = ⟨(hexL (a ++ b)).toArray⟩ := str_cat _ _ _ (hexL_append a b).symm
    have eT : (⟨(hexL (a ++ b)).toArray⟩ : ByteArray) ++ (⟨#[103, 48]⟩ : ByteArray) = ⟨(hexL (a ++ b) ++ [103, 48]).toArray⟩ := str_cat _ [103, 48] _ rfl
    have hab : (hexL (a ++ b)).length ≤ 400 := by rw [hexL_length, List.length_append]; omega
    go_enter Tryd.func8, Tryd.ntmps8
    go_wp2_with fail
    refine (awake_any _ htab).mono ?_
    rintro e w1 ⟨rfl, hb1⟩
    go_wp2_with fail
    refine (hex_any A c a _ (by omega) (hra.below hb1)).mono ?_
    rintro e w2 ⟨rfl, hb2⟩
    have hb2 : Below w.heap.size w w2 := hb1.trans (hb2.mono hb1.size)
    go_wp2_with fail
    refine (hex_any B d b _ (by omega) (hrb.below hb2)).mono ?_
    rintro e w3 ⟨rfl, hb3⟩
    have hb3 : Below w.heap.size w w3 := hb2.trans (hb3.mono hb2.size)
    have hs3 := hb3.size
    have hown3 : Own (w3.alloc (.cells #[] 5)) w.heap.size 5 1 (.slice (some ⟨w3.heap.size, 0, none⟩) 0 0) 0 [] := Own.of (World.ownsRow_made w3 #[] 0 hs3 (by decide) rfl)
    have hra3 := (hra.below hb3).alloc (.cells #[] 5)
    have hb3a : Below w.heap.size w (w3.alloc (.cells #[] 5)) := hb3.alloc hs3 _
    have hs3a := hb3a.size
    go_wp2_with (first
      | (at_builtin; refine list_app _ rfl (.tmp 27) (.tmp 28) 22 rfl w.heap.size 5 i0 _ 1 1 Tryd.underlying22 hi hz0 hz1 hz2 rfl Nat.one_pos (.slice (some ⟨w3.heap.size, 0, none⟩) 0 0) 0 [] rfl hown3 A a.length c (bs a) rfl (by simp [bs]) hra3 oa h1 h2 hs3a ?_; intro v4 w4 hown4 hg4
         have hb4 : Below w.heap.size w w4 := hb3a.grown hg4 hs3a (fun g hg => (hown3.lt g hg).1)
         have hrb4 := hrb.below hb4
         have hs4 := hb4.size)
      | (at_builtin; refine list_app _ rfl (.tmp 29) (.tmp 30) 22 rfl w.heap.size 5 i0 _ 1 1 Tryd.underlying22 hi hz0 hz1 hz2 rfl Nat.one_pos v4 _ _ rfl hown4 B b.length d (bs b) rfl (by simp [bs]) hrb4 ob h3 h4 hs4 ?_; intro v5 w5 hown5 hg5))
    have hb5 : Below w.heap.size w w5 := hb4.grown hg5 hs4 (fun g hg => (hown4.lt g hg).1)
    obtain ⟨A5, c5, rfl, hr5⟩ := hown5.form
    have hr5 : Rd w5 A5 (bs (a ++ b)) := by rw [bs_append]; simpa using hr5
    clear hown3 hown4 hown5 hg4 hg5 hra3 hrb4 h1 h2 h3 h4 hra hrb
    go_wp2_with fail
    refine (unhex_any _ _ ?_).mono ?_
    · rw [str_size2]; omega
    rintro e w6 g
    obtain ⟨A6, c6, rfl, hr6, hb6⟩ := got_yes (unhex_hex (a ++ b)) g
    have hr5 := hr5.below hb6
    have hb6 : Below w.heap.size w w6 := hb5.trans (hb6.mono hb5.size)
    clear g
    cases odd with
    | true =>
      go_wp2_with fail
      refine (unhex_any _ _ ?_).mono ?_
      · rw [str_size2, List.length_append]; simp only [List.length_cons, List.length_nil]; omega
      rintro e w7 g
      obtain ⟨rfl, hb7⟩ := got_no (unhex_bad (hexL (a ++ b)) 103 48 (by decide)) g
      have hr5 := hr5.below hb7
      have hb7 : Below w.heap.size w w7 := hb6.trans (hb7.mono hb6.size)
      clear g
      go_wp2_with fail
      refine (hex_at A5 c5 (a ++ b) _ _ (by simp) (by rw [List.length_append]; omega) hr5).mono ?_
      rintro e w8 ⟨rfl, hb8⟩
      have hb8 : Below w.heap.size w w8 := hb7.trans (hb8.mono hb7.size)
      go_wp2_with fail
      go_ret
      exact ⟨rfl, hb8⟩
    | false =>
      go_wp2_with fail
      refine (hex_at A5 c5 (a ++ b) _ _ (by simp) (by rw [List.length_append]; omega) hr5).mono ?_
      rintro e w8 ⟨rfl, hb8⟩
      have hr5 := hr5.below hb8
      have hr6 := hr6.below hb8
      have hb8 : Below w.heap.size w w8 := hb6.trans (hb8.mono hb6.size)
      have hcv := conv_str (P := Tryd.prog) Tryd.underlying22 Tryd.underlying5 (c := c5) (n := a.length + b.length) (List.length_append) hr5 _ Tryd.underlying9
      have hcw := conv_str (P := Tryd.prog) Tryd.underlying22 Tryd.underlying5 (c := c6) (n := a.length + b.length) (List.length_append) hr6 _ Tryd.underlying9
      go_wp2_with fail
      go_ret
      exact ⟨rfl, hb8⟩
end Go.Proofs.YtadmokikbajenaaDoor
