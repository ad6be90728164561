/-
  Layer 3: the walk of the law WireTakes.
-/
import Derived.Test.YtmmbfidnbdckmaaDoorWirZ
import Derived.Test.YtmmbfidnbdckmaaDoorWpC
import Derived.Deep.Cut
namespace Go.Proofs.YtmmbfidnbdckmaaDoor
open Go.RowKit

theorem guess_rows {l : List UInt8} {q : Sq} {m : Nat} (h : takeS l = some (q, m)) : q.params.length ≤ 4294967296 ∧ (∀ p ∈ q.params, p.length ≤ 4294967296) := by
  obtain ⟨h1, _⟩ := takeS_some h
  obtain ⟨_, _, hpo, _⟩ := ok_parts h1
  obtain ⟨h2, h3⟩ := parOk_lens hpo
  exact ⟨by omega, fun p hp => by have := (h3 p hp).1; omega⟩

set_option maxRecDepth 100000 in
set_option maxHeartbeats 16000000 in
theorem wireTakes_walk (A : Option Addr) (l : List UInt8) (c : Nat) (hlc : l.length ≤ c) (w : World) (hr : Rd w A (bs l)) (htab : Tab w) :
    Calls Tryd.prog 4 #[.slice A l.length c] w fun e w' => e = .returned (.bool true) ∧ Below w.heap.size w w' := by
  obtain ⟨n, hn⟩ : ∃ n, l.length = n := ⟨_, rfl⟩
  have HN := Lib.hid hn
  rw [hn] at hlc ⊢
  clear hn
  go_enter Tryd.func4, Tryd.ntmps4
  go_wp2_with fail
  refine (awake_any _ htab).mono ?_
  rintro e w1 ⟨rfl, hb1⟩
  by_cases h3 : 300 < n
  · go_wp2_with fail
    go_ret
    exact ⟨rfl, hb1⟩
  · have h3 : n ≤ 300 := by omega
    cases ht : takeS l with
    | none =>
      have HT := Lib.hid ht
      clear ht
      go_wp2_with fail
      refine (ptake_no A n c l _ HT.out HN.out hlc (by omega) (htab.below hb1) (hr.below hb1)).mono ?_
      rintro e w2 ⟨rfl, hb⟩
      have hb2 := hb1.trans (hb.mono hb1.size)
      have hb3 := hb2.alloc hb2.size (.cells #[.int .i64 0, .int .u8 0, .slice none 0 0, .string ⟨#[]⟩, .int .u8 0, .string ⟨#[]⟩] 24)
      have hx3 := Blk.new w2 24 #[.int .i64 0, .int .u8 0, .slice none 0 0, .string ⟨#[]⟩, .int .u8 0, .string ⟨#[]⟩]
      clear hb hb2 hb1
      unfold zeroS
      go_upto_region 5 with (fail)
      generalize hgg : w2.heap.size = g at *
      generalize w2.alloc (.cells #[.int .i64 0, .int .u8 0, .slice none 0 0, .string ⟨#[]⟩, .int .u8 0, .string ⟨#[]⟩] 24) = W3 at *
      clear hgg
      go_wp2_with fail
      refine (rtake_any A n c l _ HN.out hlc (by omega) (hr.below hb3)).mono ?_
      rintro e w4 ⟨he, hb⟩
      rw [HT.out] at he
      obtain rfl := he
      have hx4 := hx3.below hb hx3.lt
      have hb4 := hb3.trans (hb.mono hb3.size)
      have hx5 := hx4.alloc (.cells #[.int .i64 0, .int .u8 0, .slice none 0 0, .string ⟨#[]⟩, .int .u8 0, .string ⟨#[]⟩] 24)
      have hy5 := Blk.new w4 24 #[.int .i64 0, .int .u8 0, .slice none 0 0, .string ⟨#[]⟩, .int .u8 0, .string ⟨#[]⟩]
      have hb5 := hb4.alloc hb4.size (.cells #[.int .i64 0, .int .u8 0, .slice none 0 0, .string ⟨#[]⟩, .int .u8 0, .string ⟨#[]⟩] 24)
      clear hb hb4 hx4 hx3 hb3
      unfold zeroS
      go_upto_region 6 with (fail)
      generalize hgg : w4.heap.size = g2 at *
      generalize w4.alloc (.cells #[.int .i64 0, .int .u8 0, .slice none 0 0, .string ⟨#[]⟩, .int .u8 0, .string ⟨#[]⟩] 24) = W5 at *
      clear hgg
      obtain ⟨a0, a1, a2, a3, a4, a5⟩ := Blk.cells6 hx5
      obtain ⟨d0, d1, d2, d3, d4, d5⟩ := Blk.cells6 hy5
      go_wp2_with fail
      refine (rsame_any ⟨0, 0, [], [], 0, []⟩ ⟨0, 0, [], [], 0, []⟩ none none 0 0 true _ ((sameB_iff _ _).2 rfl) (by simp) (by simp) (by simp) (by simp) (RdP.nil _ _) (RdP.nil _ _)).mono ?_
      rintro e w6 ⟨rfl, hb⟩
      have hb6 := hb5.trans (hb.mono hb5.size)
      go_wp2_with fail
      go_ret
      exact ⟨rfl, hb6⟩
    | some qm =>
      obtain ⟨q, m⟩ := qm
      have HT := Lib.hid ht
      obtain ⟨p1, p2⟩ := guess_rows ht
      have HP2 := Lib.hid p2
      clear ht p2
      go_wp2_with fail
      refine (ptake_yes A n c l q m _ HT.out HN.out hlc (by omega) (htab.below hb1) (hr.below hb1)).mono ?_
      rintro e w2 ⟨⟨A2, c2, rfl, hr2⟩, hb⟩
      have hb2 := hb1.trans (hb.mono hb1.size)
      have hb3 := hb2.alloc hb2.size (.cells (seqC q A2 c2) 24)
      have hx3 := Blk.new w2 24 (seqC q A2 c2)
      have hr3 := hr2.alloc (.cells (seqC q A2 c2) 24)
      clear hb hb2 hb1 hr2
      unfold seqC at hb3 hx3 hr3
      unfold sqV
      go_upto_region 5 with (fail)
      generalize hgg : w2.heap.size = g at *
      generalize w2.alloc (.cells #[.int .i64 q.kind, .int .u8 (q.priv.toNat : Int), .slice A2 q.params.length c2, .string ⟨q.inter.toArray⟩, .int .u8 (q.final.toNat : Int), .string ⟨q.data.toArray⟩] 24) = W3 at *
      clear hgg
      go_wp2_with fail
      refine (rtake_any A n c l _ HN.out hlc (by omega) (hr.below hb3)).mono ?_
      rintro e w4 ⟨he, hb⟩
      rw [HT.out] at he
      obtain ⟨A4, c4, rfl, hr4⟩ := he
      have hx4 := hx3.below hb hx3.lt
      have hr34 := hr3.below hb
      have hb4 := hb3.trans (hb.mono hb3.size)
      have hx5 := hx4.alloc (.cells (seqC q A4 c4) 24)
      have hy5 := Blk.new w4 24 (seqC q A4 c4)
      have hb5 := hb4.alloc hb4.size (.cells (seqC q A4 c4) 24)
      have hr35 := hr34.alloc (.cells (seqC q A4 c4) 24)
      have hr5 := hr4.alloc (.cells (seqC q A4 c4) 24)
      clear hb hb4 hx4 hx3 hb3 hr3 hr34 hr4
      unfold seqC at hb5 hx5 hy5 hr5 hr35
      unfold sqV
      go_upto_region 6 with (fail)
      generalize hgg : w4.heap.size = g2 at *
      generalize w4.alloc (.cells #[.int .i64 q.kind, .int .u8 (q.priv.toNat : Int), .slice A4 q.params.length c4, .string ⟨q.inter.toArray⟩, .int .u8 (q.final.toNat : Int), .string ⟨q.data.toArray⟩] 24) = W5 at *
      clear hgg
      obtain ⟨a0, a1, a2, a3, a4, a5⟩ := Blk.cells6 hx5
      obtain ⟨d0, d1, d2, d3, d4, d5⟩ := Blk.cells6 hy5
      go_wp2_with fail
      refine (rsame_any q q A2 A4 c2 c4 true _ ((sameB_iff _ _).2 rfl) p1 p1 HP2.out HP2.out hr35 hr5).mono ?_
      rintro e w6 ⟨rfl, hb⟩
      have hb6 := hb5.trans (hb.mono hb5.size)
      go_wp2_with fail
      go_ret
      exact ⟨rfl, hb6⟩
end Go.Proofs.YtmmbfidnbdckmaaDoor
