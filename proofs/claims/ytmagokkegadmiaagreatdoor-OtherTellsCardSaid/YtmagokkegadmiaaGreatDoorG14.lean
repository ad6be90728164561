/-
  Layer 3, walked: the document's May. Layer 3, walked: the program's Num.
-/
import Derived.Test.YtmagokkegadmiaaGreatDoorG10
import Derived.Test.YtmagokkegadmiaaGreatDoorG12
import Derived.Test.YtmagokkegadmiaaGreatDoorG13
import Derived.Deep.Cut
namespace Go.Proofs.YtmagokkegadmiaaGreatDoor
open Go.RowKit

set_option maxRecDepth 100000 in
set_option maxHeartbeats 8000000 in
theorem may_wide (s : Sq) (A : Option Addr) (c : Nat) (m : Int) (w : World) (hm : mayS s = m) (hp : s.params.length ≤ 4294967296) (hi : s.inter.length ≤ 9223372036854775807) (hr : RdP w A s.params) :
    Calls Tryz.prog 52 #[sqV s A c] w fun e w' => e = .returned (.int .i64 m) ∧ Below w.heap.size w w' := by
  by_cases hd : 4096 < s.data.length
  · obtain rfl : 4 = m := (may_4 hd).symm.trans hm
    clear hm
    unfold sqV
    go_enter Tryz.func52, Tryz.ntmps52
    go_wp2_with fail
    go_ret
    exact ⟨rfl, (Below.refl _ _).alloc (Nat.le_refl _) _⟩
  · have hd4 : s.data.length ≤ 4096 := by omega
    clear hd
    have hB : Below w.heap.size w (w.alloc (.cells #[.int .i64 s.kind, .int .u8 (s.priv.toNat : Int), .slice A s.params.length c, .string ⟨s.inter.toArray⟩, .int .u8 (s.final.toNat : Int), .string ⟨s.data.toArray⟩] 52)) := (Below.refl _ _).alloc (Nat.le_refl _) _
    cases h1 : privOk s.priv with
    | false =>
      obtain rfl : 1 = m := (may_1 hd4 (by unfold okS; rw [h1]; rfl)).symm.trans hm
      clear hm
      simp only [privOk, Bool.or_eq_false_iff, decide_eq_false_iff_not] at h1
      obtain ⟨p0, p1⟩ := h1
      have p2 := (btw_no _ _ _).1 p1
      have hn : s.priv.toNat ≠ 0 := fun e => p0 (UInt8.toNat_inj.1 e)
      have t1 : ((s.priv.toNat : Int) == 0) = false := beq_false_of_ne (by omega)
      have t2 : ((s.priv.toNat : Int) != 0) = true := by simp [bne, t1]
      clear p0 p1
      by_cases p3 : s.priv.toNat < 60
      all_goals
        unfold sqV
        go_enter Tryz.func52, Tryz.ntmps52
        go_wp2_with fail
        go_ret
        exact ⟨rfl, hB⟩
    | true =>
      have V1 := Lib.hid h1
      have key : ((s.priv.toNat : Int) == 0) = true ∧ ((s.priv.toNat : Int) != 0) = false ∨ ((s.priv.toNat : Int) == 0) = false ∧ ((s.priv.toNat : Int) != 0) = true ∧ 60 ≤ s.priv.toNat ∧ s.priv.toNat ≤ 63 := by
        simp only [privOk, Bool.or_eq_true, decide_eq_true_eq] at h1
        rcases h1 with h1 | h1
        · left; rw [h1]; exact ⟨rfl, rfl⟩
        · right
          have := (btw_iff _ _ _).1 h1
          have t1 : ((s.priv.toNat : Int) == 0) = false := beq_false_of_ne (by omega)
          exact ⟨t1, by simp [bne, t1], this⟩
      clear h1
      rcases key with ⟨t1, t2⟩ | ⟨t1, t2, p1, p2⟩
      all_goals
        cases h2 : parOk s.params with
        | false =>
          have V2 := Lib.hid h2
          clear h2
          obtain rfl : 1 = m := (may_1 hd4 (by simp [okS, V1.out, V2.out])).symm.trans hm
          clear hm
          unfold sqV
          go_enter Tryz.func52, Tryz.ntmps52
          go_wp2_with fail
          refine (params_any A c s.params false _ V2.out hp (hr.below hB)).mono ?_
          rintro e w1 ⟨rfl, rfl⟩
          go_wp2_with fail
          go_ret
          exact ⟨rfl, hB⟩
        | true =>
          have V2 := Lib.hid h2
          clear h2
          by_cases h3 : 2 < s.inter.length
          · have V3 := Lib.hid (show ¬ s.inter.length ≤ 2 by omega)
            obtain rfl : 1 = m := (may_1 hd4 (by simp [okS, V1.out, V2.out, V3.out])).symm.trans hm
            clear hm
            unfold sqV
            go_enter Tryz.func52, Tryz.ntmps52
            go_wp2_with fail
            refine (params_any A c s.params true _ V2.out hp (hr.below hB)).mono ?_
            rintro e w1 ⟨rfl, rfl⟩
            go_wp2_with fail
            go_ret
            exact ⟨rfl, hB⟩
          · have h3 : s.inter.length ≤ 2 := by omega
            have V3 := Lib.hid h3
            cases h4 : s.inter.all (btw 32 47) with
            | false =>
              have V4 := Lib.hid h4
              clear h4
              obtain rfl : 1 = m := (may_1 hd4 (by simp [okS, V1.out, V2.out, V3.out, V4.out])).symm.trans hm
              clear hm
              unfold sqV
              go_enter Tryz.func52, Tryz.ntmps52
              go_wp2_with fail
              refine (params_any A c s.params true _ V2.out hp (hr.below hB)).mono ?_
              rintro e w1 ⟨rfl, rfl⟩
              go_wp2_with fail
              refine (within_any s.inter 32 47 false _ (by omega) V4.out).mono ?_
              rintro e w1 ⟨rfl, rfl⟩
              go_wp2_with fail
              go_ret
              exact ⟨rfl, hB⟩
            | true =>
              have V4 := Lib.hid h4
              clear h4
              cases h5 : s.data.all (btw 32 126) with
              | false =>
                have V5 := Lib.hid h5
                clear h5
                obtain rfl : 1 = m := (may_1 hd4 (by simp [okS, V1.out, V2.out, V3.out, V4.out, V5.out])).symm.trans hm
                clear hm
                unfold sqV
                go_enter Tryz.func52, Tryz.ntmps52
                go_wp2_with fail
                refine (params_any A c s.params true _ V2.out hp (hr.below hB)).mono ?_
                rintro e w1 ⟨rfl, rfl⟩
                go_wp2_with fail
                refine (within_any s.inter 32 47 true _ (by omega) V4.out).mono ?_
                rintro e w1 ⟨rfl, rfl⟩
                go_wp2_with fail
                refine (within_any s.data 32 126 false _ (by omega) V5.out).mono ?_
                rintro e w1 ⟨rfl, rfl⟩
                go_wp2_with fail
                go_ret
                exact ⟨rfl, hB⟩
              | true =>
                have V5 := Lib.hid h5
                clear h5
                cases h6 : lastOk s with
                | false =>
                  have V6 := Lib.hid h6
                  clear h6
                  obtain rfl : 1 = m := (may_1 hd4 (by simp [okS, V1.out, V2.out, V3.out, V4.out, V5.out, V6.out])).symm.trans hm
                  clear hm
                  unfold sqV
                  go_enter Tryz.func52, Tryz.ntmps52
                  go_wp2_with fail
                  refine (params_any A c s.params true _ V2.out hp (hr.below hB)).mono ?_
                  rintro e w1 ⟨rfl, rfl⟩
                  go_wp2_with fail
                  refine (within_any s.inter 32 47 true _ (by omega) V4.out).mono ?_
                  rintro e w1 ⟨rfl, rfl⟩
                  go_wp2_with fail
                  refine (within_any s.data 32 126 true _ (by omega) V5.out).mono ?_
                  rintro e w1 ⟨rfl, rfl⟩
                  go_wp2_with fail
                  refine (last_any s A c false _ V6.out).mono ?_
                  rintro e w2 ⟨rfl, hb2⟩
                  obtain ⟨hbc, hbf⟩ := below_cells hb2
                  have hb2' := hB.trans (hb2.mono hB.size)
                  go_wp2_with fail
                  go_ret
                  exact ⟨rfl, hb2'⟩
                | true =>
                  have V6 := Lib.hid h6
                  clear h6
                  cases h7 : bareOk s with
                  | false =>
                    have V7 := Lib.hid h7
                    clear h7
                    obtain rfl : 1 = m := (may_1 hd4 (by simp [okS, V1.out, V2.out, V3.out, V4.out, V5.out, V6.out, V7.out])).symm.trans hm
                    clear hm
                    unfold sqV
                    go_enter Tryz.func52, Tryz.ntmps52
                    go_wp2_with fail
                    refine (params_any A c s.params true _ V2.out hp (hr.below hB)).mono ?_
                    rintro e w1 ⟨rfl, rfl⟩
                    go_wp2_with fail
                    refine (within_any s.inter 32 47 true _ (by omega) V4.out).mono ?_
                    rintro e w1 ⟨rfl, rfl⟩
                    go_wp2_with fail
                    refine (within_any s.data 32 126 true _ (by omega) V5.out).mono ?_
                    rintro e w1 ⟨rfl, rfl⟩
                    go_wp2_with fail
                    refine (last_any s A c true _ V6.out).mono ?_
                    rintro e w2 ⟨rfl, hb2⟩
                    obtain ⟨hbc, hbf⟩ := below_cells hb2
                    have hb2' := hB.trans (hb2.mono hB.size)
                    go_wp2_with fail
                    refine (bare_any s A c false _ V7.out).mono ?_
                    rintro e w3 ⟨rfl, hb3⟩
                    have hb3' := hb2'.trans (hb3.mono hb2'.size)
                    go_wp2_with fail
                    go_ret
                    exact ⟨rfl, hb3'⟩
                  | true =>
                    have V7 := Lib.hid h7
                    clear h7
                    obtain rfl : 0 = m := (may_0 hd4 (by simp [okS, V1.out, V2.out, V3.out, V4.out, V5.out, V6.out, V7.out])).symm.trans hm
                    clear hm
                    unfold sqV
                    go_enter Tryz.func52, Tryz.ntmps52
                    go_wp2_with fail
                    refine (params_any A c s.params true _ V2.out hp (hr.below hB)).mono ?_
                    rintro e w1 ⟨rfl, rfl⟩
                    go_wp2_with fail
                    refine (within_any s.inter 32 47 true _ (by omega) V4.out).mono ?_
                    rintro e w1 ⟨rfl, rfl⟩
                    go_wp2_with fail
                    refine (within_any s.data 32 126 true _ (by omega) V5.out).mono ?_
                    rintro e w1 ⟨rfl, rfl⟩
                    go_wp2_with fail
                    refine (last_any s A c true _ V6.out).mono ?_
                    rintro e w2 ⟨rfl, hb2⟩
                    obtain ⟨hbc, hbf⟩ := below_cells hb2
                    have hb2' := hB.trans (hb2.mono hB.size)
                    go_wp2_with fail
                    refine (bare_any s A c true _ V7.out).mono ?_
                    rintro e w3 ⟨rfl, hb3⟩
                    have hb3' := hb2'.trans (hb3.mono hb2'.size)
                    go_wp2_with fail
                    go_ret
                    exact ⟨rfl, hb3'⟩
theorem may_any (s : Sq) (A : Option Addr) (c : Nat) (m : Int) (w : World) (hm : mayS s = m) (hp : s.params.length ≤ 4294967296) (hi : s.inter.length ≤ 4294967296) (hr : RdP w A s.params) :
    Calls Tryz.prog 52 #[sqV s A c] w fun e w' => e = .returned (.int .i64 m) ∧ Below w.heap.size w w' :=
  may_wide s A c m w hm hp (by omega) hr
end Go.Proofs.YtmagokkegadmiaaGreatDoor
namespace Go.Proofs.YtmagokkegadmiaaGreatDoor
open Go.RowKit

/-- A sequence of numbers. -/
def numS (a b : UInt8) (l : List Int) : Sq := ⟨1, a, l.map fun n => [n], [], b, []⟩
/-- What Num tells. -/
def NumP (a b : UInt8) (l : List Int) (w : World) (e : Ending) (w' : World) : Prop :=
  (∃ A c, e = .returned (sqV (numS a b l) A c) ∧ RdP w' A (numS a b l).params) ∧ Below w.heap.size w w'
/-- The same, with its blocks' kinds: it outlives stores into blocks of other kinds. -/
def NumPN (a b : UInt8) (l : List Int) (w : World) (e : Ending) (w' : World) : Prop :=
  (∃ A c g, e = .returned (sqV (numS a b l) A c) ∧ RdPN g w' A (numS a b l).params) ∧ Below w.heap.size w w'

set_option maxRecDepth 100000 in
set_option maxHeartbeats 8000000 in
theorem num_anyN (a b : UInt8) (A : Option Addr) (n c : Nat) (l : List Int) (w : World) (hn : l.length = n) (hl : n ≤ 4294967296) (hr : Rd w A (is_ l)) :
    Calls Tryz.prog 45 #[.int .u8 (a.toNat : Int), .int .u8 (b.toNat : Int), .slice A n c] w (NumPN a b l w) := by
  obtain ⟨j0, hj, hy0, hy1, hy2⟩ : ∃ i, Tryz.prog.info? 56 = some i ∧ i.zero = some (.slice none 0 0) ∧ i.size = 1 ∧ i.bytes = 24 := ⟨_, rfl, rfl, rfl, rfl⟩
  have HN := Lib.hid hn
  clear hn
  go_enter Tryz.func45, Tryz.ntmps45
  go_wp2_with fail
  have hb0 : Below w.heap.size w ((w.alloc (.cells #[.int .i64 0, .int .u8 0, .slice none 0 0, .string ⟨#[]⟩, .int .u8 0, .string ⟨#[]⟩] 52)).alloc (.cells #[.int .i64 1, .int .u8 (a.toNat : Int), .slice none 0 0, .string ⟨#[]⟩, .int .u8 (b.toNat : Int), .string ⟨#[]⟩] 52)) := ((Below.refl _ w).alloc (Nat.le_refl _) _).alloc (by simp) _
  have hz0 : Blk ((w.alloc (.cells #[.int .i64 0, .int .u8 0, .slice none 0 0, .string ⟨#[]⟩, .int .u8 0, .string ⟨#[]⟩] 52)).alloc (.cells #[.int .i64 1, .int .u8 (a.toNat : Int), .slice none 0 0, .string ⟨#[]⟩, .int .u8 (b.toNat : Int), .string ⟨#[]⟩] 52)) w.heap.size 52 #[.int .i64 0, .int .u8 0, .slice none 0 0, .string ⟨#[]⟩, .int .u8 0, .string ⟨#[]⟩] := (Blk.new w _ _).alloc _
  have hs0 := Blk.new (w.alloc (.cells #[.int .i64 0, .int .u8 0, .slice none 0 0, .string ⟨#[]⟩, .int .u8 0, .string ⟨#[]⟩] 52)) 52 #[.int .i64 1, .int .u8 (a.toNat : Int), .slice none 0 0, .string ⟨#[]⟩, .int .u8 (b.toNat : Int), .string ⟨#[]⟩]
  rw [World.size_alloc] at hs0
  have hsz : ((w.alloc (.cells #[.int .i64 0, .int .u8 0, .slice none 0 0, .string ⟨#[]⟩, .int .u8 0, .string ⟨#[]⟩] 52)).alloc (.cells #[.int .i64 1, .int .u8 (a.toNat : Int), .slice none 0 0, .string ⟨#[]⟩, .int .u8 (b.toNat : Int), .string ⟨#[]⟩] 52)).heap.size = w.heap.size + 2 := by simp
  have HSZ := Lib.hid hsz
  clear hsz
  generalize ((w.alloc (.cells #[.int .i64 0, .int .u8 0, .slice none 0 0, .string ⟨#[]⟩, .int .u8 0, .string ⟨#[]⟩] 52)).alloc (.cells #[.int .i64 1, .int .u8 (a.toNat : Int), .slice none 0 0, .string ⟨#[]⟩, .int .u8 (b.toNat : Int), .string ⟨#[]⟩] 52)) = W0 at *
  have hg1 : w.heap.size < w.heap.size + 1 := Nat.lt_succ_self _
  have hg2 : w.heap.size + 1 < W0.heap.size := hs0.lt
  generalize w.heap.size + 1 = g at *
  go_loopw [15] (fun i wr => ∃ (k : Nat) (v : Value) (xs : List Value), k ≤ n ∧ i = .int .i64 k ∧ Own wr W0.heap.size 56 1 v k xs ∧ (∃ B2, B2 ≤ wr.heap.size ∧ Rows wr B2 3 xs ((l.take k).map fun n => [n])) ∧ Blk wr w.heap.size 52 #[.int .i64 0, .int .u8 0, .slice none 0 0, .string ⟨#[]⟩, .int .u8 0, .string ⟨#[]⟩] ∧ Blk wr g 52 #[.int .i64 1, .int .u8 (a.toNat : Int), v, .string ⟨#[]⟩, .int .u8 (b.toNat : Int), .string ⟨#[]⟩] ∧ Below w.heap.size w wr ∧ W0.heap.size ≤ wr.heap.size) (fun i _ => n - (intOf i).toNat)
  case atStart => exact ⟨0, _, [], Nat.zero_le _, rfl, Own.nil_ _ _ _ _, ⟨0, Nat.zero_le _, by rfl, fun k hk => absurd hk (by simp)⟩, hz0, hs0, hb0, Nat.le_refl _⟩
  case round =>
    obtain ⟨k, v, xs, hk, rfl, ho, ⟨B2, hB2, hrs⟩, hz, hs, hbw, hW⟩ := hrel
    clear hz0 hs0 hb0
    obtain ⟨c0, c1, c2, c3, c4, c5⟩ := Blk.cells6 hs
    have fz2 := hs.frozen 2
    by_cases hlt : k < n
    · have hkl : k < l.length := by rw [HN.out]; exact hlt
      obtain ⟨bb, oo, hA, hbb, hcc⟩ := (hr.below hbw).int_at (by rw [HN.out]; omega)
      cases hA
      have hck := hcc k hkl
      obtain ⟨x, hx⟩ : ∃ x, l[k]'hkl = x := ⟨_, rfl⟩
      rw [hx] at hck
      have HX := Lib.hid (show l.take (k + 1) = l.take k ++ [x] by rw [List.take_succ_eq_append_getElem hkl, hx])
      clear hx hcc
      obtain ⟨Av, cv, rfl, _⟩ := ho.form
      have hown1 := (ho.alloc (.cells #[.int .i64 x] 3)).alloc (.cells #[.slice (some ⟨wr.heap.size, 0, none⟩) 1 1] 56)
      have hrd1 : Rd ((wr.alloc (.cells #[.int .i64 x] 3)).alloc (.cells #[.slice (some ⟨wr.heap.size, 0, none⟩) 1 1] 56)) (some ⟨wr.heap.size + 1, 0, none⟩) [.slice (some ⟨wr.heap.size, 0, none⟩) 1 1] := by
        have := Rd.block (xs := [.slice (some ⟨wr.heap.size, 0, none⟩) 1 1]) (heap_alloc_new (wr.alloc (.cells #[.int .i64 x] 3)) (.cells #[.slice (some ⟨wr.heap.size, 0, none⟩) 1 1] 56)) (by simp)
        rwa [World.size_alloc] at this
      have hin : RowI (wr.alloc (.cells #[.int .i64 x] 3)) (wr.heap.size + 1) 3 (some ⟨wr.heap.size, 0, none⟩) [x] := by
        obtain ⟨_, A', c', h1, h2⟩ := own_row (p := [x]) (own_lit (wr.alloc (.cells #[.int .i64 x] 3)) 0 3 wr.heap.size (.int .i64 x) (Nat.zero_le _) (heap_alloc_new wr _))
        cases h1
        rwa [World.size_alloc] at h2
      have hrs1 := ((hrs.keep (Nat.le_refl B2) (fun q hq _ => Below.heap_alloc wr (.cells #[.int .i64 x] 3) q (by omega))).keep (B' := wr.heap.size + 1) (by omega) (fun _ _ _ => rfl)).snoc2 (n := 1) rfl (c := 1) hin
      have hrs2 := hrs1.keep (Nat.le_refl _) (fun q hq _ => Below.heap_alloc (wr.alloc (.cells #[.int .i64 x] 3)) (.cells #[.slice (some ⟨wr.heap.size, 0, none⟩) 1 1] 56) q (by simp; omega))
      have hz2 := (hz.alloc (.cells #[.int .i64 x] 3)).alloc (.cells #[.slice (some ⟨wr.heap.size, 0, none⟩) 1 1] 56)
      have hs2 := (hs.alloc (.cells #[.int .i64 x] 3)).alloc (.cells #[.slice (some ⟨wr.heap.size, 0, none⟩) 1 1] 56)
      have hb2 : Below w.heap.size w ((wr.alloc (.cells #[.int .i64 x] 3)).alloc (.cells #[.slice (some ⟨wr.heap.size, 0, none⟩) 1 1] 56)) := (hbw.alloc hbw.size _).alloc (Nat.le_trans hbw.size (by simp)) _
      have h63 : k + 1 ≤ maxLen := by simp only [maxLen]; omega
      have hlim : (k + 1) * 24 ≤ 140737488355328 := by omega
      have hbs : W0.heap.size ≤ ((wr.alloc (.cells #[.int .i64 x] 3)).alloc (.cells #[.slice (some ⟨wr.heap.size, 0, none⟩) 1 1] 56)).heap.size := by simp; omega
      have hsz2 : wr.heap.size + 1 ≤ ((wr.alloc (.cells #[.int .i64 x] 3)).alloc (.cells #[.slice (some ⟨wr.heap.size, 0, none⟩) 1 1] 56)).heap.size := by simp
      clear hrs hrs1 hin ho
      go_wp2_with (first | (at_builtin; refine list_app _ rfl (.tmp 20) (.tmp 23) 50 rfl W0.heap.size 56 j0 _ 1 24 Tryz.underlying50 hj hy0 hy1 hy2 rfl Nat.one_pos _ _ _ rfl hown1 _ 1 1 [.slice (some ⟨wr.heap.size, 0, none⟩) 1 1] rfl rfl hrd1 (sl_one _ _ _) h63 hlim hbs ?_; intro v5 w5 hown5 hg5; obtain ⟨A5, c5, rfl, hf5⟩ := hown5.form; clear hf5; have hs5 := hs2.grown hg5 (hown1.no_cells hs2 (by decide)); have fz5 := hs5.frozen 2; obtain ⟨e0, e1, e2, e3, e4, e5⟩ := Blk.cells6 hs5))
      have hz5 := hz2.grown hg5 (hown1.no_cells hz2 (by decide))
      have hrs5 := hrs2.keep (B' := wr.heap.size + 1) (Nat.le_refl _) (keep_out hown1 (by decide) hg5)
      have hb5 : Below w.heap.size w w5 := hb2.grown hg5 (Nat.le_trans hbw.size (by simp; omega)) (fun g hg => by have := (hown1.lt g hg).1; have := HSZ.out; omega)
      have hsz5 : wr.heap.size + 1 ≤ w5.heap.size := Nat.le_trans hsz2 hg5.size
      have hgs := grown_setCell g 2 (.slice A5 (k + 1) c5) w5
      clear hg5 hown1 hrd1 hz2 hs2 hb2 h63 hlim hbs hsz2 hrs2
      go_wp2_with fail
      go_roundw
      case rel =>
        refine ⟨k + 1, _, xs ++ [.slice (some ⟨wr.heap.size, 0, none⟩) 1 1], by omega, by go_num, hown5.kept hgs (.inr (hown5.no_cells hs5 (by decide))), ⟨wr.heap.size + 1, by simp; exact hsz5, ?_⟩, hz5.far (by show w.heap.size ≠ g; omega) _, hs5.set 2 _, hb5.setCell (p := ⟨g, 2, none⟩) (Nat.le_of_lt hg1) _, Nat.le_trans hW (Nat.le_trans (Nat.le_succ _) (by simpa using hsz5))⟩
        rw [HX.out, List.map_append]
        exact hrs5.keep (Nat.le_refl _) (fun q _ ⟨cur, fz, hh⟩ => hgs.block q (Array.getElem?_eq_some_iff.1 hh).1 (fun e => tag_ne hs5 hh (by decide) (by injection e)))
      case measure => simp [intOf]; omega
    · obtain rfl : k = n := by omega
      have HT := Lib.hid (show l.take k = l from List.take_of_length_le (by rw [HN.out]; omega))
      obtain ⟨A3, c3, rfl, hrow⟩ := hrs.rdpn ho hs (by decide) (by decide)
      rw [HT.out] at hrow
      have hrow2 := hrow.other hz (by decide) (by decide) (grown_set6 wr w.heap.size (.int .i64 1) (.int .u8 (a.toNat : Int)) (.slice A3 k c3) (.string ⟨#[]⟩) (.int .u8 (b.toNat : Int)) (.string ⟨#[]⟩))
      have hb6 := below_set6 hbw (Nat.le_refl w.heap.size) (.int .i64 1) (.int .u8 (a.toNat : Int)) (.slice A3 k c3) (.string ⟨#[]⟩) (.int .u8 (b.toNat : Int)) (.string ⟨#[]⟩)
      obtain ⟨d0, d1, d2, d3, d4, d5⟩ := Blk.cells6 hz
      have z0 := hz.frozen 0
      have z1 := hz.frozen 1
      have z2 := hz.frozen 2
      have z3 := hz.frozen 3
      have z4 := hz.frozen 4
      have z5 := hz.frozen 5
      have HNL := Lib.hid (show (l.map fun n => [n]).length = k by rw [List.length_map]; exact HN.out)
      clear hrow hz ho hrs hs
      go_wp2_with fail
      refine bodyPost_ret (v := .agg #[.int .i64 1, .int .u8 (a.toNat : Int), .slice A3 k c3, .string ⟨#[]⟩, .int .u8 (b.toNat : Int), .string ⟨#[]⟩]) (by simp [results, Tryz.results45, go_sem, d0, d1, d2, d3, d4, d5]) rfl ⟨⟨A3, c3, g, ?_, hrow2⟩, hb6⟩
      unfold sqV numS
      dsimp only
      rw [HNL.out]
theorem num_any (a b : UInt8) (A : Option Addr) (n c : Nat) (l : List Int) (w : World) (hn : l.length = n) (hl : n ≤ 4294967296) (hr : Rd w A (is_ l)) :
    Calls Tryz.prog 45 #[.int .u8 (a.toNat : Int), .int .u8 (b.toNat : Int), .slice A n c] w (NumP a b l w) :=
  (num_anyN a b A n c l w hn hl hr).mono fun _ _ ⟨⟨B, d, _, h1, h2⟩, hb⟩ => ⟨⟨B, d, h1, h2.rdp⟩, hb⟩
end Go.Proofs.YtmagokkegadmiaaGreatDoor
