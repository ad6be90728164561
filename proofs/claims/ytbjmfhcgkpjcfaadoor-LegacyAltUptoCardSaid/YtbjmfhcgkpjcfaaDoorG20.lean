/-
  Layer 3, walked: the program's May. Layer 2, walked: Take.
-/
import Derived.Test.YtbjmfhcgkpjcfaaDoorG06
import Derived.Test.YtbjmfhcgkpjcfaaDoorG08
import Derived.Test.YtbjmfhcgkpjcfaaDoorG09
import Derived.Test.YtbjmfhcgkpjcfaaDoorG16
import Derived.Test.YtbjmfhcgkpjcfaaDoorG17
import Derived.Test.YtbjmfhcgkpjcfaaDoorG18
import Derived.Deep.Cut
import Derived.Deep.RegionHeld3
namespace Go.Proofs.YtbjmfhcgkpjcfaaDoor
open Go.RowKit

theorem last_kind {s : Sq} (h : ¬ (s.kind = 1 ∨ s.kind = 2 ∨ s.kind = 3 ∨ s.kind = 4 ∨ s.kind = 5)) : lastOk s = false := by
  unfold lastOk
  rw [if_neg (by omega), if_neg (by omega), decide_eq_false (by omega)]
  rfl

/-- A sequence's box, and a form's. -/
def frmC (f : Fm) : Array Value := #[.string ⟨f.letter.toArray⟩, .bool f.body, .bool f.inter, .int .u8 (f.first.toNat : Int), .string ⟨f.en.toArray⟩]
/-- What the two boxes hold while a call goes on. -/
structure Two (w W : World) (s : Sq) (A : Option Addr) (c : Nat) (f : Fm) (g : Nat) : Prop where
  sq : Blk W w.heap.size 36 (seqC s A c)
  fm : Blk W g 68 (frmC f)
  be : Below w.heap.size w W
  lt : w.heap.size < g
theorem Two.next {w W W' : World} {s : Sq} {A : Option Addr} {c : Nat} {f : Fm} {g : Nat} (h : Two w W s A c f g) (hb : Below W.heap.size W W') : Two w W' s A c f g :=
  ⟨h.sq.below hb h.sq.lt, h.fm.below hb h.fm.lt, h.be.trans (hb.mono h.be.size), h.lt⟩
theorem Two.new {w w1 : World} {s : Sq} {A : Option Addr} {c : Nat} (f : Fm) (hb : Below (w.alloc (.cells (seqC s A c) 36)).heap.size (w.alloc (.cells (seqC s A c) 36)) w1) :
    Two w (w1.alloc (.cells (frmC f) 68)) s A c f w1.heap.size := by
  have h0 : Blk (w.alloc (.cells (seqC s A c) 36)) w.heap.size 36 (seqC s A c) := Blk.new w _ _
  have h1 := h0.below hb h0.lt
  have hb1 : Below w.heap.size w w1 := ((Below.refl _ w).alloc (Nat.le_refl _) _).trans (hb.mono (by simp))
  exact ⟨h1.alloc _, Blk.new _ _ _, hb1.alloc hb1.size _, h1.lt⟩
theorem Two.cells {w W : World} {s : Sq} {A : Option Addr} {c : Nat} {f : Fm} {g : Nat} (h : Two w W s A c f g) :
    (W.cell? ⟨w.heap.size, 0, none⟩ = some (.int .i64 s.kind) ∧ W.cell? ⟨w.heap.size, 1, none⟩ = some (.int .u8 (s.priv.toNat : Int)) ∧ W.cell? ⟨w.heap.size, 2, none⟩ = some (.slice A s.params.length c) ∧ W.cell? ⟨w.heap.size, 3, none⟩ = some (.string ⟨s.inter.toArray⟩) ∧ W.cell? ⟨w.heap.size, 4, none⟩ = some (.int .u8 (s.final.toNat : Int)) ∧ W.cell? ⟨w.heap.size, 5, none⟩ = some (.string ⟨s.data.toArray⟩)) ∧
    (W.cell? ⟨g, 0, none⟩ = some (.string ⟨f.letter.toArray⟩) ∧ W.cell? ⟨g, 1, none⟩ = some (.bool f.body) ∧ W.cell? ⟨g, 2, none⟩ = some (.bool f.inter) ∧ W.cell? ⟨g, 3, none⟩ = some (.int .u8 (f.first.toNat : Int)) ∧ W.cell? ⟨g, 4, none⟩ = some (.string ⟨f.en.toArray⟩)) :=
  ⟨Blk.cells6 h.sq, Blk.cells5 h.fm⟩

set_option maxRecDepth 100000 in
set_option maxHeartbeats 8000000 in
theorem pmay_any (s : Sq) (A : Option Addr) (c : Nat) (m : Int) (w : World) (hm : mayS s = m) (hp : s.params.length ≤ 4294967296) (hpp : ∀ p ∈ s.params, p.length ≤ 4294967296) (hi : s.inter.length ≤ 4294967296) (hr : RdP w A s.params) :
    Calls Tryd.prog 28 #[sqV s A c] w fun e w' => e = .returned (.int .i64 m) ∧ Below w.heap.size w w' := by
  by_cases hd : 4096 < s.data.length
  · obtain rfl : 4 = m := (may_4 hd).symm.trans hm
    clear hm
    unfold sqV
    go_enter Tryd.func28, Tryd.ntmps28
    go_wp2_with fail
    go_ret
    exact ⟨rfl, (Below.refl _ _).alloc (Nat.le_refl _) _⟩
  · have hd4 : s.data.length ≤ 4096 := by omega
    clear hd
    have hB : Below w.heap.size w (w.alloc (.cells #[.int .i64 s.kind, .int .u8 (s.priv.toNat : Int), .slice A s.params.length c, .string ⟨s.inter.toArray⟩, .int .u8 (s.final.toNat : Int), .string ⟨s.data.toArray⟩] 36)) := (Below.refl _ _).alloc (Nat.le_refl _) _
    by_cases hk : s.kind = 1 ∨ s.kind = 2 ∨ s.kind = 3 ∨ s.kind = 4 ∨ s.kind = 5
    · have HK := Lib.hid hk
      have HKB := Lib.hid (show kindB s.kind = true from decide_eq_true hk)
      clear hk
      unfold sqV
      go_enter Tryd.func28, Tryd.ntmps28
      go_wp2_with fail
      refine (formOf_any s.kind _).mono ?_
      rw [HKB.out]
      rintro e w1 ⟨rfl, hb1⟩
      obtain ⟨f, hf⟩ : ∃ f, formF s.kind = f := ⟨_, rfl⟩
      have HF := Lib.hid hf
      rw [hf]
      clear hf
      have T1 : Two w (w1.alloc (.cells #[.string ⟨f.letter.toArray⟩, .bool f.body, .bool f.inter, .int .u8 (f.first.toNat : Int), .string ⟨f.en.toArray⟩] 68)) s A c f w1.heap.size := Two.new f hb1
      unfold fmV
      go_upto_region 4 with (fail)
      obtain ⟨⟨c0, c1, c2, c3, c4, c5⟩, f0, f1, f2, f3, f4⟩ := T1.cells
      generalize w1.alloc (.cells #[.string ⟨f.letter.toArray⟩, .bool f.body, .bool f.inter, .int .u8 (f.first.toNat : Int), .string ⟨f.en.toArray⟩] 68) = W1 at *
      have T := T1
      clear T1
      cases h1 : bareOk s with
      | false =>
        have V1 := Lib.hid h1
        clear h1
        obtain rfl : 1 = m := (may_1 hd4 (by simp [okS, V1.out])).symm.trans hm
        clear hm
        go_wp2_with fail
        rw [← HF.out]
        refine (holds_any s A c false _ HK.out V1.out).mono ?_
        rintro e w2 ⟨rfl, hb2⟩
        have T2 := T.next hb2
        go_wp2_with fail
        go_ret
        exact ⟨rfl, T2.be⟩
      | true =>
        have V1 := Lib.hid h1
        clear h1
        go_wp2_with fail
        rw [← HF.out]
        refine (holds_any s A c true _ HK.out V1.out).mono ?_
        rw [HF.out]
        rintro e w2 ⟨rfl, hb2⟩
        have T2 := T.next hb2
        clear T c0 c1 c2 c3 c4 c5 f0 f1 f2 f3 f4
        obtain ⟨⟨c0, c1, c2, c3, c4, c5⟩, f0, f1, f2, f3, f4⟩ := T2.cells
        cases h2 : lastOk s with
        | false =>
          have V2 := Lib.hid h2
          clear h2
          obtain rfl : 1 = m := (may_1 hd4 (by simp [okS, V1.out, V2.out])).symm.trans hm
          clear hm
          go_wp2_with fail
          rw [← HF.out]
          refine (ends_any s A c false _ HK.out V2.out).mono ?_
          rintro e w3 ⟨rfl, hb3⟩
          have T3 := T2.next hb3
          go_wp2_with fail
          go_ret
          exact ⟨rfl, T3.be⟩
        | true =>
          have V2 := Lib.hid h2
          clear h2
          go_wp2_with fail
          rw [← HF.out]
          refine (ends_any s A c true _ HK.out V2.out).mono ?_
          rw [HF.out]
          rintro e w3 ⟨rfl, hb3⟩
          have T3 := T2.next hb3
          clear T2 c0 c1 c2 c3 c4 c5 f0 f1 f2 f3 f4
          obtain ⟨⟨c0, c1, c2, c3, c4, c5⟩, f0, f1, f2, f3, f4⟩ := T3.cells
          cases h3 : parOk s.params with
          | false =>
            have V3 := Lib.hid h3
            clear h3
            obtain rfl : 1 = m := (may_1 hd4 (by simp [okS, V3.out])).symm.trans hm
            clear hm
            go_wp2_with fail
            refine (pparams_any A c s.params false _ V3.out hp hpp (hr.below T3.be)).mono ?_
            rintro e w4 ⟨rfl, rfl⟩
            go_wp2_with fail
            go_ret
            exact ⟨rfl, T3.be⟩
          | true =>
            have V3 := Lib.hid h3
            clear h3
            go_wp2_with fail
            refine (pparams_any A c s.params true _ V3.out hp hpp (hr.below T3.be)).mono ?_
            rintro e w4 ⟨rfl, rfl⟩
            cases h4 : privOk s.priv with
            | false =>
              obtain rfl : 1 = m := (may_1 hd4 (by simp [okS, h4])).symm.trans hm
              clear hm
              simp only [privOk, Bool.or_eq_false_iff, decide_eq_false_iff_not] at h4
              obtain ⟨p0, p1⟩ := h4
              have p2 := (btw_no _ _ _).1 p1
              have t1 := priv_ne p0
              have t2 : ((s.priv.toNat : Int) != 0) = true := by simp [bne, t1]
              clear p0 p1
              by_cases p3 : s.priv.toNat < 60
              all_goals
                go_wp2_with fail
                go_ret
                exact ⟨rfl, T3.be⟩
            | true =>
              have V4 := Lib.hid h4
              have key : ((s.priv.toNat : Int) == 0) = true ∧ ((s.priv.toNat : Int) != 0) = false ∨ ((s.priv.toNat : Int) == 0) = false ∧ ((s.priv.toNat : Int) != 0) = true ∧ 60 ≤ s.priv.toNat ∧ s.priv.toNat ≤ 63 := by
                simp only [privOk, Bool.or_eq_true, decide_eq_true_eq] at h4
                rcases h4 with h4 | h4
                · left; rw [h4]; exact ⟨rfl, rfl⟩
                · right
                  have := (btw_iff _ _ _).1 h4
                  have t1 : ((s.priv.toNat : Int) == 0) = false := beq_false_of_ne (by omega)
                  exact ⟨t1, by simp [bne, t1], this⟩
              clear h4
              rcases key with ⟨t1, t2⟩ | ⟨t1, t2, p1, p2⟩
              all_goals
                by_cases h5 : 2 < s.inter.length
                · obtain rfl : 1 = m := (may_1 hd4 (by
                    have : ¬ s.inter.length ≤ 2 := by omega
                    simp [okS, this])).symm.trans hm
                  clear hm
                  go_wp2_with fail
                  go_ret
                  exact ⟨rfl, T3.be⟩
                · have h5 : s.inter.length ≤ 2 := by omega
                  have V5 := Lib.hid h5
                  cases h6 : s.inter.all (btw 32 47) with
                  | false =>
                    have V6 := Lib.hid h6
                    clear h6
                    obtain rfl : 1 = m := (may_1 hd4 (by simp [okS, V6.out])).symm.trans hm
                    clear hm
                    go_wp2_with fail
                    refine (pwithin_any s.inter 32 47 false _ (by omega) V6.out).mono ?_
                    rintro e w5 ⟨rfl, rfl⟩
                    go_wp2_with fail
                    go_ret
                    exact ⟨rfl, T3.be⟩
                  | true =>
                    have V6 := Lib.hid h6
                    clear h6
                    cases h7 : s.data.all (btw 32 126) with
                    | false =>
                      have V7 := Lib.hid h7
                      clear h7
                      obtain rfl : 1 = m := (may_1 hd4 (by simp [okS, V7.out])).symm.trans hm
                      clear hm
                      go_wp2_with fail
                      refine (pwithin_any s.inter 32 47 true _ (by omega) V6.out).mono ?_
                      rintro e w5 ⟨rfl, rfl⟩
                      go_wp2_with fail
                      refine (pwithin_any s.data 32 126 false _ (by omega) V7.out).mono ?_
                      rintro e w6 ⟨rfl, rfl⟩
                      go_wp2_with fail
                      go_ret
                      exact ⟨rfl, T3.be⟩
                    | true =>
                      have V7 := Lib.hid h7
                      clear h7
                      obtain rfl : 0 = m := (may_0 hd4 (by simp [okS, V1.out, V2.out, V3.out, V4.out, V5.out, V6.out, V7.out])).symm.trans hm
                      clear hm
                      go_wp2_with fail
                      refine (pwithin_any s.inter 32 47 true _ (by omega) V6.out).mono ?_
                      rintro e w5 ⟨rfl, rfl⟩
                      go_wp2_with fail
                      refine (pwithin_any s.data 32 126 true _ (by omega) V7.out).mono ?_
                      rintro e w6 ⟨rfl, rfl⟩
                      go_wp2_with fail
                      go_ret
                      exact ⟨rfl, T3.be⟩
    · obtain rfl : 1 = m := (may_1 hd4 (by simp [okS, last_kind hk])).symm.trans hm
      have HKB := Lib.hid (show kindB s.kind = false from decide_eq_false hk)
      clear hk hm
      unfold sqV
      go_enter Tryd.func28, Tryd.ntmps28
      go_wp2_with fail
      refine (formOf_any s.kind _).mono ?_
      rw [HKB.out]
      rintro e w1 ⟨rfl, hb1⟩
      unfold fmV
      go_wp2_with fail
      go_ret
      exact ⟨rfl, (hB.trans (hb1.mono (by simp))).alloc (Nat.le_trans (by simp) hb1.size) _⟩
end Go.Proofs.YtbjmfhcgkpjcfaaDoor
namespace Go.Proofs.YtbjmfhcgkpjcfaaDoor
open Go.RowKit

/-- A quiet call, in a world that has drawn already. -/
theorem quiet_more {P : Program} {f : FuncId} {args : Array Value} {w : World} {a n : Nat} {v : Value} (h : Calls P f args (w.drewN (a + n)) fun e w' => e = .returned v ∧ w' = w.drewN (a + n)) : Calls P f args (w.drewN (a + n)) fun e w' => e = .returned v ∧ ∃ m, w' = w.drewN (a + m) :=
  h.mono fun _ _ h => ⟨h.1, n, h.2⟩
theorem isPt_at (r : Int) (p : Bool) (h : isPt r = p) (w : World) : Calls Tryd.prog 64 #[.int .i64 r] w fun e w' => e = .returned (.bool p) ∧ w = w' := by
  subst h
  exact isPt_any r w
theorem isPt_same (r : Int) (p : Bool) (h : isPt r = p) (w : World) : Calls Tryd.prog 64 #[.int .i64 r] w fun e w' => e = .returned (.bool p) ∧ w' = w := (isPt_at r p h w).mono fun _ _ ⟨a, b⟩ => ⟨a, b.symm⟩
theorem sizeOf_at (r : Int) (u : Array Value) (h : szA (ixP r 4) = u) (w : World) (hs : Siz w) : Calls Tryd.prog 78 #[.int .i64 r] w fun e w' => e = .returned (.agg u) ∧ Below w.heap.size w w' := by
  subst h
  exact sizeOf_any r w hs
theorem szA_cnt (i : Nat) (h : i ≤ 3) : ∃ p q : Int, szA i = #[.int .i64 ((i : Int) + 1), .int .i64 p, .int .i64 q] := by
  obtain rfl | rfl | rfl | rfl : i = 0 ∨ i = 1 ∨ i = 2 ∨ i = 3 := by omega
  all_goals exact ⟨_, _, rfl⟩
theorem ixP_le (r : Int) : ixP r 4 ≤ 3 := by unfold ixP; (repeat' split) <;> omega

set_option maxRecDepth 100000 in
set_option maxHeartbeats 4000000 in
theorem take_any (A : Option Addr) (c : Nat) (l : List UInt8) (w : World) (hs : Siz w) (hl : l.length ≤ 4294967296) (hlc : l.length ≤ c) (hr : Rd w A (bs l)) :
    Calls Tryd.prog 82 #[.slice A l.length c] w fun e w' => e = Tk l ∧ Below w.heap.size w w' := by
  cases l with
  | nil =>
    go_enter Tryd.func82, Tryd.ntmps82
    go_wp2_with fail
    go_ret2
    exact ⟨tk_zero rfl, Below.refl _ _⟩
  | cons a l =>
    obtain ⟨b, o, rfl, hb, hc⟩ := hr.at_ (by simp)
    have hc0 := hc 0 (by simp)
    have ha := a.toNat_lt
    simp only [Nat.add_zero, List.getElem_cons_zero] at hc0
    simp only [List.length_cons] at hl hlc
    obtain ⟨j, least, lead, hj, hix, hz, l0, l1, F⟩ := fst_split a
    have HZ := Lib.hid hz
    have HI := Lib.hid hix
    clear hix hz
    by_cases hlt : l.length < j
    · have E := Lib.hid (tk_zero (F.short l hlt))
      clear F hc
      go_enter Tryd.func82, Tryd.ntmps82
      go_wp2_with fail
      refine (sizeByFirst_any _ _ hs).mono ?_
      rw [HZ.out]
      rintro e w1 ⟨rfl, hb1⟩
      have p1 := Blk.new w1 108 #[.int .i64 ((j : Int) + 1), .int .i64 least, .int .i64 lead]
      have g0 := p1.cell 0
      go_wp2
      go_ret2
      exact ⟨E.out, hb1.alloc hb1.size _⟩
    · have hlj : j ≤ l.length := by omega
      go_enter Tryd.func82, Tryd.ntmps82
      go_wp2_with fail
      refine (sizeByFirst_any _ _ hs).mono ?_
      rw [HZ.out]
      rintro e w1 ⟨rfl, hb1⟩
      have hc1 := (hb1.cell (p := ⟨b, o, none⟩) hb).trans hc0
      have p1 := Blk.new w1 108 #[.int .i64 ((j : Int) + 1), .int .i64 least, .int .i64 lead]
      have g0 := p1.cell 0
      have g2 := p1.cell 2
      have hb2 := Nat.lt_of_lt_of_le hb hb1.size
      go_wp2
      go_quiet (fail)
      have hcs : ∀ k (hk : k < l.length), w.cell? ⟨b, o + 1 + k, none⟩ = some (.int .u8 ((l[k]'hk).toNat : Int)) := fun k hk => by
        have := hc (k + 1) (by simpa using hk)
        rw [show o + 1 + k = o + (k + 1) by omega]
        simpa using this
      have hbM : ∀ m, Below w.heap.size w ((w1.alloc (.cells #[.int .i64 ((j : Int) + 1), .int .i64 least, .int .i64 lead] 108)).drewN m) := fun m => below_drewN (hb1.alloc hb1.size _) m
      by_cases h1c : c = 1
      · subst h1c
        go_wp2
        go_loop [5, 34] (fun x i => ∃ (k : Nat) (y : Int), k ≤ j ∧ i = .int .i64 k ∧ x = .int .i64 y ∧ accL ((a.toNat : Int) - lead) (l.take k) = some y) (fun _ i => j - (intOf i).toNat)
        case atStart => exact ⟨0, _, Nat.zero_le _, rfl, rfl, rfl⟩
        case round =>
          obtain ⟨k, y, hk, rfl, rfl, hy⟩ := hrel
          have HY := Lib.hid hy
          clear hy
          obtain ⟨y0, y1⟩ := accL_up _ l k (by omega) (by omega) (by omega) y HY.out
          by_cases hkj : k < j
          · exfalso; omega
          · obtain rfl : k = j := by omega
            have hs1 : Siz (w1.alloc (.cells #[.int .i64 ((k : Int) + 1), .int .i64 least, .int .i64 lead] 108)) := hs.below' (hb1.alloc hb1.size _)
            cases hp : isPt y with
            | false =>
              have E := Lib.hid (tk_zero (F.no l y hlj HY.out (fun hh => by rw [hp] at hh; cases hh.1)))
              have HP := Lib.hid hp
              clear hp
              go_wp2
              go_quiet ((go_at_call 64; exact quiet_more (isPt_same _ _ HP.out _)))
              go_wp2
              go_ret2
              exact ⟨E.out, below_drewN (hbM _) _⟩
            | true =>
              have HP := Lib.hid hp
              clear hp
              have hsM : ∀ m, Siz ((w1.alloc (.cells #[.int .i64 ((k : Int) + 1), .int .i64 least, .int .i64 lead] 108)).drewN m) := fun _ => hs1
              have q0 := p1.cell 0
              have q1 := p1.cell 1
              have q2 := p1.cell 2
              by_cases hi : ixP y 4 = k
              · have E := Lib.hid (tk_is (m := (k : Int) + 1) (F.yes l y hlj HY.out HP.out hi) rfl)
                have HX := Lib.hid (show szA (ixP y 4) = #[.int .i64 ((k : Int) + 1), .int .i64 least, .int .i64 lead] by rw [show ixP y 4 = ixF a.toNat 4 from hi.trans HI.out.symm]; exact HZ.out)
                clear hi
                go_wp2
                go_region_held3 (fun w' => w'.cell? ⟨w1.heap.size, 0, none⟩ = some (.int .i64 ((k : Int) + 1)) ∧ w'.cell? ⟨w1.heap.size, 1, none⟩ = some (.int .i64 least) ∧ w'.cell? ⟨w1.heap.size, 2, none⟩ = some (.int .i64 lead)) (first | exact ⟨q0, q1, q2⟩ | exact ⟨(hb3.cell (p := ⟨w1.heap.size, 0, none⟩) (by simp)).trans q0, (hb3.cell (p := ⟨w1.heap.size, 1, none⟩) (by simp)).trans q1, (hb3.cell (p := ⟨w1.heap.size, 2, none⟩) (by simp)).trans q2⟩) (first | (go_at_call 64; refine (isPt_at _ _ HP.out _).mono ?_; rintro e w' ⟨rfl, rfl⟩) | (go_at_call 78; refine (sizeOf_at _ _ HX.out _ (hsM _)).mono ?_; rintro e w3 ⟨rfl, hb3⟩))
                all_goals
                  have r0 := (hb3.cell (p := ⟨w1.heap.size, 0, none⟩) (by simp)).trans q0
                  have hb4 : Below w.heap.size w w3 := (hbM _).trans (hb3.mono (hbM _).size)
                  clear hb3
                  go_wp2
                  go_quiet (fail)
                  go_wp2
                  go_ret2
                  exact ⟨E.out, below_drewN hb4 _⟩
              · have E := Lib.hid (tk_zero (F.no l y hlj HY.out (fun hh => hi hh.2)))
                obtain ⟨i, hi'⟩ : ∃ i, ixP y 4 = i := ⟨_, rfl⟩
                obtain ⟨p, q, hpq⟩ := szA_cnt (ixP y 4) (ixP_le y)
                rw [hi'] at hpq hi
                have HX := Lib.hid (show szA (ixP y 4) = #[.int .i64 ((i : Int) + 1), .int .i64 p, .int .i64 q] by rw [hi']; exact hpq)
                have t1 : (((i : Int) + 1) == ((k : Int) + 1)) = false := beq_false_of_ne (by omega)
                clear hi hi' hpq
                go_wp2
                go_region_held3 (fun w' => w'.cell? ⟨w1.heap.size, 0, none⟩ = some (.int .i64 ((k : Int) + 1)) ∧ w'.cell? ⟨w1.heap.size, 1, none⟩ = some (.int .i64 least) ∧ w'.cell? ⟨w1.heap.size, 2, none⟩ = some (.int .i64 lead)) (first | exact ⟨q0, q1, q2⟩ | exact ⟨(hb3.cell (p := ⟨w1.heap.size, 0, none⟩) (by simp)).trans q0, (hb3.cell (p := ⟨w1.heap.size, 1, none⟩) (by simp)).trans q1, (hb3.cell (p := ⟨w1.heap.size, 2, none⟩) (by simp)).trans q2⟩) (first | (go_at_call 64; refine (isPt_at _ _ HP.out _).mono ?_; rintro e w' ⟨rfl, rfl⟩) | (go_at_call 78; refine (sizeOf_at _ _ HX.out _ (hsM _)).mono ?_; rintro e w3 ⟨rfl, hb3⟩))
                all_goals
                  have hb4 : Below w.heap.size w w3 := (hbM _).trans (hb3.mono (hbM _).size)
                  clear hb3
                  go_wp2
                  go_ret2
                  exact ⟨E.out, hb4⟩
      · go_wp2
        go_loop [5, 34] (fun x i => ∃ (k : Nat) (y : Int), k ≤ j ∧ i = .int .i64 k ∧ x = .int .i64 y ∧ accL ((a.toNat : Int) - lead) (l.take k) = some y) (fun _ i => j - (intOf i).toNat)
        case atStart => exact ⟨0, _, Nat.zero_le _, rfl, rfl, rfl⟩
        case round =>
          obtain ⟨k, y, hk, rfl, rfl, hy⟩ := hrel
          have HY := Lib.hid hy
          clear hy
          obtain ⟨y0, y1⟩ := accL_up _ l k (by omega) (by omega) (by omega) y HY.out
          by_cases hkj : k < j
          · have hck := (hb1.cell (p := ⟨b, o + 1 + k, none⟩) hb).trans (hcs k (by omega))
            have hd := (l[k]'(by omega)).toNat_lt
            have HS := Lib.hid (accL_step _ l k (by omega) y HY.out)
            by_cases hf : fol (l[k]'(by omega)) = true
            · have HF := Lib.hid hf
              obtain ⟨f0, f1⟩ := (fol_iff _).1 hf
              clear hf
              go_wp2
              go_round
              case rel => exact ⟨k + 1, _, by omega, by go_num, rfl, by rw [HS.out, if_pos HF.out]⟩
              case measure => simp [intOf]; omega
            · have E := Lib.hid (tk_zero (F.none_ l hlj (accL_none _ l (k + 1) j (by omega) (by rw [HS.out, if_neg hf]))))
              have hf2 : ¬ (128 ≤ (l[k]'(by omega)).toNat ∧ (l[k]'(by omega)).toNat < 192) := fun h => hf ((fol_iff _).2 h)
              by_cases f0 : (l[k]'(by omega)).toNat < 128
              · clear hf hf2
                go_wp2
                go_ret2
                exact ⟨E.out, hbM _⟩
              · have f1 : 192 ≤ (l[k]'(by omega)).toNat := by omega
                clear hf hf2
                go_wp2
                go_ret2
                exact ⟨E.out, hbM _⟩
          · obtain rfl : k = j := by omega
            have hs1 : Siz (w1.alloc (.cells #[.int .i64 ((k : Int) + 1), .int .i64 least, .int .i64 lead] 108)) := hs.below' (hb1.alloc hb1.size _)
            cases hp : isPt y with
            | false =>
              have E := Lib.hid (tk_zero (F.no l y hlj HY.out (fun hh => by rw [hp] at hh; cases hh.1)))
              have HP := Lib.hid hp
              clear hp
              go_wp2
              go_quiet ((go_at_call 64; exact quiet_more (isPt_same _ _ HP.out _)))
              go_wp2
              go_ret2
              exact ⟨E.out, below_drewN (hbM _) _⟩
            | true =>
              have HP := Lib.hid hp
              clear hp
              have hsM : ∀ m, Siz ((w1.alloc (.cells #[.int .i64 ((k : Int) + 1), .int .i64 least, .int .i64 lead] 108)).drewN m) := fun _ => hs1
              have q0 := p1.cell 0
              have q1 := p1.cell 1
              have q2 := p1.cell 2
              by_cases hi : ixP y 4 = k
              · have E := Lib.hid (tk_is (m := (k : Int) + 1) (F.yes l y hlj HY.out HP.out hi) rfl)
                have HX := Lib.hid (show szA (ixP y 4) = #[.int .i64 ((k : Int) + 1), .int .i64 least, .int .i64 lead] by rw [show ixP y 4 = ixF a.toNat 4 from hi.trans HI.out.symm]; exact HZ.out)
                clear hi
                go_wp2
                go_region_held3 (fun w' => w'.cell? ⟨w1.heap.size, 0, none⟩ = some (.int .i64 ((k : Int) + 1)) ∧ w'.cell? ⟨w1.heap.size, 1, none⟩ = some (.int .i64 least) ∧ w'.cell? ⟨w1.heap.size, 2, none⟩ = some (.int .i64 lead)) (first | exact ⟨q0, q1, q2⟩ | exact ⟨(hb3.cell (p := ⟨w1.heap.size, 0, none⟩) (by simp)).trans q0, (hb3.cell (p := ⟨w1.heap.size, 1, none⟩) (by simp)).trans q1, (hb3.cell (p := ⟨w1.heap.size, 2, none⟩) (by simp)).trans q2⟩) (first | (go_at_call 64; refine (isPt_at _ _ HP.out _).mono ?_; rintro e w' ⟨rfl, rfl⟩) | (go_at_call 78; refine (sizeOf_at _ _ HX.out _ (hsM _)).mono ?_; rintro e w3 ⟨rfl, hb3⟩))
                all_goals
                  have r0 := (hb3.cell (p := ⟨w1.heap.size, 0, none⟩) (by simp)).trans q0
                  have hb4 : Below w.heap.size w w3 := (hbM _).trans (hb3.mono (hbM _).size)
                  clear hb3
                  go_wp2
                  go_quiet (fail)
                  go_wp2
                  go_ret2
                  exact ⟨E.out, below_drewN hb4 _⟩
              · have E := Lib.hid (tk_zero (F.no l y hlj HY.out (fun hh => hi hh.2)))
                obtain ⟨i, hi'⟩ : ∃ i, ixP y 4 = i := ⟨_, rfl⟩
                obtain ⟨p, q, hpq⟩ := szA_cnt (ixP y 4) (ixP_le y)
                rw [hi'] at hpq hi
                have HX := Lib.hid (show szA (ixP y 4) = #[.int .i64 ((i : Int) + 1), .int .i64 p, .int .i64 q] by rw [hi']; exact hpq)
                have t1 : (((i : Int) + 1) == ((k : Int) + 1)) = false := beq_false_of_ne (by omega)
                clear hi hi' hpq
                go_wp2
                go_region_held3 (fun w' => w'.cell? ⟨w1.heap.size, 0, none⟩ = some (.int .i64 ((k : Int) + 1)) ∧ w'.cell? ⟨w1.heap.size, 1, none⟩ = some (.int .i64 least) ∧ w'.cell? ⟨w1.heap.size, 2, none⟩ = some (.int .i64 lead)) (first | exact ⟨q0, q1, q2⟩ | exact ⟨(hb3.cell (p := ⟨w1.heap.size, 0, none⟩) (by simp)).trans q0, (hb3.cell (p := ⟨w1.heap.size, 1, none⟩) (by simp)).trans q1, (hb3.cell (p := ⟨w1.heap.size, 2, none⟩) (by simp)).trans q2⟩) (first | (go_at_call 64; refine (isPt_at _ _ HP.out _).mono ?_; rintro e w' ⟨rfl, rfl⟩) | (go_at_call 78; refine (sizeOf_at _ _ HX.out _ (hsM _)).mono ?_; rintro e w3 ⟨rfl, hb3⟩))
                all_goals
                  have hb4 : Below w.heap.size w w3 := (hbM _).trans (hb3.mono (hbM _).size)
                  clear hb3
                  go_wp2
                  go_ret2
                  exact ⟨E.out, hb4⟩
end Go.Proofs.YtbjmfhcgkpjcfaaDoor
