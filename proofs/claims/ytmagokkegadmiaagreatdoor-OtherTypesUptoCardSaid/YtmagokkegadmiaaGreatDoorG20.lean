/-
  Layer 9: the document's own answers: Look. A sequence of numbers, as a value, and the document's Put of it. Layer 2, walked: Take. Layer 3, walked: the program's join, and its parameters as a text. 'There is an input that fits', where a listed variable is a slice: the shape of the world by the elder law's second form.
-/
import Derived.Test.YtmagokkegadmiaaGreatDoorG03
import Derived.Test.YtmagokkegadmiaaGreatDoorG07
import Derived.Test.YtmagokkegadmiaaGreatDoorG08
import Derived.Test.YtmagokkegadmiaaGreatDoorG09
import Derived.Test.YtmagokkegadmiaaGreatDoorG11
import Derived.Test.YtmagokkegadmiaaGreatDoorG12
import Derived.Test.YtmagokkegadmiaaGreatDoorG13
import Derived.Test.YtmagokkegadmiaaGreatDoorG16
import Derived.Test.YtmagokkegadmiaaGreatDoorG17
import Derived.Test.YtmagokkegadmiaaGreatDoorG19
import Derived.Deep.RegionLaw
import Derived.Deep.RegionHeld3
import Derived.Laws.OwnMore
import Derived.Deep.DeepWitnessRef
import Derived.Deep.DeepHandedRow
namespace Go.Proofs.YtmagokkegadmiaaGreatDoor
open Go.RowKit

theorem below_step9 {n : Nat} {w a b : World} (h : Below n w a) (h2 : Below a.heap.size a b) (hn : n ≤ a.heap.size) : Below n w b := h.trans (h2.mono hn)
set_option maxRecDepth 100000 in
set_option maxHeartbeats 16000000 in
theorem rlook_any (c : Int) (w : World) : Calls Tryz.prog 22 #[.int .i64 c] w fun e w' => e = .returned (enV (lookE c)) ∧ Below w.heap.size w w' := by
  have hB : ∀ (x : Obj), Below w.heap.size w (w.alloc x) := fun x => (Below.refl _ w).alloc (Nat.le_refl _) _
  obtain ⟨L, hL⟩ : ∃ L, letterN c = L := ⟨_, rfl⟩
  obtain ⟨N, hN⟩ : ∃ N, numberN c = N := ⟨_, rfl⟩
  obtain ⟨k, hk⟩ : ∃ k, decide (57399 ≤ c) = k := ⟨_, rfl⟩
  have HL : Hid (∀ W, Calls Tryz.prog 47 #[.int .i64 c] W fun e w' => e = .returned (.int .u8 L) ∧ w' = W) := Lib.hid fun W => by rw [← hL]; exact rletter_any c W
  have HN : Hid (∀ W, Calls Tryz.prog 48 #[.int .i64 c] W fun e w' => e = .returned (.int .i64 N) ∧ w' = W) := Lib.hid fun W => by rw [← hN]; exact rnumber_any c W
  have HR := Lib.hid (rrest_any c)
  cases tL : (L == 0) with
  | false =>
    have hl : L ≠ 0 := ne_of_beq_false tL
    have E := Lib.hid (show lookE c = ⟨3, L, 0, 0, k⟩ by unfold lookE; rw [hL, if_pos hl, hk])
    clear hl hL hN
    go_enter Tryz.func22, Tryz.ntmps22
    go_wp2_with fail
    refine (HL.out _).mono ?_
    rintro e w1 ⟨rfl, rfl⟩
    go_wp2_with fail
    refine (HL.out _).mono ?_
    rintro e w1 ⟨rfl, rfl⟩
    go_wp2_with fail
    refine bodyPost_ret (v := enV ⟨3, L, 0, 0, k⟩) (by simp [results, Tryz.results22, go_sem, enV]) rfl ⟨by rw [E.out], hB _⟩
  | true =>
    have hl : L = 0 := eq_of_beq tL
    cases tN : (N == 0) with
    | false =>
      have hn : N ≠ 0 := ne_of_beq_false tN
      have E := Lib.hid (show lookE c = ⟨4, 0, N, 0, k⟩ by unfold lookE; rw [hL, if_neg (by rw [hl]; decide), hN, if_pos hn, hk])
      clear hl hn hL hN
      go_enter Tryz.func22, Tryz.ntmps22
      go_wp2_with fail
      refine (HL.out _).mono ?_
      rintro e w1 ⟨rfl, rfl⟩
      go_wp2_with fail
      refine (HN.out _).mono ?_
      rintro e w1 ⟨rfl, rfl⟩
      go_wp2_with fail
      refine (HN.out _).mono ?_
      rintro e w1 ⟨rfl, rfl⟩
      go_wp2_with fail
      refine bodyPost_ret (v := enV ⟨4, 0, N, 0, k⟩) (by simp [results, Tryz.results22, go_sem, enV]) rfl ⟨by rw [E.out], hB _⟩
    | true =>
      have hn : N = 0 := eq_of_beq tN
      by_cases hp : 57399 ≤ c ∧ c ≤ 57416
      · obtain ⟨P, hP⟩ : ∃ P, padE c = P := ⟨_, rfl⟩
        have E := Lib.hid (show lookE c = P by unfold lookE; rw [hL, if_neg (by rw [hl]; decide), hN, if_neg (by rw [hn]; decide), if_pos hp, hP])
        have HP := Lib.hid (rpad_any c hp.1 hp.2)
        rw [hP, enV] at HP
        have p1 := hp.1
        have p2 := hp.2
        clear hl hn hL hN hp hP hk
        have q0 := Blk.new w 54 #[.int .i64 0, .int .u8 0, .int .i64 0, .int .i64 0, .bool false]
        have hq := hB (.cells #[.int .i64 0, .int .u8 0, .int .i64 0, .int .i64 0, .bool false] 54)
        go_enter Tryz.func22, Tryz.ntmps22
        go_wp2_with fail
        refine (HL.out _).mono ?_
        rintro e w1 ⟨rfl, rfl⟩
        go_wp2_with fail
        refine (HN.out _).mono ?_
        rintro e w1 ⟨rfl, rfl⟩
        go_wp2_with fail
        refine (HP.out _).mono ?_
        rintro e w1 ⟨rfl, hb⟩
        have q1 := q0.below hb q0.lt
        have hbe := below_step9 hq hb hq.size
        have z0 := q1.frozen 0
        have z1 := q1.frozen 1
        have z2 := q1.frozen 2
        have z3 := q1.frozen 3
        have z4 := q1.frozen 4
        have y0 := q1.cell 0
        have y1 := q1.cell 1
        have y2 := q1.cell 2
        have y3 := q1.cell 3
        have y4 := q1.cell 4
        go_wp2_with fail
        refine bodyPost_ret (v := enV P) ?_ rfl ⟨by rw [E.out], ?_⟩
        · simp [results, Tryz.results22, go_sem, enV, *]
        · exact ((((hbe.setCell (p := ⟨w.heap.size, 0, none⟩) (Nat.le_refl _) _).setCell (p := ⟨w.heap.size, 1, none⟩) (Nat.le_refl _) _).setCell (p := ⟨w.heap.size, 2, none⟩) (Nat.le_refl _) _).setCell (p := ⟨w.heap.size, 3, none⟩) (Nat.le_refl _) _).setCell (p := ⟨w.heap.size, 4, none⟩) (Nat.le_refl _) _
      · obtain ⟨R, hR⟩ : ∃ R, restN c = R := ⟨_, rfl⟩
        have E := Lib.hid (show lookE c = ⟨R, 0, 0, 0, false⟩ by unfold lookE; rw [hL, if_neg (by rw [hl]; decide), hN, if_neg (by rw [hn]; decide), if_neg hp, hR])
        rw [hR] at HR
        have hp' : c < 57399 ∨ 57416 < c := by omega
        clear hl hn hL hN hp hR hk
        rcases hp' with p1 | p1
        all_goals
          try have p2 : 57399 ≤ c := by omega
          have q0 := Blk.new w 54 #[.int .i64 0, .int .u8 0, .int .i64 0, .int .i64 0, .bool false]
          have hq := hB (.cells #[.int .i64 0, .int .u8 0, .int .i64 0, .int .i64 0, .bool false] 54)
          go_enter Tryz.func22, Tryz.ntmps22
          go_wp2_with fail
          refine (HL.out _).mono ?_
          rintro e w1 ⟨rfl, rfl⟩
          go_wp2_with fail
          refine (HN.out _).mono ?_
          rintro e w1 ⟨rfl, rfl⟩
          go_wp2_with fail
          refine (HR.out _).mono ?_
          rintro e w1 ⟨rfl, hb⟩
          have q1 := q0.below hb q0.lt
          have hbe := below_step9 hq hb hq.size
          have z0 := q1.frozen 0
          have z1 := q1.frozen 1
          have z2 := q1.frozen 2
          have z3 := q1.frozen 3
          have z4 := q1.frozen 4
          have y0 := q1.cell 0
          have y1 := q1.cell 1
          have y2 := q1.cell 2
          have y3 := q1.cell 3
          have y4 := q1.cell 4
          go_wp2_with fail
          refine bodyPost_ret (v := enV ⟨R, 0, 0, 0, false⟩) ?_ rfl ⟨by rw [E.out], ?_⟩
          · simp [results, Tryz.results22, go_sem, enV, *]
          · exact ((((hbe.setCell (p := ⟨w.heap.size, 0, none⟩) (Nat.le_refl _) _).setCell (p := ⟨w.heap.size, 1, none⟩) (Nat.le_refl _) _).setCell (p := ⟨w.heap.size, 2, none⟩) (Nat.le_refl _) _).setCell (p := ⟨w.heap.size, 3, none⟩) (Nat.le_refl _) _).setCell (p := ⟨w.heap.size, 4, none⟩) (Nat.le_refl _) _
end Go.Proofs.YtmagokkegadmiaaGreatDoor
namespace Go.Proofs.YtmagokkegadmiaaGreatDoor
open Go.RowKit

/-- The document's Put of such a sequence. -/
theorem rput_sqn {kind f : Int} {l : List Int} {n : Nat} (hn : l.length = n) (hl : n ≤ 30) (f0 : 0 ≤ f) (f1 : f < 256) (A : Option Addr) (c : Nat) (w : World) (hr : RdP w A (l.map fun n => [n])) :
    Calls Tryz.prog 25 #[.agg #[.int .i64 kind, .int .u8 0, .slice A n c, .string ⟨#[]⟩, .int .u8 f, .string ⟨#[]⟩]] w fun e w' => (∃ B d m, e = .returned (.tuple #[.slice B (seqB kind f l).length d, .int .i64 m]) ∧ Rd w' B (bs (seqB kind f l))) ∧ Below w.heap.size w w' := by
  rw [← sqn_v (kind := kind) hn f0 f1 A c]
  by_cases hm : mayS (sqN kind f l) = 0
  · refine (wput_yes (sqN kind f l) A c w hm hr).mono ?_
    rintro e w' ⟨⟨B, d, rfl, _, hr'⟩, hb⟩
    rw [show seqB kind f l = putS (sqN kind f l) from if_pos hm]
    exact ⟨⟨B, d, 0, rfl, hr'⟩, hb⟩
  · have hp : (sqN kind f l).params.length ≤ 4294967296 := by show (l.map fun n => [n]).length ≤ _; rw [List.length_map]; omega
    refine (wput_no (sqN kind f l) A c _ w rfl hm hp (by show 0 ≤ _; omega) hr).mono ?_
    rintro e w' ⟨rfl, hb⟩
    rw [show seqB kind f l = [] from if_neg hm]
    exact ⟨⟨none, 0, _, rfl, Rd.nil _ _⟩, hb⟩
end Go.Proofs.YtmagokkegadmiaaGreatDoor
namespace Go.Proofs.YtmagokkegadmiaaGreatDoor
open Go.RowKit

/-- A quiet call, in a world that has drawn already. -/
theorem quiet_more {P : Program} {f : FuncId} {args : Array Value} {w : World} {a n : Nat} {v : Value} (h : Calls P f args (w.drewN (a + n)) fun e w' => e = .returned v ∧ w' = w.drewN (a + n)) : Calls P f args (w.drewN (a + n)) fun e w' => e = .returned v ∧ ∃ m, w' = w.drewN (a + m) :=
  h.mono fun _ _ h => ⟨h.1, n, h.2⟩
theorem isPt_at (r : Int) (p : Bool) (h : isPt r = p) (w : World) : Calls Tryz.prog 86 #[.int .i64 r] w fun e w' => e = .returned (.bool p) ∧ w = w' := by
  subst h
  exact isPt_any r w
theorem isPt_same (r : Int) (p : Bool) (h : isPt r = p) (w : World) : Calls Tryz.prog 86 #[.int .i64 r] w fun e w' => e = .returned (.bool p) ∧ w' = w := (isPt_at r p h w).mono fun _ _ ⟨a, b⟩ => ⟨a, b.symm⟩
theorem sizeOf_at (r : Int) (u : Array Value) (h : szA (ixP r 4) = u) (w : World) (hs : Siz w) : Calls Tryz.prog 104 #[.int .i64 r] w fun e w' => e = .returned (.agg u) ∧ Below w.heap.size w w' := by
  subst h
  exact sizeOf_any r w hs
theorem szA_cnt (i : Nat) (h : i ≤ 3) : ∃ p q : Int, szA i = #[.int .i64 ((i : Int) + 1), .int .i64 p, .int .i64 q] := by
  obtain rfl | rfl | rfl | rfl : i = 0 ∨ i = 1 ∨ i = 2 ∨ i = 3 := by omega
  all_goals exact ⟨_, _, rfl⟩
theorem ixP_le (r : Int) : ixP r 4 ≤ 3 := by unfold ixP; (repeat' split) <;> omega

set_option maxRecDepth 100000 in
set_option maxHeartbeats 4000000 in
theorem take_any (A : Option Addr) (c : Nat) (l : List UInt8) (w : World) (hs : Siz w) (hl : l.length ≤ 4294967296) (hlc : l.length ≤ c) (hr : Rd w A (bs l)) :
    Calls Tryz.prog 114 #[.slice A l.length c] w fun e w' => e = Tk l ∧ Below w.heap.size w w' := by
  cases l with
  | nil =>
    go_enter Tryz.func114, Tryz.ntmps114
    go_wp2_with fail
    go_ret2
    exact ⟨tk_zero rfl, Below.refl _ _⟩
  | cons a l =>
    obtain ⟨b, o, rfl, hb, hc⟩ := hr.at_ (by simp)
    have hc0 := hc 0 (by simp)
    have ha := a.toNat_lt
    simp only [Nat.add_zero, List.getElem_cons_zero] at hc0
    simp only [List.length_cons] at hl hlc
    obtain ⟨j, least, lead, hj, hix, hz, l0, l1, F⟩ := fst_split a
    have HZ := Lib.hid hz
    have HI := Lib.hid hix
    clear hix hz
    by_cases hlt : l.length < j
    · have E := Lib.hid (tk_zero (F.short l hlt))
      clear F hc
      go_enter Tryz.func114, Tryz.ntmps114
      go_wp2_with fail
      refine (sizeByFirst_any _ _ hs).mono ?_
      rw [HZ.out]
      rintro e w1 ⟨rfl, hb1⟩
      have p1 := Blk.new w1 132 #[.int .i64 ((j : Int) + 1), .int .i64 least, .int .i64 lead]
      have g0 := p1.cell 0
      go_wp2
      go_ret2
      exact ⟨E.out, hb1.alloc hb1.size _⟩
    · have hlj : j ≤ l.length := by omega
      go_enter Tryz.func114, Tryz.ntmps114
      go_wp2_with fail
      refine (sizeByFirst_any _ _ hs).mono ?_
      rw [HZ.out]
      rintro e w1 ⟨rfl, hb1⟩
      have hc1 := (hb1.cell (p := ⟨b, o, none⟩) hb).trans hc0
      have p1 := Blk.new w1 132 #[.int .i64 ((j : Int) + 1), .int .i64 least, .int .i64 lead]
      have g0 := p1.cell 0
      have g2 := p1.cell 2
      have hb2 := Nat.lt_of_lt_of_le hb hb1.size
      go_wp2
      go_quiet (fail)
      have hcs : ∀ k (hk : k < l.length), w.cell? ⟨b, o + 1 + k, none⟩ = some (.int .u8 ((l[k]'hk).toNat : Int)) := fun k hk => by
        have := hc (k + 1) (by simpa using hk)
        rw [show o + 1 + k = o + (k + 1) by omega]
        simpa using this
      have hbM : ∀ m, Below w.heap.size w ((w1.alloc (.cells #[.int .i64 ((j : Int) + 1), .int .i64 least, .int .i64 lead] 132)).drewN m) := fun m => below_drewN (hb1.alloc hb1.size _) m
      by_cases h1c : c = 1
      · subst h1c
        go_wp2
        go_loop [5, 34] (fun x i => ∃ (k : Nat) (y : Int), k ≤ j ∧ i = .int .i64 k ∧ x = .int .i64 y ∧ accL ((a.toNat : Int) - lead) (l.take k) = some y) (fun _ i => j - (intOf i).toNat)
        case atStart => exact ⟨0, _, Nat.zero_le _, rfl, rfl, rfl⟩
        case round =>
          obtain ⟨k, y, hk, rfl, rfl, hy⟩ := hrel
          have HY := Lib.hid hy
          clear hy
          obtain ⟨y0, y1⟩ := accL_up _ l k (by omega) (by omega) (by omega) y HY.out
          by_cases hkj : k < j
          · exfalso; omega
          · obtain rfl : k = j := by omega
            have hs1 : Siz (w1.alloc (.cells #[.int .i64 ((k : Int) + 1), .int .i64 least, .int .i64 lead] 132)) := hs.below' (hb1.alloc hb1.size _)
            cases hp : isPt y with
            | false =>
              have E := Lib.hid (tk_zero (F.no l y hlj HY.out (fun hh => by rw [hp] at hh; cases hh.1)))
              have HP := Lib.hid hp
              clear hp
              go_wp2
              go_quiet ((go_at_call 86; exact quiet_more (isPt_same _ _ HP.out _)))
              go_wp2
              go_ret2
              exact ⟨E.out, below_drewN (hbM _) _⟩
            | true =>
              have HP := Lib.hid hp
              clear hp
              have hsM : ∀ m, Siz ((w1.alloc (.cells #[.int .i64 ((k : Int) + 1), .int .i64 least, .int .i64 lead] 132)).drewN m) := fun _ => hs1
              have q0 := p1.cell 0
              have q1 := p1.cell 1
              have q2 := p1.cell 2
              by_cases hi : ixP y 4 = k
              · have E := Lib.hid (tk_is (m := (k : Int) + 1) (F.yes l y hlj HY.out HP.out hi) rfl)
                have HX := Lib.hid (show szA (ixP y 4) = #[.int .i64 ((k : Int) + 1), .int .i64 least, .int .i64 lead] by rw [show ixP y 4 = ixF a.toNat 4 from hi.trans HI.out.symm]; exact HZ.out)
                clear hi
                go_wp2
                go_region_held3 (fun w' => w'.cell? ⟨w1.heap.size, 0, none⟩ = some (.int .i64 ((k : Int) + 1)) ∧ w'.cell? ⟨w1.heap.size, 1, none⟩ = some (.int .i64 least) ∧ w'.cell? ⟨w1.heap.size, 2, none⟩ = some (.int .i64 lead)) (first | exact ⟨q0, q1, q2⟩ | exact ⟨(hb3.cell (p := ⟨w1.heap.size, 0, none⟩) (by simp)).trans q0, (hb3.cell (p := ⟨w1.heap.size, 1, none⟩) (by simp)).trans q1, (hb3.cell (p := ⟨w1.heap.size, 2, none⟩) (by simp)).trans q2⟩) (first | (go_at_call 86; refine (isPt_at _ _ HP.out _).mono ?_; rintro e w' ⟨rfl, rfl⟩) | (go_at_call 104; refine (sizeOf_at _ _ HX.out _ (hsM _)).mono ?_; rintro e w3 ⟨rfl, hb3⟩))
                all_goals
                  have r0 := (hb3.cell (p := ⟨w1.heap.size, 0, none⟩) (by simp)).trans q0
                  have hb4 : Below w.heap.size w w3 := (hbM _).trans (hb3.mono (hbM _).size)
                  clear hb3
                  go_wp2
                  go_quiet (fail)
                  go_wp2
                  go_ret2
                  exact ⟨E.out, below_drewN hb4 _⟩
              · have E := Lib.hid (tk_zero (F.no l y hlj HY.out (fun hh => hi hh.2)))
                obtain ⟨i, hi'⟩ : ∃ i, ixP y 4 = i := ⟨_, rfl⟩
                obtain ⟨p, q, hpq⟩ := szA_cnt (ixP y 4) (ixP_le y)
                rw [hi'] at hpq hi
                have HX := Lib.hid (show szA (ixP y 4) = #[.int .i64 ((i : Int) + 1), .int .i64 p, .int .i64 q] by rw [hi']; exact hpq)
                have t1 : (((i : Int) + 1) == ((k : Int) + 1)) = false := beq_false_of_ne (by omega)
                clear hi hi' hpq
                go_wp2
                go_region_held3 (fun w' => w'.cell? ⟨w1.heap.size, 0, none⟩ = some (.int .i64 ((k : Int) + 1)) ∧ w'.cell? ⟨w1.heap.size, 1, none⟩ = some (.int .i64 least) ∧ w'.cell? ⟨w1.heap.size, 2, none⟩ = some (.int .i64 lead)) (first | exact ⟨q0, q1, q2⟩ | exact ⟨(hb3.cell (p := ⟨w1.heap.size, 0, none⟩) (by simp)).trans q0, (hb3.cell (p := ⟨w1.heap.size, 1, none⟩) (by simp)).trans q1, (hb3.cell (p := ⟨w1.heap.size, 2, none⟩) (by simp)).trans q2⟩) (first | (go_at_call 86; refine (isPt_at _ _ HP.out _).mono ?_; rintro e w' ⟨rfl, rfl⟩) | (go_at_call 104; refine (sizeOf_at _ _ HX.out _ (hsM _)).mono ?_; rintro e w3 ⟨rfl, hb3⟩))
                all_goals
                  have hb4 : Below w.heap.size w w3 := (hbM _).trans (hb3.mono (hbM _).size)
                  clear hb3
                  go_wp2
                  go_ret2
                  exact ⟨E.out, hb4⟩
      · go_wp2
        go_loop [5, 34] (fun x i => ∃ (k : Nat) (y : Int), k ≤ j ∧ i = .int .i64 k ∧ x = .int .i64 y ∧ accL ((a.toNat : Int) - lead) (l.take k) = some y) (fun _ i => j - (intOf i).toNat)
        case atStart => exact ⟨0, _, Nat.zero_le _, rfl, rfl, rfl⟩
        case round =>
          obtain ⟨k, y, hk, rfl, rfl, hy⟩ := hrel
          have HY := Lib.hid hy
          clear hy
          obtain ⟨y0, y1⟩ := accL_up _ l k (by omega) (by omega) (by omega) y HY.out
          by_cases hkj : k < j
          · have hck := (hb1.cell (p := ⟨b, o + 1 + k, none⟩) hb).trans (hcs k (by omega))
            have hd := (l[k]'(by omega)).toNat_lt
            have HS := Lib.hid (accL_step _ l k (by omega) y HY.out)
            by_cases hf : fol (l[k]'(by omega)) = true
            · have HF := Lib.hid hf
              obtain ⟨f0, f1⟩ := (fol_iff _).1 hf
              clear hf
              go_wp2
              go_round
              case rel => exact ⟨k + 1, _, by omega, by go_num, rfl, by rw [HS.out, if_pos HF.out]⟩
              case measure => simp [intOf]; omega
            · have E := Lib.hid (tk_zero (F.none_ l hlj (accL_none _ l (k + 1) j (by omega) (by rw [HS.out, if_neg hf]))))
              have hf2 : ¬ (128 ≤ (l[k]'(by omega)).toNat ∧ (l[k]'(by omega)).toNat < 192) := fun h => hf ((fol_iff _).2 h)
              by_cases f0 : (l[k]'(by omega)).toNat < 128
              · clear hf hf2
                go_wp2
                go_ret2
                exact ⟨E.out, hbM _⟩
              · have f1 : 192 ≤ (l[k]'(by omega)).toNat := by omega
                clear hf hf2
                go_wp2
                go_ret2
                exact ⟨E.out, hbM _⟩
          · obtain rfl : k = j := by omega
            have hs1 : Siz (w1.alloc (.cells #[.int .i64 ((k : Int) + 1), .int .i64 least, .int .i64 lead] 132)) := hs.below' (hb1.alloc hb1.size _)
            cases hp : isPt y with
            | false =>
              have E := Lib.hid (tk_zero (F.no l y hlj HY.out (fun hh => by rw [hp] at hh; cases hh.1)))
              have HP := Lib.hid hp
              clear hp
              go_wp2
              go_quiet ((go_at_call 86; exact quiet_more (isPt_same _ _ HP.out _)))
              go_wp2
              go_ret2
              exact ⟨E.out, below_drewN (hbM _) _⟩
            | true =>
              have HP := Lib.hid hp
              clear hp
              have hsM : ∀ m, Siz ((w1.alloc (.cells #[.int .i64 ((k : Int) + 1), .int .i64 least, .int .i64 lead] 132)).drewN m) := fun _ => hs1
              have q0 := p1.cell 0
              have q1 := p1.cell 1
              have q2 := p1.cell 2
              by_cases hi : ixP y 4 = k
              · have E := Lib.hid (tk_is (m := (k : Int) + 1) (F.yes l y hlj HY.out HP.out hi) rfl)
                have HX := Lib.hid (show szA (ixP y 4) = #[.int .i64 ((k : Int) + 1), .int .i64 least, .int .i64 lead] by rw [show ixP y 4 = ixF a.toNat 4 from hi.trans HI.out.symm]; exact HZ.out)
                clear hi
                go_wp2
                go_region_held3 (fun w' => w'.cell? ⟨w1.heap.size, 0, none⟩ = some (.int .i64 ((k : Int) + 1)) ∧ w'.cell? ⟨w1.heap.size, 1, none⟩ = some (.int .i64 least) ∧ w'.cell? ⟨w1.heap.size, 2, none⟩ = some (.int .i64 lead)) (first | exact ⟨q0, q1, q2⟩ | exact ⟨(hb3.cell (p := ⟨w1.heap.size, 0, none⟩) (by simp)).trans q0, (hb3.cell (p := ⟨w1.heap.size, 1, none⟩) (by simp)).trans q1, (hb3.cell (p := ⟨w1.heap.size, 2, none⟩) (by simp)).trans q2⟩) (first | (go_at_call 86; refine (isPt_at _ _ HP.out _).mono ?_; rintro e w' ⟨rfl, rfl⟩) | (go_at_call 104; refine (sizeOf_at _ _ HX.out _ (hsM _)).mono ?_; rintro e w3 ⟨rfl, hb3⟩))
                all_goals
                  have r0 := (hb3.cell (p := ⟨w1.heap.size, 0, none⟩) (by simp)).trans q0
                  have hb4 : Below w.heap.size w w3 := (hbM _).trans (hb3.mono (hbM _).size)
                  clear hb3
                  go_wp2
                  go_quiet (fail)
                  go_wp2
                  go_ret2
                  exact ⟨E.out, below_drewN hb4 _⟩
              · have E := Lib.hid (tk_zero (F.no l y hlj HY.out (fun hh => hi hh.2)))
                obtain ⟨i, hi'⟩ : ∃ i, ixP y 4 = i := ⟨_, rfl⟩
                obtain ⟨p, q, hpq⟩ := szA_cnt (ixP y 4) (ixP_le y)
                rw [hi'] at hpq hi
                have HX := Lib.hid (show szA (ixP y 4) = #[.int .i64 ((i : Int) + 1), .int .i64 p, .int .i64 q] by rw [hi']; exact hpq)
                have t1 : (((i : Int) + 1) == ((k : Int) + 1)) = false := beq_false_of_ne (by omega)
                clear hi hi' hpq
                go_wp2
                go_region_held3 (fun w' => w'.cell? ⟨w1.heap.size, 0, none⟩ = some (.int .i64 ((k : Int) + 1)) ∧ w'.cell? ⟨w1.heap.size, 1, none⟩ = some (.int .i64 least) ∧ w'.cell? ⟨w1.heap.size, 2, none⟩ = some (.int .i64 lead)) (first | exact ⟨q0, q1, q2⟩ | exact ⟨(hb3.cell (p := ⟨w1.heap.size, 0, none⟩) (by simp)).trans q0, (hb3.cell (p := ⟨w1.heap.size, 1, none⟩) (by simp)).trans q1, (hb3.cell (p := ⟨w1.heap.size, 2, none⟩) (by simp)).trans q2⟩) (first | (go_at_call 86; refine (isPt_at _ _ HP.out _).mono ?_; rintro e w' ⟨rfl, rfl⟩) | (go_at_call 104; refine (sizeOf_at _ _ HX.out _ (hsM _)).mono ?_; rintro e w3 ⟨rfl, hb3⟩))
                all_goals
                  have hb4 : Below w.heap.size w w3 := (hbM _).trans (hb3.mono (hbM _).size)
                  clear hb3
                  go_wp2
                  go_ret2
                  exact ⟨E.out, hb4⟩
end Go.Proofs.YtmagokkegadmiaaGreatDoor
namespace Go.Proofs.YtmagokkegadmiaaGreatDoor
open Go.RowKit

/-- Texts as values, in a row. -/
def ss_ (l : List (List UInt8)) : List Value := l.map fun t => .string ⟨t.toArray⟩
theorem join_cons2 (sep p q : List UInt8) (l : List (List UInt8)) : Lib.join (p :: q :: l) sep = p ++ sep ++ Lib.join (q :: l) sep := by
  simp [Lib.join, List.intercalate_cons_cons]
theorem join_part (p : List Int) : Lib.join (p.map textL) [58] = partL p := by
  match p with
  | [] => rfl
  | [n] => simp [Lib.join, partL]
  | n :: m :: p =>
    rw [List.map_cons, List.map_cons, join_cons2, ← List.map_cons, join_part (m :: p)]
    simp [partL]
theorem join_par (l : List (List Int)) : Lib.join (l.map partL) [59] = parL l := by
  match l with
  | [] => rfl
  | [n] => simp [Lib.join, parL]
  | n :: m :: p =>
    rw [List.map_cons, List.map_cons, join_cons2, ← List.map_cons, join_par (m :: p)]
    simp [parL]

set_option maxRecDepth 100000 in
set_option maxHeartbeats 4000000 in
theorem join_any (A : Option Addr) (n c : Nat) (l : List (List UInt8)) (sep T : List UInt8) (w : World) (hn : l.length = n) (hT : Lib.join l sep = T) (hl : n ≤ 4294967296) (hc : n ≤ c) (hlen : T.length ≤ 140737488355328) (hr : Rd w A (ss_ l)) :
    Calls Tryz.prog 42 #[.string ⟨sep.toArray⟩, .slice A n c] w fun e w' => e = .returned (.string ⟨T.toArray⟩) ∧ Below w.heap.size w w' := by
  have hm : (l.map fun t : List UInt8 => (⟨t.toArray⟩ : ByteArray)).map (·.data.toList) = l := by
    rw [List.map_map]
    calc l.map _ = l.map id := List.map_congr_left (fun x _ => by simp)
      _ = l := List.map_id l
  by_cases h0 : n = 0
  · subst h0
    have e0 : l = [] := List.eq_nil_of_length_eq_zero hn
    subst e0
    obtain rfl : [] = T := hT
    go_enter Tryz.func42, Tryz.ntmps42
    go_wp2_with fail
    refine (Tryz.strings_Join_none A c _ _).mono ?_
    rintro e w1 ⟨rfl, rfl⟩
    go_wp2_with fail
    go_ret
    exact ⟨rfl, Below.refl _ _⟩
  · obtain ⟨b, o, rfl, hb, hcc⟩ := hr (by simp [ss_]; omega)
    have HJ := Lib.hid (show Lib.join ((l.map fun t : List UInt8 => (⟨t.toArray⟩ : ByteArray)).map (·.data.toList)) (⟨sep.toArray⟩ : ByteArray).data.toList = T by rw [hm]; exact hT)
    have hcells : Hid (∀ (j : Nat) (x : ByteArray), (l.map fun t : List UInt8 => (⟨t.toArray⟩ : ByteArray))[j]? = some x → w.cell? ⟨b, o + j, none⟩ = some (.string x)) := Lib.hid fun j x hx => hcc j _ (by
      unfold ss_
      rw [List.getElem?_map] at hx ⊢
      cases hj : l[j]? with
      | none => rw [hj] at hx; cases hx
      | some t => rw [hj] at hx; simp at hx; subst hx; rfl)
    have HLn := Lib.hid (show (l.map fun t : List UInt8 => (⟨t.toArray⟩ : ByteArray)).length = n by rw [List.length_map]; exact hn)
    clear hm hcc hT hn
    have hJ := Tryz.strings_Join b o c (l.map fun t : List UInt8 => (⟨t.toArray⟩ : ByteArray)) ⟨sep.toArray⟩ w hcells.out hb (by rw [HLn.out]; omega) (by rw [HLn.out]; exact hc) (by rw [HJ.out]; exact hlen)
    rw [HJ.out, HLn.out] at hJ
    go_enter Tryz.func42, Tryz.ntmps42
    go_wp2_with fail
    refine hJ.mono ?_
    rintro e w1 ⟨rfl, hb1⟩
    go_wp2_with fail
    go_ret
    exact ⟨rfl, hb1⟩
end Go.Proofs.YtmagokkegadmiaaGreatDoor
namespace Go.Proofs.YtmagokkegadmiaaGreatDoor
section
variable {H : Type} {enc : TypeId × Value → H}
theorem witness_row_ref {C : Checked} {os : Os} {f : FuncId} {fn : Func} {s : OpenSpec} {conds : List PathCond} {apart : Bool} {laid : List (String × DataW Unit)} (modest : Bool) (w0 : World) (args : Array Value) (hos : w0.os = os)
    (hv : (w0.forCall (fun _ _ => 0) ⟨#[], args, []⟩).variablesRefB C.prog = true)
    (hr : ((w0.forCall (fun _ _ => 0) ⟨#[], args, []⟩).heap.toList.drop C.prog.globals.size).take ((begin C.prog (fun _ _ => 0) default).world.heap.size - C.prog.globals.size) =
      (begin C.prog (fun _ _ => 0) default).world.heap.toList.drop C.prog.globals.size)
    (hok : Input.okWideB C.prog (w0.forCall (fun _ _ => 0) ⟨#[], args, []⟩) f ⟨#[], args, []⟩ = true)
    (hrow : s.preRow enc C.prog fn conds apart laid (w0.forCall (fun _ _ => 0) ⟨#[], args, []⟩).memory args) :
    ∃ (w : World) (tape : Tape) (i : Input), w.os = os ∧ (w.forCall tape i).Shaped C.prog ∧ i.vars = [] ∧ Input.okWide C.prog (w.forCall tape i) .any w.heap.size f i ∧
      s.preRow enc C.prog fn conds apart laid (w.forCall tape i).memory i.args ∧ ({ modest := modest } : Assume).holds C.prog (lone (Frame.enter C.prog f i.args .normal) [] (w.forCall tape i)) := by
  obtain ⟨w, tape, i, h1, h2, h3, h4, h5, h6, _⟩ := OpenSpec.witness_stopped_atRef (enc := enc) (C := C) (fn := fn) (s := s) (conds := conds) (apart := apart) (laid := laid) modest w0 args hos hv hr hok hrow (fun _ _ _ => 0)
  exact ⟨w, tape, i, h1, h2, h3, h4, h5, h6⟩
end
end Go.Proofs.YtmagokkegadmiaaGreatDoor
