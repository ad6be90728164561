/-
  Layer 2's mathematics: how the program reckons the code point with which bytes begin. Layer 2, walked: Take. Layer 3, walked: Arg, the program's and the document's. The library's comparison of two lists of numbers, walked.
-/
import Derived.Test.YtmagokkegadmiaaDoorG07
import Derived.Test.YtmagokkegadmiaaDoorG14
import Derived.Test.YtmagokkegadmiaaDoorG15
import Derived.Test.YtmagokkegadmiaaDoorG16
import Derived.Test.YtmagokkegadmiaaDoorG18
import Derived.Deep.RegionHeld3
import Derived.Deep.QuietTactic
import Derived.BigQuiet
namespace Go.Proofs.YtmagokkegadmiaaDoor

/-- What the program reckons is what is told. -/
structure Fst (a : UInt8) (j : Nat) (lead : Int) : Prop where
  short : ∀ l : List UInt8, l.length < j → takeL (a :: l) = (0, 0)
  none_ : ∀ l : List UInt8, j ≤ l.length → accL ((a.toNat : Int) - lead) (l.take j) = none → takeL (a :: l) = (0, 0)
  no : ∀ (l : List UInt8) (x : Int), j ≤ l.length → accL ((a.toNat : Int) - lead) (l.take j) = some x → ¬ (isPt x = true ∧ ixP x 4 = j) → takeL (a :: l) = (0, 0)
  yes : ∀ (l : List UInt8) (x : Int), j ≤ l.length → accL ((a.toNat : Int) - lead) (l.take j) = some x → isPt x = true → ixP x 4 = j → takeL (a :: l) = (x, j + 1)

theorem ix0 (x : Int) : ixP x 4 = 0 ↔ x < 128 := by unfold ixP; (repeat' split) <;> omega
theorem ix1 (x : Int) : ixP x 4 = 1 ↔ 128 ≤ x ∧ x < 2048 := by unfold ixP; (repeat' split) <;> omega
theorem ix2 (x : Int) : ixP x 4 = 2 ↔ 2048 ≤ x ∧ x < 65536 := by unfold ixP; (repeat' split) <;> omega
theorem ix3 (x : Int) : ixP x 4 = 3 ↔ 65536 ≤ x := by unfold ixP; (repeat' split) <;> omega

theorem fst_split (a : UInt8) : ∃ (j : Nat) (least lead : Int), j ≤ 3 ∧ ixF a.toNat 4 = j ∧ szA (ixF a.toNat 4) = #[.int .i64 ((j : Int) + 1), .int .i64 least, .int .i64 lead] ∧ 0 ≤ lead ∧ lead ≤ a.toNat ∧ Fst a j lead := by
  have ha := a.toNat_lt
  by_cases a1 : a.toNat < 192
  · have e : ixF a.toNat 4 = 0 := by unfold ixF; (repeat' split) <;> omega
    refine ⟨0, 0, 0, by omega, e, by rw [e]; rfl, by omega, by omega, ⟨fun l h => absurd h (by omega), fun l _ h => ?_, fun l x _ h hn => ?_, fun l x _ h hp hi => ?_⟩⟩
    · cases h
    · obtain rfl : (a.toNat : Int) = x := by have := Option.some.inj h; omega
      simp only [takeL]
      rw [if_pos a1]
      by_cases a2 : a.toNat < 128
      · exact absurd ⟨(isPt_iff _).2 (by omega), (ix0 _).2 (by omega)⟩ hn
      · rw [if_neg a2]
    · obtain rfl : (a.toNat : Int) = x := by have := Option.some.inj h; omega
      have := (ix0 _).1 hi
      simp only [takeL]
      rw [if_pos a1, if_pos (by omega)]
      rfl
  · by_cases a2 : a.toNat < 224
    · have e : ixF a.toNat 4 = 1 := by unfold ixF; (repeat' split) <;> omega
      refine ⟨1, 128, 192, by omega, e, by rw [e]; rfl, by omega, by omega, ⟨fun l h => ?_, fun l hl h => ?_, fun l x hl h hn => ?_, fun l x hl h hp hi => ?_⟩⟩
      · match l, h with
        | [], _ => simp only [takeL]; rw [if_neg a1, if_pos a2]
      · match l, hl with
        | b :: l, _ =>
          simp only [takeL]; rw [if_neg a1, if_pos a2]
          by_cases f1 : fol b = true
          · simp [accL, f1] at h
          · rw [if_neg (fun hh => f1 hh.1)]
      · match l, hl with
        | b :: l, _ =>
          simp only [takeL]; rw [if_neg a1, if_pos a2]
          by_cases f1 : fol b = true
          · have hx : num2 a b = x := by simpa [accL, f1, num2] using h
            have e0 : num2 a b = ((a.toNat : Int) - 192) * 64 + ((b.toNat : Int) - 128) := rfl
            have := (fol_iff b).1 f1
            rw [hx]
            rw [if_neg (fun hh => hn ⟨hh.2.1, (ix1 x).2 (by omega)⟩)]
          · rw [if_neg (fun hh => f1 hh.1)]
      · match l, hl with
        | b :: l, _ =>
          simp only [takeL]; rw [if_neg a1, if_pos a2]
          by_cases f1 : fol b = true
          · have hx : num2 a b = x := by simpa [accL, f1, num2] using h
            rw [hx, if_pos ⟨f1, hp, ((ix1 x).1 hi).1⟩]
          · simp [accL, f1] at h
    · by_cases a3 : a.toNat < 240
      · have e : ixF a.toNat 4 = 2 := by unfold ixF; (repeat' split) <;> omega
        refine ⟨2, 2048, 224, by omega, e, by rw [e]; rfl, by omega, by omega, ⟨fun l h => ?_, fun l hl h => ?_, fun l x hl h hn => ?_, fun l x hl h hp hi => ?_⟩⟩
        · match l, h with
          | [], _ => simp only [takeL]; rw [if_neg a1, if_neg a2, if_pos a3]
          | [_], _ => simp only [takeL]; rw [if_neg a1, if_neg a2, if_pos a3]
        · match l, hl with
          | b :: c :: l, _ =>
            simp only [takeL]; rw [if_neg a1, if_neg a2, if_pos a3]
            by_cases f1 : fol b = true
            · by_cases f2 : fol c = true
              · simp [accL, f1, f2] at h
              · rw [if_neg (fun hh => f2 hh.2.1)]
            · rw [if_neg (fun hh => f1 hh.1)]
        · match l, hl with
          | b :: c :: l, _ =>
            simp only [takeL]; rw [if_neg a1, if_neg a2, if_pos a3]
            by_cases f1 : fol b = true
            · by_cases f2 : fol c = true
              · have hx : num3 a b c = x := by simpa [accL, f1, f2, num3] using h
                have e0 : num3 a b c = (((a.toNat : Int) - 224) * 64 + ((b.toNat : Int) - 128)) * 64 + ((c.toNat : Int) - 128) := rfl
                have := (fol_iff b).1 f1
                have := (fol_iff c).1 f2
                rw [hx]
                rw [if_neg (fun hh => hn ⟨hh.2.2.1, (ix2 x).2 (by omega)⟩)]
              · rw [if_neg (fun hh => f2 hh.2.1)]
            · rw [if_neg (fun hh => f1 hh.1)]
        · match l, hl with
          | b :: c :: l, _ =>
            simp only [takeL]; rw [if_neg a1, if_neg a2, if_pos a3]
            by_cases f1 : fol b = true
            · by_cases f2 : fol c = true
              · have hx : num3 a b c = x := by simpa [accL, f1, f2, num3] using h
                rw [hx, if_pos ⟨f1, f2, hp, ((ix2 x).1 hi).1⟩]
              · simp [accL, f1, f2] at h
            · simp [accL, f1] at h
      · have e : ixF a.toNat 4 = 3 := by unfold ixF; (repeat' split) <;> omega
        refine ⟨3, 65536, 240, by omega, e, by rw [e]; rfl, by omega, by omega, ⟨fun l h => ?_, fun l hl h => ?_, fun l x hl h hn => ?_, fun l x hl h hp hi => ?_⟩⟩
        · match l, h with
          | [], _ => simp only [takeL]; rw [if_neg a1, if_neg a2, if_neg a3]
          | [_], _ => simp only [takeL]; rw [if_neg a1, if_neg a2, if_neg a3]
          | [_, _], _ => simp only [takeL]; rw [if_neg a1, if_neg a2, if_neg a3]
        · match l, hl with
          | b :: c :: d :: l, _ =>
            simp only [takeL]; rw [if_neg a1, if_neg a2, if_neg a3]
            by_cases f1 : fol b = true
            · by_cases f2 : fol c = true
              · by_cases f3 : fol d = true
                · simp [accL, f1, f2, f3] at h
                · rw [if_neg (fun hh => f3 hh.2.2.1)]
              · rw [if_neg (fun hh => f2 hh.2.1)]
            · rw [if_neg (fun hh => f1 hh.1)]
        · match l, hl with
          | b :: c :: d :: l, _ =>
            simp only [takeL]; rw [if_neg a1, if_neg a2, if_neg a3]
            by_cases f1 : fol b = true
            · by_cases f2 : fol c = true
              · by_cases f3 : fol d = true
                · have hx : num4 a b c d = x := by simpa [accL, f1, f2, f3, num4] using h
                  rw [hx]
                  rw [if_neg (fun hh => hn ⟨hh.2.2.2.1, (ix3 x).2 hh.2.2.2.2⟩)]
                · rw [if_neg (fun hh => f3 hh.2.2.1)]
              · rw [if_neg (fun hh => f2 hh.2.1)]
            · rw [if_neg (fun hh => f1 hh.1)]
        · match l, hl with
          | b :: c :: d :: l, _ =>
            simp only [takeL]; rw [if_neg a1, if_neg a2, if_neg a3]
            by_cases f1 : fol b = true
            · by_cases f2 : fol c = true
              · by_cases f3 : fol d = true
                · have hx : num4 a b c d = x := by simpa [accL, f1, f2, f3, num4] using h
                  rw [hx, if_pos ⟨f1, f2, f3, hp, ((ix3 x).1 hi)⟩]
                · simp [accL, f1, f2, f3] at h
              · simp [accL, f1, f2] at h
            · simp [accL, f1] at h
end Go.Proofs.YtmagokkegadmiaaDoor
namespace Go.Proofs.YtmagokkegadmiaaDoor
open Go.RowKit

/-- A quiet call, in a world that has drawn already. -/
theorem quiet_more {P : Program} {f : FuncId} {args : Array Value} {w : World} {a n : Nat} {v : Value} (h : Calls P f args (w.drewN (a + n)) fun e w' => e = .returned v ∧ w' = w.drewN (a + n)) : Calls P f args (w.drewN (a + n)) fun e w' => e = .returned v ∧ ∃ m, w' = w.drewN (a + m) :=
  h.mono fun _ _ h => ⟨h.1, n, h.2⟩
theorem isPt_at (r : Int) (p : Bool) (h : isPt r = p) (w : World) : Calls Tryd.prog 67 #[.int .i64 r] w fun e w' => e = .returned (.bool p) ∧ w = w' := by
  subst h
  exact isPt_any r w
theorem isPt_same (r : Int) (p : Bool) (h : isPt r = p) (w : World) : Calls Tryd.prog 67 #[.int .i64 r] w fun e w' => e = .returned (.bool p) ∧ w' = w := (isPt_at r p h w).mono fun _ _ ⟨a, b⟩ => ⟨a, b.symm⟩
theorem sizeOf_at (r : Int) (u : Array Value) (h : szA (ixP r 4) = u) (w : World) (hs : Siz w) : Calls Tryd.prog 77 #[.int .i64 r] w fun e w' => e = .returned (.agg u) ∧ Below w.heap.size w w' := by
  subst h
  exact sizeOf_any r w hs
theorem szA_cnt (i : Nat) (h : i ≤ 3) : ∃ p q : Int, szA i = #[.int .i64 ((i : Int) + 1), .int .i64 p, .int .i64 q] := by
  obtain rfl | rfl | rfl | rfl : i = 0 ∨ i = 1 ∨ i = 2 ∨ i = 3 := by omega
  all_goals exact ⟨_, _, rfl⟩
theorem ixP_le (r : Int) : ixP r 4 ≤ 3 := by unfold ixP; (repeat' split) <;> omega

set_option maxRecDepth 100000 in
set_option maxHeartbeats 4000000 in
theorem take_any (A : Option Addr) (c : Nat) (l : List UInt8) (w : World) (hs : Siz w) (hl : l.length ≤ 4294967296) (hlc : l.length ≤ c) (hr : Rd w A (bs l)) :
    Calls Tryd.prog 76 #[.slice A l.length c] w fun e w' => e = Tk l ∧ Below w.heap.size w w' := by
  cases l with
  | nil =>
    go_enter Tryd.func76, Tryd.ntmps76
    go_wp2_with fail
    go_ret2
    exact ⟨tk_zero rfl, Below.refl _ _⟩
  | cons a l =>
    obtain ⟨b, o, rfl, hb, hc⟩ := hr.at_ (by simp)
    have hc0 := hc 0 (by simp)
    have ha := a.toNat_lt
    simp only [Nat.add_zero, List.getElem_cons_zero] at hc0
    simp only [List.length_cons] at hl hlc
    obtain ⟨j, least, lead, hj, hix, hz, l0, l1, F⟩ := fst_split a
    have HZ := Lib.hid hz
    have HI := Lib.hid hix
    clear hix hz
    by_cases hlt : l.length < j
    · have E := Lib.hid (tk_zero (F.short l hlt))
      clear F hc
      go_enter Tryd.func76, Tryd.ntmps76
      go_wp2_with fail
      refine (sizeByFirst_any _ _ hs).mono ?_
      rw [HZ.out]
      rintro e w1 ⟨rfl, hb1⟩
      have p1 := Blk.new w1 123 #[.int .i64 ((j : Int) + 1), .int .i64 least, .int .i64 lead]
      have g0 := p1.cell 0
      go_wp2
      go_ret2
      exact ⟨E.out, hb1.alloc hb1.size _⟩
    · have hlj : j ≤ l.length := by omega
      go_enter Tryd.func76, Tryd.ntmps76
      go_wp2_with fail
      refine (sizeByFirst_any _ _ hs).mono ?_
      rw [HZ.out]
      rintro e w1 ⟨rfl, hb1⟩
      have hc1 := (hb1.cell (p := ⟨b, o, none⟩) hb).trans hc0
      have p1 := Blk.new w1 123 #[.int .i64 ((j : Int) + 1), .int .i64 least, .int .i64 lead]
      have g0 := p1.cell 0
      have g2 := p1.cell 2
      have hb2 := Nat.lt_of_lt_of_le hb hb1.size
      go_wp2
      go_quiet (fail)
      have hcs : ∀ k (hk : k < l.length), w.cell? ⟨b, o + 1 + k, none⟩ = some (.int .u8 ((l[k]'hk).toNat : Int)) := fun k hk => by
        have := hc (k + 1) (by simpa using hk)
        rw [show o + 1 + k = o + (k + 1) by omega]
        simpa using this
      have hbM : ∀ m, Below w.heap.size w ((w1.alloc (.cells #[.int .i64 ((j : Int) + 1), .int .i64 least, .int .i64 lead] 123)).drewN m) := fun m => below_drewN (hb1.alloc hb1.size _) m
      by_cases h1c : c = 1
      · subst h1c
        go_wp2
        go_loop [5, 34] (fun x i => ∃ (k : Nat) (y : Int), k ≤ j ∧ i = .int .i64 k ∧ x = .int .i64 y ∧ accL ((a.toNat : Int) - lead) (l.take k) = some y) (fun _ i => j - (intOf i).toNat)
        case atStart => exact ⟨0, _, Nat.zero_le _, rfl, rfl, rfl⟩
        case round =>
          obtain ⟨k, y, hk, rfl, rfl, hy⟩ := hrel
          have HY := Lib.hid hy
          clear hy
          obtain ⟨y0, y1⟩ := accL_up _ l k (by omega) (by omega) (by omega) y HY.out
          by_cases hkj : k < j
          · exfalso; omega
          · obtain rfl : k = j := by omega
            have hs1 : Siz (w1.alloc (.cells #[.int .i64 ((k : Int) + 1), .int .i64 least, .int .i64 lead] 123)) := hs.below' (hb1.alloc hb1.size _)
            cases hp : isPt y with
            | false =>
              have E := Lib.hid (tk_zero (F.no l y hlj HY.out (fun hh => by rw [hp] at hh; cases hh.1)))
              have HP := Lib.hid hp
              clear hp
              go_wp2
              go_quiet ((go_at_call 67; exact quiet_more (isPt_same _ _ HP.out _)))
              go_wp2
              go_ret2
              exact ⟨E.out, below_drewN (hbM _) _⟩
            | true =>
              have HP := Lib.hid hp
              clear hp
              have hsM : ∀ m, Siz ((w1.alloc (.cells #[.int .i64 ((k : Int) + 1), .int .i64 least, .int .i64 lead] 123)).drewN m) := fun _ => hs1
              have q0 := p1.cell 0
              have q1 := p1.cell 1
              have q2 := p1.cell 2
              by_cases hi : ixP y 4 = k
              · have E := Lib.hid (tk_is (m := (k : Int) + 1) (F.yes l y hlj HY.out HP.out hi) rfl)
                have HX := Lib.hid (show szA (ixP y 4) = #[.int .i64 ((k : Int) + 1), .int .i64 least, .int .i64 lead] by rw [show ixP y 4 = ixF a.toNat 4 from hi.trans HI.out.symm]; exact HZ.out)
                clear hi
                go_wp2
                go_region_held3 (fun w' => w'.cell? ⟨w1.heap.size, 0, none⟩ = some (.int .i64 ((k : Int) + 1)) ∧ w'.cell? ⟨w1.heap.size, 1, none⟩ = some (.int .i64 least) ∧ w'.cell? ⟨w1.heap.size, 2, none⟩ = some (.int .i64 lead)) (first | exact ⟨q0, q1, q2⟩ | exact ⟨(hb3.cell (p := ⟨w1.heap.size, 0, none⟩) (by simp)).trans q0, (hb3.cell (p := ⟨w1.heap.size, 1, none⟩) (by simp)).trans q1, (hb3.cell (p := ⟨w1.heap.size, 2, none⟩) (by simp)).trans q2⟩) (first | (go_at_call 67; refine (isPt_at _ _ HP.out _).mono ?_; rintro e w' ⟨rfl, rfl⟩) | (go_at_call 77; refine (sizeOf_at _ _ HX.out _ (hsM _)).mono ?_; rintro e w3 ⟨rfl, hb3⟩))
                all_goals
                  have r0 := (hb3.cell (p := ⟨w1.heap.size, 0, none⟩) (by simp)).trans q0
                  have hb4 : Below w.heap.size w w3 := (hbM _).trans (hb3.mono (hbM _).size)
                  clear hb3
                  go_wp2
                  go_quiet (fail)
                  go_wp2
                  go_ret2
                  exact ⟨E.out, below_drewN hb4 _⟩
              · have E := Lib.hid (tk_zero (F.no l y hlj HY.out (fun hh => hi hh.2)))
                obtain ⟨i, hi'⟩ : ∃ i, ixP y 4 = i := ⟨_, rfl⟩
                obtain ⟨p, q, hpq⟩ := szA_cnt (ixP y 4) (ixP_le y)
                rw [hi'] at hpq hi
                have HX := Lib.hid (show szA (ixP y 4) = #[.int .i64 ((i : Int) + 1), .int .i64 p, .int .i64 q] by rw [hi']; exact hpq)
                have t1 : (((i : Int) + 1) == ((k : Int) + 1)) = false := beq_false_of_ne (by omega)
                clear hi hi' hpq
                go_wp2
                go_region_held3 (fun w' => w'.cell? ⟨w1.heap.size, 0, none⟩ = some (.int .i64 ((k : Int) + 1)) ∧ w'.cell? ⟨w1.heap.size, 1, none⟩ = some (.int .i64 least) ∧ w'.cell? ⟨w1.heap.size, 2, none⟩ = some (.int .i64 lead)) (first | exact ⟨q0, q1, q2⟩ | exact ⟨(hb3.cell (p := ⟨w1.heap.size, 0, none⟩) (by simp)).trans q0, (hb3.cell (p := ⟨w1.heap.size, 1, none⟩) (by simp)).trans q1, (hb3.cell (p := ⟨w1.heap.size, 2, none⟩) (by simp)).trans q2⟩) (first | (go_at_call 67; refine (isPt_at _ _ HP.out _).mono ?_; rintro e w' ⟨rfl, rfl⟩) | (go_at_call 77; refine (sizeOf_at _ _ HX.out _ (hsM _)).mono ?_; rintro e w3 ⟨rfl, hb3⟩))
                all_goals
                  have hb4 : Below w.heap.size w w3 := (hbM _).trans (hb3.mono (hbM _).size)
                  clear hb3
                  go_wp2
                  go_ret2
                  exact ⟨E.out, hb4⟩
      · go_wp2
        go_loop [5, 34] (fun x i => ∃ (k : Nat) (y : Int), k ≤ j ∧ i = .int .i64 k ∧ x = .int .i64 y ∧ accL ((a.toNat : Int) - lead) (l.take k) = some y) (fun _ i => j - (intOf i).toNat)
        case atStart => exact ⟨0, _, Nat.zero_le _, rfl, rfl, rfl⟩
        case round =>
          obtain ⟨k, y, hk, rfl, rfl, hy⟩ := hrel
          have HY := Lib.hid hy
          clear hy
          obtain ⟨y0, y1⟩ := accL_up _ l k (by omega) (by omega) (by omega) y HY.out
          by_cases hkj : k < j
          · have hck := (hb1.cell (p := ⟨b, o + 1 + k, none⟩) hb).trans (hcs k (by omega))
            have hd := (l[k]'(by omega)).toNat_lt
            have HS := Lib.hid (accL_step _ l k (by omega) y HY.out)
            by_cases hf : fol (l[k]'(by omega)) = true
            · have HF := Lib.hid hf
              obtain ⟨f0, f1⟩ := (fol_iff _).1 hf
              clear hf
              go_wp2
              go_round
              case rel => exact ⟨k + 1, _, by omega, by go_num, rfl, by rw [HS.out, if_pos HF.out]⟩
              case measure => simp [intOf]; omega
            · have E := Lib.hid (tk_zero (F.none_ l hlj (accL_none _ l (k + 1) j (by omega) (by rw [HS.out, if_neg hf]))))
              have hf2 : ¬ (128 ≤ (l[k]'(by omega)).toNat ∧ (l[k]'(by omega)).toNat < 192) := fun h => hf ((fol_iff _).2 h)
              by_cases f0 : (l[k]'(by omega)).toNat < 128
              · clear hf hf2
                go_wp2
                go_ret2
                exact ⟨E.out, hbM _⟩
              · have f1 : 192 ≤ (l[k]'(by omega)).toNat := by omega
                clear hf hf2
                go_wp2
                go_ret2
                exact ⟨E.out, hbM _⟩
          · obtain rfl : k = j := by omega
            have hs1 : Siz (w1.alloc (.cells #[.int .i64 ((k : Int) + 1), .int .i64 least, .int .i64 lead] 123)) := hs.below' (hb1.alloc hb1.size _)
            cases hp : isPt y with
            | false =>
              have E := Lib.hid (tk_zero (F.no l y hlj HY.out (fun hh => by rw [hp] at hh; cases hh.1)))
              have HP := Lib.hid hp
              clear hp
              go_wp2
              go_quiet ((go_at_call 67; exact quiet_more (isPt_same _ _ HP.out _)))
              go_wp2
              go_ret2
              exact ⟨E.out, below_drewN (hbM _) _⟩
            | true =>
              have HP := Lib.hid hp
              clear hp
              have hsM : ∀ m, Siz ((w1.alloc (.cells #[.int .i64 ((k : Int) + 1), .int .i64 least, .int .i64 lead] 123)).drewN m) := fun _ => hs1
              have q0 := p1.cell 0
              have q1 := p1.cell 1
              have q2 := p1.cell 2
              by_cases hi : ixP y 4 = k
              · have E := Lib.hid (tk_is (m := (k : Int) + 1) (F.yes l y hlj HY.out HP.out hi) rfl)
                have HX := Lib.hid (show szA (ixP y 4) = #[.int .i64 ((k : Int) + 1), .int .i64 least, .int .i64 lead] by rw [show ixP y 4 = ixF a.toNat 4 from hi.trans HI.out.symm]; exact HZ.out)
                clear hi
                go_wp2
                go_region_held3 (fun w' => w'.cell? ⟨w1.heap.size, 0, none⟩ = some (.int .i64 ((k : Int) + 1)) ∧ w'.cell? ⟨w1.heap.size, 1, none⟩ = some (.int .i64 least) ∧ w'.cell? ⟨w1.heap.size, 2, none⟩ = some (.int .i64 lead)) (first | exact ⟨q0, q1, q2⟩ | exact ⟨(hb3.cell (p := ⟨w1.heap.size, 0, none⟩) (by simp)).trans q0, (hb3.cell (p := ⟨w1.heap.size, 1, none⟩) (by simp)).trans q1, (hb3.cell (p := ⟨w1.heap.size, 2, none⟩) (by simp)).trans q2⟩) (first | (go_at_call 67; refine (isPt_at _ _ HP.out _).mono ?_; rintro e w' ⟨rfl, rfl⟩) | (go_at_call 77; refine (sizeOf_at _ _ HX.out _ (hsM _)).mono ?_; rintro e w3 ⟨rfl, hb3⟩))
                all_goals
                  have r0 := (hb3.cell (p := ⟨w1.heap.size, 0, none⟩) (by simp)).trans q0
                  have hb4 : Below w.heap.size w w3 := (hbM _).trans (hb3.mono (hbM _).size)
                  clear hb3
                  go_wp2
                  go_quiet (fail)
                  go_wp2
                  go_ret2
                  exact ⟨E.out, below_drewN hb4 _⟩
              · have E := Lib.hid (tk_zero (F.no l y hlj HY.out (fun hh => hi hh.2)))
                obtain ⟨i, hi'⟩ : ∃ i, ixP y 4 = i := ⟨_, rfl⟩
                obtain ⟨p, q, hpq⟩ := szA_cnt (ixP y 4) (ixP_le y)
                rw [hi'] at hpq hi
                have HX := Lib.hid (show szA (ixP y 4) = #[.int .i64 ((i : Int) + 1), .int .i64 p, .int .i64 q] by rw [hi']; exact hpq)
                have t1 : (((i : Int) + 1) == ((k : Int) + 1)) = false := beq_false_of_ne (by omega)
                clear hi hi' hpq
                go_wp2
                go_region_held3 (fun w' => w'.cell? ⟨w1.heap.size, 0, none⟩ = some (.int .i64 ((k : Int) + 1)) ∧ w'.cell? ⟨w1.heap.size, 1, none⟩ = some (.int .i64 least) ∧ w'.cell? ⟨w1.heap.size, 2, none⟩ = some (.int .i64 lead)) (first | exact ⟨q0, q1, q2⟩ | exact ⟨(hb3.cell (p := ⟨w1.heap.size, 0, none⟩) (by simp)).trans q0, (hb3.cell (p := ⟨w1.heap.size, 1, none⟩) (by simp)).trans q1, (hb3.cell (p := ⟨w1.heap.size, 2, none⟩) (by simp)).trans q2⟩) (first | (go_at_call 67; refine (isPt_at _ _ HP.out _).mono ?_; rintro e w' ⟨rfl, rfl⟩) | (go_at_call 77; refine (sizeOf_at _ _ HX.out _ (hsM _)).mono ?_; rintro e w3 ⟨rfl, hb3⟩))
                all_goals
                  have hb4 : Below w.heap.size w w3 := (hbM _).trans (hb3.mono (hbM _).size)
                  clear hb3
                  go_wp2
                  go_ret2
                  exact ⟨E.out, hb4⟩
end Go.Proofs.YtmagokkegadmiaaDoor
namespace Go.Proofs.YtmagokkegadmiaaDoor
open Go.RowKit

set_option maxRecDepth 100000 in
set_option maxHeartbeats 4000000 in
theorem parg_any (s : Sq) (A : Option Addr) (c : Nat) (i o v : Int) (w : World) (hv : argL s.params i o = v) (hi0 : -9223372036854775808 ≤ i) (hi1 : i ≤ 9223372036854775807) (hl : s.params.length ≤ 4294967296) (hr : RdP w A s.params) :
    Calls Tryd.prog 13 #[sqV s A c, .int .i64 i, .int .i64 o] w fun e w' => e = .returned (.int .i64 v) ∧ Below w.heap.size w w' := by
  have hB : ∀ o, Below w.heap.size w (w.alloc o) := fun o => (Below.refl _ w).alloc (Nat.le_refl _) _
  have hr2 := hr.alloc (.cells (seqC s A c) 43)
  unfold seqC at hr2
  obtain ⟨np, hnp⟩ : ∃ np, s.params.length = np := ⟨_, rfl⟩
  have HNP := Lib.hid hnp
  rw [hnp] at hl hr2
  have HV := Lib.hid hv
  clear hv hr
  unfold sqV
  rw [hnp]
  clear hnp
  by_cases h1 : i < 0
  · have E := Lib.hid (show o = v by rw [← HV.out]; unfold argL; rw [if_pos (by omega)])
    go_enter Tryd.func13, Tryd.ntmps13
    go_wp2_with fail
    go_ret
    exact ⟨ret_i E.out, hB _⟩
  · by_cases h2 : (np : Int) ≤ i
    · have E := Lib.hid (show o = v by rw [← HV.out]; unfold argL; rw [if_pos (by rw [HNP.out]; omega)])
      go_enter Tryd.func13, Tryd.ntmps13
      go_wp2_with fail
      go_ret
      exact ⟨ret_i E.out, hB _⟩
    · obtain ⟨k, rfl⟩ : ∃ k : Nat, i = (k : Int) := ⟨i.toNat, by omega⟩
      have hk : k < np := by omega
      have hk1 : (k : Int) < (np : Int) := by omega
      have hk0 : (0 : Int) ≤ (k : Int) := by omega
      have hkp : k < s.params.length := by rw [HNP.out]; exact hk
      clear h1 h2
      obtain ⟨b, oo, hA, hb, hcc⟩ := hr2 (by rw [HNP.out]; omega)
      obtain ⟨A', c', hck, hrk⟩ := hcc k hkp
      cases hA
      obtain ⟨p, hp⟩ : ∃ p, s.params[k]'hkp = p := ⟨_, rfl⟩
      rw [hp] at hck hrk
      have HAL := Lib.hid (show headI o p = v by
        rw [← HV.out]
        unfold argL
        rw [if_neg (by rw [HNP.out]; omega), Int.toNat_natCast, List.getD_eq_getElem?_getD, List.getElem?_eq_getElem hkp, hp]; rfl)
      clear hp hcc
      cases p with
      | nil =>
        have E := Lib.hid (show o = v from HAL.out)
        clear HAL
        go_enter Tryd.func13, Tryd.ntmps13
        go_wp2_with fail
        go_ret
        exact ⟨ret_i E.out, hB _⟩
      | cons x p =>
        obtain ⟨b2, o2, hA2, hb2, hc2⟩ := hrk.int_at (by simp)
        cases hA2
        have hc0 := hc2 0 (by simp)
        rw [Nat.add_zero, List.getElem_cons_zero] at hc0
        obtain ⟨m, hm⟩ : ∃ m, (x :: p).length = m := ⟨_, rfl⟩
        have hm1 : 0 < m := by rw [← hm]; simp
        rw [hm] at hck
        have t1 : ((m : Int) == 0) = false := beq_false_of_ne (by omega)
        clear hc2 hrk hm
        by_cases hx : x < 0
        · have E := Lib.hid (show o = v by have : (if x < 0 then o else x) = v := HAL.out; rw [if_pos hx] at this; exact this)
          clear HAL
          go_enter Tryd.func13, Tryd.ntmps13
          go_wp2_with fail
          go_ret
          exact ⟨ret_i E.out, hB _⟩
        · have E := Lib.hid (show x = v by have : (if x < 0 then o else x) = v := HAL.out; rw [if_neg hx] at this; exact this)
          clear HAL
          go_enter Tryd.func13, Tryd.ntmps13
          go_wp2_with fail
          go_ret
          exact ⟨ret_i E.out, hB _⟩

end Go.Proofs.YtmagokkegadmiaaDoor
namespace Go.Proofs.YtmagokkegadmiaaDoor
open Go.RowKit

set_option maxRecDepth 100000 in
set_option maxHeartbeats 4000000 in
theorem eq_any (A B : Option Addr) (c d : Nat) (a b : List Int) (w : World) (hl : a.length ≤ 4294967296) (hl2 : b.length ≤ 4294967296) (hra : Rd w A (is_ a)) (hrb : Rd w B (is_ b)) :
    Calls Tryd.prog 31 #[.slice A a.length c, .slice B b.length d] w fun e w' => e = .returned (.bool (decide (a = b))) ∧ Below w.heap.size w w' := by
  by_cases hlen : a.length = b.length
  · go_enter Tryd.func31, Tryd.ntmps31
    go_wp2
    go_loopw [13] (fun i wr => ∃ k : Nat, k ≤ a.length ∧ i = .int .i64 k ∧ a.take k = b.take k ∧ Below w.heap.size w wr) (fun i _ => a.length - (intOf i).toNat)
    case atStart => exact ⟨0, Nat.zero_le _, rfl, rfl, Below.refl _ _⟩
    case round =>
      obtain ⟨k, hk, rfl, hab, hbw⟩ := hrel
      have HAB := Lib.hid hab
      clear hab
      by_cases hlt : k < a.length
      · have hltb : k < b.length := by omega
        obtain ⟨p, o, rfl, hp, hc⟩ := hra.int_at (by omega)
        obtain ⟨q, u, rfl, hq, hd⟩ := hrb.int_at (by omega)
        have hck := (hbw.cell (p := ⟨p, o + k, none⟩) hp).trans (hc k hlt)
        have hdk := (hbw.cell (p := ⟨q, u + k, none⟩) hq).trans (hd k hltb)
        clear hc hd
        have g0 : (0 : Int) ≤ (k : Int) := by omega
        have g1 : (k : Int) < (a.length : Int) := by omega
        have g2 : (k : Int) < (b.length : Int) := by omega
        by_cases he : a[k]'hlt = b[k]'hltb
        · have H := Lib.hid (show a.take (k + 1) = b.take (k + 1) by rw [List.take_succ_eq_append_getElem hlt, List.take_succ_eq_append_getElem hltb, HAB.out, he])
          obtain ⟨x, hx⟩ : ∃ x, a[k]'hlt = x := ⟨_, rfl⟩
          obtain ⟨y, hy⟩ : ∃ y, b[k]'hltb = y := ⟨_, rfl⟩
          rw [hx] at hck he
          rw [hy] at hdk he
          subst he
          clear hx hy
          go_wp2
          go_quiet (fail)
          go_wp2
          go_roundw
          case rel => exact ⟨k + 1, by omega, by go_num, H.out, below_drewN hbw _⟩
          case measure => simp [intOf]; omega
        · have E := Lib.hid (show decide (a = b) = false from decide_eq_false (fun e => he (by subst e; rfl)))
          have t1 : (a[k]'hlt == b[k]'hltb) = false := beq_false_of_ne he
          have t2 : (a[k]'hlt != b[k]'hltb) = true := by simp [bne, t1]
          clear he
          go_wp2
          go_quiet (fail)
          go_wp2
          go_ret
          exact ⟨ret_b E.out.symm, below_drewN hbw _⟩
      · have E := Lib.hid (show decide (a = b) = true from decide_eq_true (by
          have h1 := HAB.out
          rw [List.take_of_length_le (by omega), List.take_of_length_le (by omega)] at h1
          exact h1))
        go_wp2
        go_ret
        exact ⟨ret_b E.out.symm, hbw⟩
  · have E := Lib.hid (show decide (a = b) = false from decide_eq_false (fun e => hlen (by rw [e])))
    have t1 : ((a.length : Int) == (b.length : Int)) = false := beq_false_of_ne (by omega)
    have t2 : ((a.length : Int) != (b.length : Int)) = true := by simp [bne, t1]
    clear hlen
    go_enter Tryd.func31, Tryd.ntmps31
    go_wp2
    go_ret
    exact ⟨ret_b E.out.symm, Below.refl _ _⟩

theorem eq_at (A B : Option Addr) (n m c d : Nat) (a b : List Int) (q : Bool) (w : World) (hn : a.length = n) (hm : b.length = m) (hq : decide (a = b) = q) (hl : n ≤ 4294967296) (hl2 : m ≤ 4294967296) (hra : Rd w A (is_ a)) (hrb : Rd w B (is_ b)) :
    Calls Tryd.prog 31 #[.slice A n c, .slice B m d] w fun e w' => e = .returned (.bool q) ∧ Below w.heap.size w w' := by
  subst hn hm hq
  exact eq_any A B c d a b w hl hl2 hra hrb
end Go.Proofs.YtmagokkegadmiaaDoor
