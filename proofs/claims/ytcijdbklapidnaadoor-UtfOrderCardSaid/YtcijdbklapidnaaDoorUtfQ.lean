/-
  Layer 2, walked: Put, the program's and the document's.
-/
import Derived.Test.YtcijdbklapidnaaDoorUtfP
namespace Go.Proofs.YtcijdbklapidnaaDoor
open Go.RowKit

/-- A slice of bytes handed back, of the call's own. -/
def Out (l : List UInt8) (w : World) (e : Ending) (w' : World) : Prop := ∃ A c, e = .returned (.slice A l.length c) ∧ Rd w' A (bs l) ∧ Below w.heap.size w w'
theorem out_own {base : Nat} {t : TypeId} {v : Value} {n : Nat} {l : List UInt8} {w w' : World} (ho : Own w' base t 1 v n (bs l)) (hb : Below w.heap.size w w') : Out l w (.returned v) w' := by
  obtain ⟨A, c, rfl, hr⟩ := ho.form
  have := ho.1
  rw [bs_length] at this
  exact ⟨A, c, by rw [show n = l.length by omega], hr, hb⟩

theorem out_lit (w : World) (t : TypeId) {l : List UInt8} {L : List Value} {n : Nat} (hE : bs l = L) (hL : l.length = n) : Out l w (.returned (.slice (some ⟨w.heap.size, 0, none⟩) n n)) (w.alloc (.cells L.toArray t)) := by
  subst hL hE
  exact ⟨_, _, rfl, Rd.block (heap_alloc_new w _) (by simp), (Below.refl _ _).alloc (Nat.le_refl _) _⟩

set_option maxHeartbeats 1000000 in
theorem Put_any (r : Int) (w : World) (hs : Siz w) : Calls Tryd.prog 12 #[.int .i64 r] w (Out (putL r) w) := by
  cases h : isPt r with
  | false =>
    rw [putL_no h]
    go_enter Tryd.func12, Tryd.ntmps12
    go_wp2_with fail
    refine (isPt_any r _).mono ?_
    rintro e w1 ⟨rfl, rfl⟩
    go_wp2_with fail
    go_ret
    exact ⟨none, 0, rfl, Rd.nil _ _, Below.refl _ _⟩
  | true =>
    have H := Lib.hid h
    go_enter Tryd.func12, Tryd.ntmps12
    go_wp2_with fail
    refine (isPt_any r _).mono ?_
    rintro e w1 ⟨rfl, rfl⟩
    go_wp2_with fail
    refine (put_any r H.out w.heap.size (.slice none 0 0) 0 [] w hs (Own.nil_ _ _ _ _) (Nat.le_refl _) (by omega)).mono ?_
    rintro e w2 ⟨v, rfl, ho, hb⟩
    go_wp2_with fail
    go_ret
    exact out_own ho hb

theorem bs1 (a : Int) (ha : 0 ≤ a) (ha' : a < 256) : bs [byt a] = [.int .u8 a] := (byt_val a ha ha').symm
theorem bs_cons (a : Int) (ha : 0 ≤ a) (ha' : a < 256) (l : List UInt8) : bs (byt a :: l) = .int .u8 a :: bs l := by
  show _ :: _ = _
  rw [show B8 (byt a) = .int .u8 a by unfold B8; rw [byt_nat a ha ha']]
  rfl

set_option maxHeartbeats 2000000 in
theorem rPut_any (r : Int) (w : World) : Calls Tryd.prog 13 #[.int .i64 r] w (Out (putL r) w) := by
  cases h : isPt r with
  | false =>
    rw [putL_no h]
    go_enter Tryd.func13, Tryd.ntmps13
    go_wp2_with fail
    refine (risPt_any r _).mono ?_
    rintro e w1 ⟨rfl, rfl⟩
    go_wp2_with fail
    go_ret
    exact ⟨none, 0, rfl, Rd.nil _ _, Below.refl _ _⟩
  | true =>
    obtain ⟨h0, h1, h2⟩ := (isPt_iff r).1 h
    clear h2
    by_cases a1 : r < 128
    · have e := putL_1 h a1
      have E := Lib.hid (show bs (putL r) = [.int .u8 r] by rw [e, bs1 r (by omega) (by omega)])
      have L := Lib.hid (show (putL r).length = 1 by rw [e]; rfl)
      clear e
      go_enter Tryd.func13, Tryd.ntmps13
      go_wp2_with fail
      refine (risPt_any r _).mono ?_
      rintro e w1 ⟨rfl, rfl⟩
      go_wp2_with fail
      go_ret
      exact out_lit w 5 E.out L.out
    · by_cases a2 : r < 2048
      · have e := putL_2 h (by omega) a2
        have E := Lib.hid (show bs (putL r) = [.int .u8 (192 + r / 64), .int .u8 (128 + r % 64)] by rw [e, bs_cons _ (by omega) (by omega), bs1 _ (by omega) (by omega)])
        have L := Lib.hid (show (putL r).length = 2 by rw [e]; rfl)
        clear e
        go_enter Tryd.func13, Tryd.ntmps13
        go_wp2_with fail
        refine (risPt_any r _).mono ?_
        rintro e w1 ⟨rfl, rfl⟩
        go_wp2_with fail
        go_ret
        exact out_lit w 5 E.out L.out
      · by_cases a3 : r < 65536
        · have e := putL_3 h (by omega) a3
          have E := Lib.hid (show bs (putL r) = [.int .u8 (224 + r / 4096), .int .u8 (128 + r / 64 % 64), .int .u8 (128 + r % 64)] by rw [e, bs_cons _ (by omega) (by omega), bs_cons _ (by omega) (by omega), bs1 _ (by omega) (by omega)])
          have L := Lib.hid (show (putL r).length = 3 by rw [e]; rfl)
          clear e
          go_enter Tryd.func13, Tryd.ntmps13
          go_wp2_with fail
          refine (risPt_any r _).mono ?_
          rintro e w1 ⟨rfl, rfl⟩
          go_wp2_with fail
          go_ret
          exact out_lit w 5 E.out L.out
        · have e := putL_4 h (by omega)
          have E := Lib.hid (show bs (putL r) = [.int .u8 (240 + r / 262144), .int .u8 (128 + r / 4096 % 64), .int .u8 (128 + r / 64 % 64), .int .u8 (128 + r % 64)] by rw [e, bs_cons _ (by omega) (by omega), bs_cons _ (by omega) (by omega), bs_cons _ (by omega) (by omega), bs1 _ (by omega) (by omega)])
          have L := Lib.hid (show (putL r).length = 4 by rw [e]; rfl)
          clear e
          go_enter Tryd.func13, Tryd.ntmps13
          go_wp2_with fail
          refine (risPt_any r _).mono ?_
          rintro e w1 ⟨rfl, rfl⟩
          go_wp2_with fail
          go_ret
          exact out_lit w 5 E.out L.out
end Go.Proofs.YtcijdbklapidnaaDoor
