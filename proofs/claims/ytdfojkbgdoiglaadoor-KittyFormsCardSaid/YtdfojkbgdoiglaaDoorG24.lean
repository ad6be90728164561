/-
  Layer 9: the document's own answers: Look. Layer 2, walked: the document's Take.
-/
import Derived.Test.YtdfojkbgdoiglaaDoorG07
import Derived.Test.YtdfojkbgdoiglaaDoorG10
import Derived.Test.YtdfojkbgdoiglaaDoorG23
import Derived.Deep.RegionHeld3
namespace Go.Proofs.YtdfojkbgdoiglaaDoor
open Go.RowKit
theorem below_step9 {n : Nat} {w a b : World} (h : Below n w a) (h2 : Below a.heap.size a b) (hn : n ≤ a.heap.size) : Below n w b := h.trans (h2.mono hn)
set_option maxRecDepth 100000 in
set_option maxHeartbeats 16000000 in
theorem rlook_any (c : Int) (w : World) : Calls Tryd.prog 13 #[.int .i64 c] w fun e w' => e = .returned (enV (lookE c)) ∧ Below w.heap.size w w' := by
 have hB : ∀ (x : Obj), Below w.heap.size w (w.alloc x) := fun x => (Below.refl _ w).alloc (Nat.le_refl _) _
 obtain ⟨L, hL⟩ : ∃ L, letterN c = L := ⟨_, rfl⟩
 obtain ⟨N, hN⟩ : ∃ N, numberN c = N := ⟨_, rfl⟩
 obtain ⟨k, hk⟩ : ∃ k, decide (57399 ≤ c) = k := ⟨_, rfl⟩
 have HL : Hid (∀ W, Calls Tryd.prog 27 #[.int .i64 c] W fun e w' => e = .returned (.int .u8 L) ∧ w' = W) := Lib.hid fun W => by rw [← hL]; exact rletter_any c W
 have HN : Hid (∀ W, Calls Tryd.prog 28 #[.int .i64 c] W fun e w' => e = .returned (.int .i64 N) ∧ w' = W) := Lib.hid fun W => by rw [← hN]; exact rnumber_any c W
 have HR := Lib.hid (rrest_any c)
 cases tL : (L == 0) with
 | false =>
   have hl : L ≠ 0 := ne_of_beq_false tL
   have E := Lib.hid (show lookE c = ⟨3, L, 0, 0, k⟩ by unfold lookE; rw [hL, if_pos hl, hk])
   clear hl hL hN
   go_enter Tryd.func13, Tryd.ntmps13
   go_wp2_with fail
   refine (HL.out _).mono ?_
   rintro e w1 ⟨rfl, rfl⟩
   go_wp2_with fail
   refine (HL.out _).mono ?_
   rintro e w1 ⟨rfl, rfl⟩
   go_wp2_with fail
   refine bodyPost_ret (v := enV ⟨3, L, 0, 0, k⟩) (by simp [results, Tryd.results13, go_sem, enV]) rfl ⟨by rw [E.out], hB _⟩
 | true =>
   have hl : L = 0 := eq_of_beq tL
   cases tN : (N == 0) with
   | false =>
     have hn : N ≠ 0 := ne_of_beq_false tN
     have E := Lib.hid (show lookE c = ⟨4, 0, N, 0, k⟩ by unfold lookE; rw [hL, if_neg (by rw [hl]; decide), hN, if_pos hn, hk])
     clear hl hn hL hN
     go_enter Tryd.func13, Tryd.ntmps13
     go_wp2_with fail
     refine (HL.out _).mono ?_
     rintro e w1 ⟨rfl, rfl⟩
     go_wp2_with fail
     refine (HN.out _).mono ?_
     rintro e w1 ⟨rfl, rfl⟩
     go_wp2_with fail
     refine (HN.out _).mono ?_
     rintro e w1 ⟨rfl, rfl⟩
     go_wp2_with fail
     refine bodyPost_ret (v := enV ⟨4, 0, N, 0, k⟩) (by simp [results, Tryd.results13, go_sem, enV]) rfl ⟨by rw [E.out], hB _⟩
   | true =>
     have hn : N = 0 := eq_of_beq tN
     by_cases hp : 57399 ≤ c ∧ c ≤ 57416
     ·obtain ⟨P, hP⟩ : ∃ P, padE c = P := ⟨_, rfl⟩
      have E := Lib.hid (show lookE c = P by unfold lookE; rw [hL, if_neg (by rw [hl]; decide), hN, if_neg (by rw [hn]; decide), if_pos hp, hP])
      have HP := Lib.hid (rpad_any c hp.1 hp.2)
      rw [hP, enV] at HP
      have p1 := hp.1
      have p2 := hp.2
      clear hl hn hL hN hp hP hk
      have q0 := Blk.new w 40 #[.int .i64 0, .int .u8 0, .int .i64 0, .int .i64 0, .bool false]
      have hq := hB (.cells #[.int .i64 0, .int .u8 0, .int .i64 0, .int .i64 0, .bool false] 40)
      go_enter Tryd.func13, Tryd.ntmps13
      go_wp2_with fail
      refine (HL.out _).mono ?_
      rintro e w1 ⟨rfl, rfl⟩
      go_wp2_with fail
      refine (HN.out _).mono ?_
      rintro e w1 ⟨rfl, rfl⟩
      go_wp2_with fail
      refine (HP.out _).mono ?_
      rintro e w1 ⟨rfl, hb⟩
      have q1 := q0.below hb q0.lt
      have hbe := below_step9 hq hb hq.size
      have z0 := q1.frozen 0
      have z1 := q1.frozen 1
      have z2 := q1.frozen 2
      have z3 := q1.frozen 3
      have z4 := q1.frozen 4
      have y0 := q1.cell 0
      have y1 := q1.cell 1
      have y2 := q1.cell 2
      have y3 := q1.cell 3
      have y4 := q1.cell 4
      go_wp2_with fail
      refine bodyPost_ret (v := enV P) ?_ rfl ⟨by rw [E.out], ?_⟩
      ·simp [results, Tryd.results13, go_sem, enV, *]
      ·exact ((((hbe.setCell (p := ⟨w.heap.size, 0, none⟩) (Nat.le_refl _) _).setCell (p := ⟨w.heap.size, 1, none⟩) (Nat.le_refl _) _).setCell (p := ⟨w.heap.size, 2, none⟩) (Nat.le_refl _) _).setCell (p := ⟨w.heap.size, 3, none⟩) (Nat.le_refl _) _).setCell (p := ⟨w.heap.size, 4, none⟩) (Nat.le_refl _) _
     ·obtain ⟨R, hR⟩ : ∃ R, restN c = R := ⟨_, rfl⟩
      have E := Lib.hid (show lookE c = ⟨R, 0, 0, 0, false⟩ by unfold lookE; rw [hL, if_neg (by rw [hl]; decide), hN, if_neg (by rw [hn]; decide), if_neg hp, hR])
      rw [hR] at HR
      have hp' : c < 57399 ∨ 57416 < c := by omega
      clear hl hn hL hN hp hR hk
      rcases hp' with p1 | p1
      all_goals
       try have p2 : 57399 ≤ c := by omega
       have q0 := Blk.new w 40 #[.int .i64 0, .int .u8 0, .int .i64 0, .int .i64 0, .bool false]
       have hq := hB (.cells #[.int .i64 0, .int .u8 0, .int .i64 0, .int .i64 0, .bool false] 40)
       go_enter Tryd.func13, Tryd.ntmps13
       go_wp2_with fail
       refine (HL.out _).mono ?_
       rintro e w1 ⟨rfl, rfl⟩
       go_wp2_with fail
       refine (HN.out _).mono ?_
       rintro e w1 ⟨rfl, rfl⟩
       go_wp2_with fail
       refine (HR.out _).mono ?_
       rintro e w1 ⟨rfl, hb⟩
       have q1 := q0.below hb q0.lt
       have hbe := below_step9 hq hb hq.size
       have z0 := q1.frozen 0
       have z1 := q1.frozen 1
       have z2 := q1.frozen 2
       have z3 := q1.frozen 3
       have z4 := q1.frozen 4
       have y0 := q1.cell 0
       have y1 := q1.cell 1
       have y2 := q1.cell 2
       have y3 := q1.cell 3
       have y4 := q1.cell 4
       go_wp2_with fail
       refine bodyPost_ret (v := enV ⟨R, 0, 0, 0, false⟩) ?_ rfl ⟨by rw [E.out], ?_⟩
       ·simp [results, Tryd.results13, go_sem, enV, *]
       ·exact ((((hbe.setCell (p := ⟨w.heap.size, 0, none⟩) (Nat.le_refl _) _).setCell (p := ⟨w.heap.size, 1, none⟩) (Nat.le_refl _) _).setCell (p := ⟨w.heap.size, 2, none⟩) (Nat.le_refl _) _).setCell (p := ⟨w.heap.size, 3, none⟩) (Nat.le_refl _) _).setCell (p := ⟨w.heap.size, 4, none⟩) (Nat.le_refl _) _
end Go.Proofs.YtdfojkbgdoiglaaDoor
namespace Go.Proofs.YtdfojkbgdoiglaaDoor
open Go.RowKit
def gs (l : List UInt8) (n : Nat) : Int :=
 match n, l with
 | 1, a :: _ => a.toNat
 | 2, a :: b :: _ => ((a.toNat : Int) - 192) % 256 * 64 + ((b.toNat : Int) - 128) % 256
 | 3, a :: b :: c :: _ => ((a.toNat : Int) - 224) % 256 * 4096 + ((b.toNat : Int) - 128) % 256 * 64 + ((c.toNat : Int) - 128) % 256
 | 4, a :: b :: c :: d :: _ => ((a.toNat : Int) - 240) % 256 * 262144 + ((b.toNat : Int) - 128) % 256 * 4096 + ((c.toNat : Int) - 128) % 256 * 64 + ((d.toNat : Int) - 128) % 256
 | _, _ => 0
theorem gs_bd (l : List UInt8) (n : Nat) : 0 ≤ gs l n ∧ gs l n ≤ 68000000 := by
 unfold gs
 split
 ·rename_i a _
  have := a.toNat_lt
  omega
 all_goals omega
theorem gs_put {r : Int} (h : isPt r = true) (m : List UInt8) : gs (putL r ++ m) (cnt r) = r := by
 obtain ⟨h0, h1, _⟩ := (isPt_iff r).1 h
 have hc : cnt r = if r < 128 then 1 else if r < 2048 then 2 else if r < 65536 then 3 else 4 := rfl
 by_cases a1 : r < 128
 ·rw [putL_1 h a1, hc, if_pos a1]
  exact byt_nat r (by omega) (by omega)
 ·by_cases a2 : r < 2048
  ·rw [putL_2 h (by omega) a2, hc, if_neg a1, if_pos a2]
   have b0 := byt_nat (192 + r / 64) (by omega) (by omega)
   have b1 := byt_nat (128 + r % 64) (by omega) (by omega)
   simp only [List.cons_append, List.nil_append, gs]
   rw [b0, b1]; omega
  ·by_cases a3 : r < 65536
   ·rw [putL_3 h (by omega) a3, hc, if_neg a1, if_neg a2, if_pos a3]
    have b0 := byt_nat (224 + r / 4096) (by omega) (by omega)
    have b1 := byt_nat (128 + r / 64 % 64) (by omega) (by omega)
    have b2 := byt_nat (128 + r % 64) (by omega) (by omega)
    simp only [List.cons_append, List.nil_append, gs]
    rw [b0, b1, b2]; omega
   ·rw [putL_4 h (by omega), hc, if_neg a1, if_neg a2, if_neg a3]
    have b0 := byt_nat (240 + r / 262144) (by omega) (by omega)
    have b1 := byt_nat (128 + r / 4096 % 64) (by omega) (by omega)
    have b2 := byt_nat (128 + r / 64 % 64) (by omega) (by omega)
    have b3 := byt_nat (128 + r % 64) (by omega) (by omega)
    simp only [List.cons_append, List.nil_append, gs]
    rw [b0, b1, b2, b3]; omega
theorem gs_hit {l : List UInt8} {n : Nat} (hn : 1 ≤ n) (hl : (putL (gs l n)).length = n) (h : putL (gs l n) = l.take n) : takeL l = (gs l n, n) := by
 have hp : isPt (gs l n) = true := by
  cases hp : isPt (gs l n) with
  | true => rfl
  | false => rw [putL_no hp] at hl; simp at hl; omega
 have e : l = putL (gs l n) ++ l.drop n := by rw [h, List.take_append_drop]
 have := take_put hp (l.drop n)
 rw [← e] at this
 rw [this, ← putL_length hp, hl]
theorem gs_told {l : List UInt8} {n : Nat} (hn : 1 ≤ n) (h : (takeL l).2 = n) : gs l n = (takeL l).1 ∧ (putL (gs l n)).length = n ∧ putL (gs l n) = l.take n := by
 rcases take_is l with hz | ⟨r, m, hp, e, ht⟩
 ·rw [hz] at h; simp at h; omega
 ·rw [ht] at h ⊢
  have h : cnt r = n := h
  subst h
  have hg : gs l (cnt r) = r := by rw [e]; exact gs_put hp m
  refine ⟨hg, by rw [hg]; exact putL_length hp, ?_⟩
  rw [hg, e, ← putL_length hp, List.take_left]
set_option maxRecDepth 100000 in
set_option maxHeartbeats 4000000 in
theorem guess_any (A : Option Addr) (c : Nat) (l : List UInt8) (n : Nat) (w : World) (hl : l.length ≤ 4294967296) (hn1 : 1 ≤ n) (hn4 : n ≤ 4) (hnl : n ≤ l.length) (hr : Rd w A (bs l)) :
 Calls Tryd.prog 55 #[.slice A l.length c, .int .i64 n] w fun e w' => e = .returned (.int .i64 (gs l n)) ∧ Below w.heap.size w w' := by
 obtain rfl | rfl | rfl | rfl : n = 1 ∨ n = 2 ∨ n = 3 ∨ n = 4 := by omega
 ·match l, hnl, hr, hl with
  | a :: l, _, hr, hl =>
    obtain ⟨b, o, rfl, hb, hc⟩ := hr.at_ (by simp)
    have c0 := hc 0 (by simp)
    simp only [Nat.add_zero, List.getElem_cons_zero] at c0
    have ha := a.toNat_lt
    clear hc
    go_enter Tryd.func55, Tryd.ntmps55
    go_wp2
    go_ret
    exact ⟨rfl, Below.refl _ _⟩
 ·match l, hnl, hr, hl with
  | a :: a1 :: l, _, hr, hl =>
    obtain ⟨b, o, rfl, hb, hc⟩ := hr.at_ (by simp)
    have c0 := hc 0 (by simp)
    have c1 := hc 1 (by simp)
    simp only [Nat.add_zero, List.getElem_cons_zero, List.getElem_cons_succ] at c0 c1
    have ha := a.toNat_lt
    have e0 : IntKind.u8.wrap ((a.toNat : Int) - 192) = ((a.toNat : Int) - 192) % 256 := by rw [IntKind.wrap_u8]
    have ha1 := a1.toNat_lt
    have e1 : IntKind.u8.wrap ((a1.toNat : Int) - 128) = ((a1.toNat : Int) - 128) % 256 := by rw [IntKind.wrap_u8]
    clear hc
    go_enter Tryd.func55, Tryd.ntmps55
    go_wp2
    go_quiet (fail)
    go_wp2
    go_ret
    exact ⟨rfl, below_drewN (Below.refl _ _) _⟩
 ·match l, hnl, hr, hl with
  | a :: a1 :: a2 :: l, _, hr, hl =>
    obtain ⟨b, o, rfl, hb, hc⟩ := hr.at_ (by simp)
    have c0 := hc 0 (by simp)
    have c1 := hc 1 (by simp)
    have c2 := hc 2 (by simp)
    simp only [Nat.add_zero, List.getElem_cons_zero, List.getElem_cons_succ] at c0 c1 c2
    have ha := a.toNat_lt
    have e0 : IntKind.u8.wrap ((a.toNat : Int) - 224) = ((a.toNat : Int) - 224) % 256 := by rw [IntKind.wrap_u8]
    have ha1 := a1.toNat_lt
    have e1 : IntKind.u8.wrap ((a1.toNat : Int) - 128) = ((a1.toNat : Int) - 128) % 256 := by rw [IntKind.wrap_u8]
    have ha2 := a2.toNat_lt
    have e2 : IntKind.u8.wrap ((a2.toNat : Int) - 128) = ((a2.toNat : Int) - 128) % 256 := by rw [IntKind.wrap_u8]
    clear hc
    go_enter Tryd.func55, Tryd.ntmps55
    go_wp2
    go_quiet (fail)
    go_wp2
    go_ret
    exact ⟨rfl, below_drewN (Below.refl _ _) _⟩
 ·match l, hnl, hr, hl with
  | a :: a1 :: a2 :: a3 :: l, _, hr, hl =>
    obtain ⟨b, o, rfl, hb, hc⟩ := hr.at_ (by simp)
    have c0 := hc 0 (by simp)
    have c1 := hc 1 (by simp)
    have c2 := hc 2 (by simp)
    have c3 := hc 3 (by simp)
    simp only [Nat.add_zero, List.getElem_cons_zero, List.getElem_cons_succ] at c0 c1 c2 c3
    have ha := a.toNat_lt
    have e0 : IntKind.u8.wrap ((a.toNat : Int) - 240) = ((a.toNat : Int) - 240) % 256 := by rw [IntKind.wrap_u8]
    have ha1 := a1.toNat_lt
    have e1 : IntKind.u8.wrap ((a1.toNat : Int) - 128) = ((a1.toNat : Int) - 128) % 256 := by rw [IntKind.wrap_u8]
    have ha2 := a2.toNat_lt
    have e2 : IntKind.u8.wrap ((a2.toNat : Int) - 128) = ((a2.toNat : Int) - 128) % 256 := by rw [IntKind.wrap_u8]
    have ha3 := a3.toNat_lt
    have e3 : IntKind.u8.wrap ((a3.toNat : Int) - 128) = ((a3.toNat : Int) - 128) % 256 := by rw [IntKind.wrap_u8]
    clear hc
    go_enter Tryd.func55, Tryd.ntmps55
    go_wp2
    go_quiet (fail)
    go_wp2
    go_ret
    exact ⟨rfl, below_drewN (Below.refl _ _) _⟩
end Go.Proofs.YtdfojkbgdoiglaaDoor
