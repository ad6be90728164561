/-
  Layer 8, the document's Pop, walked.
-/
import Derived.Test.YtocbkcofmebfmaaStkP
namespace Go.Proofs.Ytocbkcofmebfmaa
open Go.RowKit

section
variable {S : Nat → Prop}
theorem RdOff.set {w : World} {A : Option Addr} {xs : List Value} (h : RdOff w S A xs) {g : Nat} (hg : S g) (i : Nat) (v : Value) : RdOff (w.setCell ⟨g, i, none⟩ v) S A xs := h.fr (Fr.setCell w g i v S hg) (Wid.refl _ _)
theorem RdOff.z_at {w : World} {A : Option Addr} {l : List Int} (h : RdOff w S A (is_ l)) (hp : 0 < l.length) :
    ∃ b o, A = some ⟨b, o, none⟩ ∧ ¬ S b ∧ b < w.heap.size ∧ ∀ k (hk : k < l.length), w.cell? ⟨b, o + k, none⟩ = some (.int .i64 l[k]) := by
  obtain ⟨b, o, rfl, hb, hn, hc⟩ := h (by simpa [is_] using hp)
  exact ⟨b, o, rfl, hn, hb, fun k hk => hc k _ (by simp [is_, hk])⟩
theorem popN_one (i : Nat) (s : St) : popN (i + 1) s = pop1 (popN i s) := by
  rw [popN_add]
  rfl
theorem popN_empty {i m : Nat} {s : St} {now : Int} (h : popN i s = ⟨now, []⟩) (hi : i < m) : popN m s = ⟨0, []⟩ := by
  have e : m = (i + 1) + (m - i - 1) := by omega
  rw [e, popN_add, popN_one, h]
  exact popN_zero _
set_option maxRecDepth 100000 in
set_option maxHeartbeats 8000000 in
theorem rspop_any (s : St) (A : Option Addr) (n c : Nat) (m : Int) (w : World) (hS : ∀ k, S k → k < w.heap.size) (hn : s.kept.length = n) (hnc : n ≤ c) (hn8 : n ≤ 8) (hr : RdOff w S A (is_ s.kept)) :
    Calls Try.prog 16 #[stV s.now A n c, .int .i64 m] w (StkE S (popS s m) w) := by
  obtain ⟨i0, hi, hz0, hz1, hz2⟩ := info_parts Try.intinfo8
  have hso : ∀ w, (sizeOf 3).run Try.prog w = .ok 1 w := fun w => by simp [sizeOf, typeInfo, hi, hz1, Result.andThen]
  have HN := Lib.hid hn
  have HS := Lib.hid hS
  have hx0 : Blk ((w.alloc (.cells #[.int .i64 s.now, .slice A n c] 24)).alloc (.cells #[.int .i64 0, .slice none 0 0] 24)) w.heap.size 24 #[.int .i64 s.now, .slice A n c] := (Blk.new w _ _).alloc _
  have hy0 : Blk ((w.alloc (.cells #[.int .i64 s.now, .slice A n c] 24)).alloc (.cells #[.int .i64 0, .slice none 0 0] 24)) (w.heap.size + 1) 24 #[.int .i64 0, .slice none 0 0] := by
    have := Blk.new (w.alloc (.cells #[.int .i64 s.now, .slice A n c] 24)) 24 #[.int .i64 0, .slice none 0 0]
    rwa [World.size_alloc] at this
  have hB0 : Below w.heap.size w ((w.alloc (.cells #[.int .i64 s.now, .slice A n c] 24)).alloc (.cells #[.int .i64 0, .slice none 0 0] 24)) := ((Below.refl _ w).alloc (Nat.le_refl _) _).alloc (by simp) _
  have hr0 : RdOff ((w.alloc (.cells #[.int .i64 s.now, .slice A n c] 24)).alloc (.cells #[.int .i64 0, .slice none 0 0] 24)) (fun k => S k ∨ w.heap.size ≤ k) A (is_ s.kept) := hr.fr (Fr.of_below hB0 S) (fun k hk => hk)
  obtain ⟨sn, hsn⟩ : ∃ z, s.now = z := ⟨_, rfl⟩
  clear hn hS hr
  rw [stV]
  rw [hsn] at hx0 hy0 hB0 hr0 ⊢
  obtain ⟨M, hM⟩ : ∃ M, m.toNat = M := ⟨_, rfl⟩
  have HP := Lib.hid (show popS s m = popN M s by rw [← hM]; rfl)
  have hM1 : (0 ≤ m ∧ (M : Int) = m) ∨ (m < 0 ∧ M = 0) := by omega
  have H0 := Lib.hid (show popN 0 s = ⟨sn, s.kept⟩ by rw [← hsn]; rfl)
  clear hM hsn
  go_enter Try.func16, Try.ntmps16
  go_wp2
  go_loopw [6] (fun z wr => ∃ (i : Nat) (x : St) (A' : Option Addr) (j : Nat), z = .int .i64 i ∧ i + j = n ∧ i ≤ M ∧ Hid (popN i s = x) ∧ Hid (x.kept.length = j) ∧ Blk wr w.heap.size 24 #[.int .i64 x.now, .slice A' j c] ∧ Blk wr (w.heap.size + 1) 24 #[.int .i64 0, .slice none 0 0] ∧ RdOff wr (fun k => S k ∨ w.heap.size ≤ k) A' (is_ x.kept) ∧ Below w.heap.size w wr) (fun z _ => 9 - (intOf z).toNat)
  case atStart => exact ⟨0, ⟨sn, s.kept⟩, A, n, rfl, by omega, Nat.zero_le _, H0, HN, hx0, hy0, hr0, hB0⟩
  case round =>
    clear hx0 hy0 hr0 hB0
    obtain ⟨i, ⟨now, kept⟩, A', j, rfl, hij, hiM, HX, HJ, kx, ky, hrr, hbw⟩ := hrel
    simp only at HJ kx hrr
    have z0 := kx.frozen 0
    have z1 := kx.frozen 1
    have c0 := kx.cell 0
    have c1 := kx.cell 1
    have y0 := ky.cell 0
    have y1 := ky.cell 1
    have f0 := ky.frozen 0
    have f1 := ky.frozen 1
    by_cases hlt : (i : Int) < m
    · have hin : (i : Int) < (n : Int) + 1 := by omega
      have hiM2 : i < M := by omega
      rcases List.eq_nil_or_concat kept with rfl | ⟨ini, v, rfl⟩
      · obtain rfl : j = 0 := HJ.out.symm
        have HE := Lib.hid (show popS s m = ⟨0, []⟩ by rw [HP.out]; exact popN_empty HX.out hiM2)
        have xE := kx.set 0 (.int .i64 0)
        have e0 : (wr.setCell ⟨w.heap.size, 0, none⟩ (.int .i64 0)).cell? ⟨w.heap.size, 0, none⟩ = some (.int .i64 0) := xE.cell 0
        have e1 : (wr.setCell ⟨w.heap.size, 0, none⟩ (.int .i64 0)).cell? ⟨w.heap.size, 1, none⟩ = some (.slice A' 0 c) := xE.cell 1
        have yE0 := ky.far (a := ⟨w.heap.size, 0, none⟩) (by show w.heap.size + 1 ≠ w.heap.size; omega) (.int .i64 0)
        have g0 := yE0.frozen 0
        have g1 := yE0.frozen 1
        have g2 := yE0.cell 0
        have g3 := yE0.cell 1
        have yE1 := yE0.set 0 (.int .i64 0)
        have g4 := yE1.cell 0
        have yE2 := yE1.set 1 (.slice A' 0 c)
        have g5 := yE2.cell 0
        have g6 := yE2.cell 1
        have hBE := ((hbw.setCell (p := ⟨w.heap.size, 0, none⟩) (Nat.le_refl _) (.int .i64 0)).setCell (p := ⟨w.heap.size + 1, 0, none⟩) (by simp) (.int .i64 0)).setCell (p := ⟨w.heap.size + 1, 1, none⟩) (by simp) (.slice A' 0 c)
        clear kx ky hrr hbw yE0 yE1 yE2 xE
        go_wp2_with fail
        refine bodyPost_ret (v := stV 0 A' 0 c) (by simp [results, Try.results16, go_sem, stV, g5, g6]) rfl ?_
        rw [HE.out]
        exact ⟨A', 0, c, rfl, ⟨rfl, Nat.zero_le _⟩, RdOff.nil _ _ _, hBE⟩
      · rw [List.concat_eq_append] at *
        obtain ⟨j', rfl⟩ : ∃ j', j = j' + 1 := ⟨ini.length, by have := HJ.out; simp at this; omega⟩
        have hjl := Lib.hid (show ini.length = j' by have := HJ.out; simp at this; exact this)
        have HX2 := Lib.hid (show popN (i + 1) s = ⟨v, ini⟩ by rw [popN_one, HX.out, pop1_snoc])
        obtain ⟨b, o, rfl, hnb, hbl, hcc⟩ := hrr.z_at (by simp)
        have hcv : wr.cell? ⟨b, o + j', none⟩ = some (.int .i64 v) := by
          have := hcc j' (by simp [hjl.out])
          rw [this]
          simp [← hjl.out]
        clear hcc
        obtain ⟨A2, hcut, hcutr⟩ := cutk_run (P := Try.prog) (T := 22) rfl Try.underlying22 hso (some ⟨b, o, none⟩) (j' + 1) c j' (by omega) (by omega)
        have xE1 := kx.set 0 (.int .i64 v)
        have e0 : (wr.setCell ⟨w.heap.size, 0, none⟩ (.int .i64 v)).cell? ⟨w.heap.size, 1, none⟩ = some (.slice (some ⟨b, o, none⟩) (j' + 1) c) := xE1.cell 1
        have xE2 := xE1.set 1 (.slice A2 j' c)
        have yE2 := (ky.far (a := ⟨w.heap.size, 0, none⟩) (by show w.heap.size + 1 ≠ w.heap.size; omega) (.int .i64 v)).far (a := ⟨w.heap.size, 1, none⟩) (by show w.heap.size + 1 ≠ w.heap.size; omega) (.slice A2 j' c)
        have hrr2 := (hrr.set (g := w.heap.size) (.inr (Nat.le_refl _)) 0 (.int .i64 v)).set (g := w.heap.size) (.inr (Nat.le_refl _)) 1 (.slice A2 j' c)
        have hrr3 := hcutr _ _ _ (by simp [is_, hjl.out]) hrr2
        have hrr4 : RdOff ((wr.setCell ⟨w.heap.size, 0, none⟩ (.int .i64 v)).setCell ⟨w.heap.size, 1, none⟩ (.slice A2 j' c)) (fun k => S k ∨ w.heap.size ≤ k) A2 (is_ ini) := by
          rw [show is_ ini = (is_ (ini ++ [v])).take j' by simp [is_, ← hjl.out]]
          exact hrr3
        have hBE := (hbw.setCell (p := ⟨w.heap.size, 0, none⟩) (Nat.le_refl _) (.int .i64 v)).setCell (p := ⟨w.heap.size, 1, none⟩) (Nat.le_refl _) (.slice A2 j' c)
        have k0 : (0 : Int) ≤ (j' : Int) := by omega
        have k1 : (j' : Int) < (j' : Int) + 1 := by omega
        have k2 : ((j' : Int) + 1 == 0) = false := beq_false_of_ne (by omega)
        clear kx ky hrr hbw xE1 hrr2 hrr3 hcutr
        go_wp2_with fail
        go_roundw
        case rel => exact ⟨i + 1, ⟨v, ini⟩, A2, j', by go_num, by omega, by omega, HX2, hjl, xE2, yE2, hrr4, hBE⟩
        case measure => simp [intOf]; omega
    · have HE := Lib.hid (show popS s m = ⟨now, kept⟩ by rw [HP.out, ← HX.out]; congr 1; omega)
      have t1 : m ≤ (i : Int) := by omega
      have yE1 := ky.set 0 (.int .i64 now)
      have g4 := yE1.cell 0
      have yE2 := yE1.set 1 (.slice A' j c)
      have g5 := yE2.cell 0
      have g6 := yE2.cell 1
      have hBE := (hbw.setCell (p := ⟨w.heap.size + 1, 0, none⟩) (by simp) (.int .i64 now)).setCell (p := ⟨w.heap.size + 1, 1, none⟩) (by simp) (.slice A' j c)
      have hrE := ((hrr.set (g := w.heap.size + 1) (.inr (by omega)) 0 (.int .i64 now)).set (g := w.heap.size + 1) (.inr (by omega)) 1 (.slice A' j c)).mono (S' := S) (fun k hk => .inl hk)
      clear kx ky hrr hbw yE1 yE2
      go_wp2_with fail
      refine bodyPost_ret (v := stV now A' j c) (by simp [results, Try.results16, go_sem, stV, g5, g6]) rfl ?_
      rw [HE.out]
      exact ⟨A', j, c, rfl, ⟨HJ.out, by omega⟩, hrE, hBE⟩
end
end Go.Proofs.Ytocbkcofmebfmaa
