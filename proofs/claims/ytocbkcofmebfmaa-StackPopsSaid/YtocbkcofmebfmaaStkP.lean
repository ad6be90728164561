/-
  Layer 8, the document's Push, walked.
-/
import Derived.Test.YtocbkcofmebfmaaStkR
import Derived.Laws.IdiomCopy
import Derived.Laws.Slices
namespace Go.Proofs.Ytocbkcofmebfmaa
open Go.RowKit

/-- What is told: a stack, whose row lies outside S. -/
def StkE (S : Nat → Prop) (x : St) (w : World) (e : Ending) (w' : World) : Prop := ∃ A k c, e = .returned (stV x.now A k c) ∧ (x.kept.length = k ∧ k ≤ c) ∧ RdOff w' S A (is_ x.kept) ∧ Below w.heap.size w w'
theorem Try.intinfo8 : (Try.prog.info? 3).map (fun i => (i.zero, i.size, i.bytes)) = some (some (.int .i64 0), 1, 8) := by kernel_rfl
theorem is_one (l : List Int) : ∀ u ∈ is_ l, u.oneCell' = true := ints_one l
theorem is_len (l : List Int) : (is_ l).length = l.length := by simp [is_]
theorem below_step8 {w w1 w2 : World} {n : Nat} (h : Below n w w1) (h' : Below w1.heap.size w1 w2) (hn : n ≤ w1.heap.size) : Below n w w2 := h.trans (h'.mono hn)
section
variable {S : Nat → Prop}
set_option maxRecDepth 100000 in
set_option maxHeartbeats 8000000 in
theorem rspush_any (s : St) (A : Option Addr) (n c : Nat) (f : Int) (w : World) (hS : ∀ k, S k → k < w.heap.size) (hn : s.kept.length = n) (hn8 : n ≤ 8) (hr : Rd w A (is_ s.kept)) :
    Calls Try.prog 14 #[stV s.now A n c, .int .i64 f] w (StkE S (pushS s f) w) := by
  obtain ⟨now, l⟩ := s
  simp only at hn hr
  obtain ⟨i0, hi, hz0, hz1, hz2⟩ := info_parts Try.intinfo8
  have hso : ∀ w, (sizeOf 3).run Try.prog w = .ok 1 w := fun w => by simp [sizeOf, typeInfo, hi, hz1, Result.andThen]
  have HN := Lib.hid hn
  have HS := Lib.hid hS
  have h1 : 0 + n ≤ maxLen := by simp only [maxLen]; omega
  have h2 : (0 + n) * 8 ≤ 140737488355328 := by omega
  have h3 : 0 + n + 1 ≤ maxLen := by simp only [maxLen]; omega
  have h4 : (0 + n + 1) * 8 ≤ 140737488355328 := by omega
  have hB0 : Below w.heap.size w (((w.alloc (.cells #[.int .i64 now, .slice A n c] 24)).alloc (.cells #[.int .i64 0, .slice none 0 0] 24)).alloc (.cells #[] 3)) := (((Below.refl _ w).alloc (Nat.le_refl _) _).alloc (by simp) _).alloc (by simp; omega) _
  have hx0 : Blk (((w.alloc (.cells #[.int .i64 now, .slice A n c] 24)).alloc (.cells #[.int .i64 0, .slice none 0 0] 24)).alloc (.cells #[] 3)) w.heap.size 24 #[.int .i64 now, .slice A n c] := ((Blk.new w _ _).alloc _).alloc _
  have hy0 : Blk (((w.alloc (.cells #[.int .i64 now, .slice A n c] 24)).alloc (.cells #[.int .i64 0, .slice none 0 0] 24)).alloc (.cells #[] 3)) (w.heap.size + 1) 24 #[.int .i64 0, .slice none 0 0] := by
    have := (Blk.new (w.alloc (.cells #[.int .i64 now, .slice A n c] 24)) 24 #[.int .i64 0, .slice none 0 0]).alloc (.cells #[] 3)
    rwa [World.size_alloc] at this
  have hown0 : Own (((w.alloc (.cells #[.int .i64 now, .slice A n c] 24)).alloc (.cells #[.int .i64 0, .slice none 0 0] 24)).alloc (.cells #[] 3)) w.heap.size 3 1 (.slice (some ⟨w.heap.size + 1 + 1, 0, none⟩) 0 0) 0 [] := by
    have := Own.of (World.ownsRow_made (base := w.heap.size) (e := 3) (size := 1) ((w.alloc (.cells #[.int .i64 now, .slice A n c] 24)).alloc (.cells #[.int .i64 0, .slice none 0 0] 24)) #[] 0 (by simp; omega) (by decide) rfl)
    rwa [World.size_alloc, World.size_alloc] at this
  have hr1 := hr.below hB0
  have hs0 := hB0.size
  clear hn hS hr
  rw [stV]
  by_cases h8 : n = 8
  · subst h8
    have t1 : decide (8 < (8 : Int) + 1) = true := by decide
    go_enter Try.func14, Try.ntmps14
    go_wp2_with (first
      | (at_builtin; refine list_app _ rfl (.tmp 6) (.tmp 8) 22 rfl w.heap.size 3 i0 _ 1 8 Try.underlying22 hi hz0 hz1 hz2 rfl Nat.one_pos (.slice (some ⟨w.heap.size + 1 + 1, 0, none⟩) 0 0) 0 [] rfl hown0 A 8 c (is_ l) rfl (by rw [is_len, HN.out, Nat.mul_one]) hr1 (is_one l) h1 h2 hs0 ?_; intro v1 w1 hown1 hg1
         have hB1 : Below w.heap.size w w1 := hB0.grown hg1 hs0 (fun g hg => (hown0.lt g hg).1)
         have hx1 := hx0.grown hg1 (hown0.no_cells hx0 (by decide))
         have hy1 := hy0.grown hg1 (hown0.no_cells hy0 (by decide))
         have hs1 := hB1.size
         have a0 := hx1.cell 0
         have own1 := hown1.alloc (.cells #[.int .i64 now] 3)
         have hx1a := hx1.alloc (.cells #[.int .i64 now] 3)
         have hy1a := hy1.alloc (.cells #[.int .i64 now] 3)
         have hB1a := hB1.alloc hs1 (.cells #[.int .i64 now] 3)
         have hs1a := hB1a.size
         have rd1 : Rd (w1.alloc (.cells #[.int .i64 now] 3)) (some ⟨w1.heap.size, 0, none⟩) (is_ [now]) := Rd.block (heap_alloc_new w1 (.cells #[.int .i64 now] 3)) rfl)
      | (at_builtin; refine list_app _ rfl (.tmp 10) (.tmp 13) 22 rfl w.heap.size 3 i0 _ 1 8 Try.underlying22 hi hz0 hz1 hz2 rfl Nat.one_pos v1 _ _ rfl own1 (some ⟨w1.heap.size, 0, none⟩) 1 1 (is_ [now]) rfl rfl rd1 (is_one _) h3 h4 hs1a ?_; intro v2 w2 hown2 hg2
         have hB2 : Below w.heap.size w w2 := hB1a.grown hg2 hs1a (fun g hg => (own1.lt g hg).1)
         have hx2 := hx1a.grown hg2 (own1.no_cells hx1a (by decide))
         have hy2 := hy1a.grown hg2 (own1.no_cells hy1a (by decide))
         obtain ⟨A2, c2, rfl, hf2⟩ := hown2.form
         clear hf2
         obtain ⟨A3, hcut0, hcutr⟩ := cutl_run (P := Try.prog) (T := 22) rfl Try.underlying22 hso A2 9 c2 1 (by decide) hown2.cap.1
         obtain ⟨c3, hc3⟩ : ∃ c3, c2 - 1 = c3 := ⟨_, rfl⟩
         have hc38 : 8 ≤ c3 := by have := hown2.cap.1; omega
         have hcut : ∀ w, (Instr.slice 22 (.slice A2 9 c2) (some (.int .i64 1)) none none).run Try.prog w = .ok (.slice A3 8 c3) w := by rw [← hc3]; exact hcut0
         clear hcut0 hc3))
    refine (rflags_any f w2).mono ?_
    rintro e w3 ⟨rfl, hb3⟩
    have hy3 := hy2.below hb3 hy2.lt
    have hB3 := below_step8 hB2 hb3 hB2.size
    have own3 := hown2.behind hb3
    obtain ⟨q0, q1⟩ : w3.cell? ⟨w.heap.size + 1, 0, none⟩ = some (.int .i64 0) ∧ w3.cell? ⟨w.heap.size + 1, 1, none⟩ = some (.slice none 0 0) := ⟨hy3.cell 0, hy3.cell 1⟩
    have z0 := hy3.frozen 0
    have z1 := hy3.frozen 1
    have yE := (hy3.set 0 (.int .i64 (flg f))).set 1 (.slice A3 8 c3)
    have p0 : (w3.setCell ⟨w.heap.size + 1, 0, none⟩ (.int .i64 (flg f))).cell? ⟨w.heap.size + 1, 0, none⟩ = some (.int .i64 (flg f)) := (hy3.set 0 (.int .i64 (flg f))).cell 0
    have p1 : ((w3.setCell ⟨w.heap.size + 1, 0, none⟩ (.int .i64 (flg f))).setCell ⟨w.heap.size + 1, 1, none⟩ (.slice A3 8 c3)).cell? ⟨w.heap.size + 1, 1, none⟩ = some (.slice A3 8 c3) := yE.cell 1
    have hF : Fr w3 ((w3.setCell ⟨w.heap.size + 1, 0, none⟩ (.int .i64 (flg f))).setCell ⟨w.heap.size + 1, 1, none⟩ (.slice A3 8 c3)) (fun k => k = w.heap.size + 1) := (Fr.setCell w3 _ _ _ (fun k => k = w.heap.size + 1) rfl).trans (Fr.setCell _ _ _ _ (fun k => k = w.heap.size + 1) rfl) (fun k hk => .inl hk)
    have hBE := hB3.trans (hF.below (B := w.heap.size) hB3.size (fun k hk => by omega))
    have hny := own3.no_cells hy3 (by decide)
    have ownE := own3.fr hF (fun k hk e => hny (by rw [hk, e]))
    have rdE : RdOff ((w3.setCell ⟨w.heap.size + 1, 0, none⟩ (.int .i64 (flg f))).setCell ⟨w.heap.size + 1, 1, none⟩ (.slice A3 8 c3)) S A3 (is_ (last8 (l ++ [now]))) := by
      have h9 := RdOff.of_own (S := S) ownE (fun k hk hs => by have := (ownE.lt k hk).1; have := HS.out k hs; omega)
      have := hcutr S _ _ (by simp [is_, HN.out]) h9
      rw [show is_ (last8 (l ++ [now])) = ([] ++ is_ l ++ is_ [now]).drop 1 by simp [last8, HN.out, is_]]
      exact this
    clear hb3 hown2 hy2 hx2 own3 hcutr
    go_wp2_with fail
    refine bodyPost_ret (v := stV (flg f) A3 8 c3) (by simp [results, Try.results14, go_sem, stV, p0, p1]) rfl ⟨A3, 8, c3, rfl, ⟨?_, hc38⟩, rdE, hBE⟩
    show (last8 (l ++ [now])).length = 8
    rw [last8_len]
    simp [HN.out]
  · have hn7 : n ≤ 7 := by omega
    have t1 : decide (8 < (n : Int) + 1) = false := decide_eq_false (by omega)
    have t2 : (n : Int) + 1 ≤ 8 := by omega
    go_enter Try.func14, Try.ntmps14
    go_wp2_with (first
      | (at_builtin; refine list_app _ rfl (.tmp 6) (.tmp 8) 22 rfl w.heap.size 3 i0 _ 1 8 Try.underlying22 hi hz0 hz1 hz2 rfl Nat.one_pos (.slice (some ⟨w.heap.size + 1 + 1, 0, none⟩) 0 0) 0 [] rfl hown0 A n c (is_ l) rfl (by rw [is_len, HN.out, Nat.mul_one]) hr1 (is_one l) h1 h2 hs0 ?_; intro v1 w1 hown1 hg1
         have hB1 : Below w.heap.size w w1 := hB0.grown hg1 hs0 (fun g hg => (hown0.lt g hg).1)
         have hx1 := hx0.grown hg1 (hown0.no_cells hx0 (by decide))
         have hy1 := hy0.grown hg1 (hown0.no_cells hy0 (by decide))
         have hs1 := hB1.size
         have a0 := hx1.cell 0
         have own1 := hown1.alloc (.cells #[.int .i64 now] 3)
         have hx1a := hx1.alloc (.cells #[.int .i64 now] 3)
         have hy1a := hy1.alloc (.cells #[.int .i64 now] 3)
         have hB1a := hB1.alloc hs1 (.cells #[.int .i64 now] 3)
         have hs1a := hB1a.size
         have rd1 : Rd (w1.alloc (.cells #[.int .i64 now] 3)) (some ⟨w1.heap.size, 0, none⟩) (is_ [now]) := Rd.block (heap_alloc_new w1 (.cells #[.int .i64 now] 3)) rfl)
      | (at_builtin; refine list_app _ rfl (.tmp 10) (.tmp 13) 22 rfl w.heap.size 3 i0 _ 1 8 Try.underlying22 hi hz0 hz1 hz2 rfl Nat.one_pos v1 _ _ rfl own1 (some ⟨w1.heap.size, 0, none⟩) 1 1 (is_ [now]) rfl rfl rd1 (is_one _) h3 h4 hs1a ?_; intro v2 w2 hown2 hg2
         have hB2 : Below w.heap.size w w2 := hB1a.grown hg2 hs1a (fun g hg => (own1.lt g hg).1)
         have hx2 := hx1a.grown hg2 (own1.no_cells hx1a (by decide))
         have hy2 := hy1a.grown hg2 (own1.no_cells hy1a (by decide))
         obtain ⟨A2, c2, rfl, hf2⟩ := hown2.form
         clear hf2
         have hcc := hown2.cap.1
         have hbd : n + 1 ≤ c2 := by omega))
    refine (rflags_any f w2).mono ?_
    rintro e w3 ⟨rfl, hb3⟩
    have hy3 := hy2.below hb3 hy2.lt
    have hB3 := below_step8 hB2 hb3 hB2.size
    have own3 := hown2.behind hb3
    have e1 : 0 + n + 1 = n + 1 := by omega
    rw [e1] at own3
    obtain ⟨q0, q1⟩ : w3.cell? ⟨w.heap.size + 1, 0, none⟩ = some (.int .i64 0) ∧ w3.cell? ⟨w.heap.size + 1, 1, none⟩ = some (.slice none 0 0) := ⟨hy3.cell 0, hy3.cell 1⟩
    have z0 := hy3.frozen 0
    have z1 := hy3.frozen 1
    have yE := (hy3.set 0 (.int .i64 (flg f))).set 1 (.slice A2 (n + 1) c2)
    have p0 : (w3.setCell ⟨w.heap.size + 1, 0, none⟩ (.int .i64 (flg f))).cell? ⟨w.heap.size + 1, 0, none⟩ = some (.int .i64 (flg f)) := (hy3.set 0 (.int .i64 (flg f))).cell 0
    have p1 : ((w3.setCell ⟨w.heap.size + 1, 0, none⟩ (.int .i64 (flg f))).setCell ⟨w.heap.size + 1, 1, none⟩ (.slice A2 (n + 1) c2)).cell? ⟨w.heap.size + 1, 1, none⟩ = some (.slice A2 (n + 1) c2) := yE.cell 1
    have hF : Fr w3 ((w3.setCell ⟨w.heap.size + 1, 0, none⟩ (.int .i64 (flg f))).setCell ⟨w.heap.size + 1, 1, none⟩ (.slice A2 (n + 1) c2)) (fun k => k = w.heap.size + 1) := (Fr.setCell w3 _ _ _ (fun k => k = w.heap.size + 1) rfl).trans (Fr.setCell _ _ _ _ (fun k => k = w.heap.size + 1) rfl) (fun k hk => .inl hk)
    have hBE := hB3.trans (hF.below (B := w.heap.size) hB3.size (fun k hk => by omega))
    have hny := own3.no_cells hy3 (by decide)
    have ownE := own3.fr hF (fun k hk e => hny (by rw [hk, e]))
    have hl8 : last8 (l ++ [now]) = l ++ [now] := last8_id (by simp [HN.out]; omega)
    have rdE : RdOff ((w3.setCell ⟨w.heap.size + 1, 0, none⟩ (.int .i64 (flg f))).setCell ⟨w.heap.size + 1, 1, none⟩ (.slice A2 (n + 1) c2)) S A2 (is_ (last8 (l ++ [now]))) := by
      have h9 := RdOff.of_own (S := S) ownE (fun k hk hs => by have := (ownE.lt k hk).1; have := HS.out k hs; omega)
      rw [hl8, show is_ (l ++ [now]) = [] ++ is_ l ++ is_ [now] by simp [is_]]
      exact h9
    clear hb3 hown2 hy2 hx2 own3 hcc
    go_wp2_with fail
    refine bodyPost_ret (v := stV (flg f) A2 (n + 1) c2) (by simp [results, Try.results14, go_sem, stV, p0, p1]) rfl ⟨A2, n + 1, c2, rfl, ⟨?_, hbd⟩, rdE, hBE⟩
    show (last8 (l ++ [now])).length = n + 1
    rw [hl8]
    simp [HN.out]
end
end Go.Proofs.Ytocbkcofmebfmaa
