/-
  Layer 4, walked: the document's own queue: May, Push, Drain.
-/
import Derived.Test.YthilpfgmbikhfaaQuD
namespace Go.Proofs.Ythilpfgmbikhfaa
open Go.RowKit

def mayB (n : Int) : Bool := decide (64 ≤ n) && decide (n ≤ 65536)
theorem mayB_iff {n : Int} : mayB n = true ↔ 64 ≤ n ∧ n ≤ 65536 := by simp [mayB]
theorem may_any (n : Int) (q : Bool) (w : World) (hq : mayB n = q) : Calls Try.prog 12 #[.int .i64 n] w fun e w' => e = .returned (.bool q) ∧ w = w' := by
  have HQ := Lib.hid hq
  clear hq
  by_cases h1 : 64 ≤ n
  · have t1 : decide (64 ≤ n) = true := by simpa using h1
    by_cases h2 : n ≤ 65536
    · have t2 : decide (n ≤ 65536) = true := by simpa using h2
      go_enter Try.func12, Try.ntmps12
      go_wp2
      go_ret
      exact ⟨ret_b (by rw [← HQ.out]; unfold mayB; rw [t1, t2]; rfl), rfl⟩
    · have t2 : decide (n ≤ 65536) = false := by simpa using h2
      go_enter Try.func12, Try.ntmps12
      go_wp2
      go_ret
      exact ⟨ret_b (by rw [← HQ.out]; unfold mayB; rw [t1, t2]; rfl), rfl⟩
  · have t1 : decide (64 ≤ n) = false := by simpa using h1
    go_enter Try.func12, Try.ntmps12
    go_wp2
    go_ret
    exact ⟨ret_b (by rw [← HQ.out]; unfold mayB; rw [t1]; rfl), rfl⟩

abbrev rqV (room : Nat) (A : Option Addr) (n c : Nat) (d : Nat) : Value := .agg #[.int .i64 (room : Int), .slice A n c, .int .i64 (d : Int)]
abbrev rqC (room : Nat) (A : Option Addr) (n c : Nat) (d : Nat) : Array Value := #[.int .i64 (room : Int), .slice A n c, .int .i64 (d : Int)]
/-- What the document's Push tells. -/
def RPushE (S : Nat → Prop) (room : Nat) (l' : List UInt8) (d' : Nat) (b : Bool) (w : World) (e : Ending) (w' : World) : Prop :=
  (∃ A c, e = .returned (.tuple #[rqV room A l'.length c d', .bool b]) ∧ l'.length ≤ c ∧ RdOff w' S A (bs l')) ∧ Below w.heap.size w w'
/-- What the document's Drain tells. -/
def RDrainE (S : Nat → Prop) (room k : Nat) (l : List UInt8) (d : Nat) (w : World) (e : Ending) (w' : World) : Prop :=
  (∃ A c B c', e = .returned (.tuple #[rqV room A (l.length - k) c d, .slice B k c']) ∧ l.length - k ≤ c ∧ RdOff w' S A (bs (l.drop k)) ∧ RdOff w' S B (bs (l.take k))) ∧ Below w.heap.size w w'

section
variable {S : Nat → Prop} {l : List UInt8}
set_option maxRecDepth 100000 in
set_option maxHeartbeats 8000000 in
theorem rpush_no (room : Nat) (A : Option Addr) (c d : Nat) (B : Option Addr) (n e : Nat) (x : List UInt8) (w : World) (hlc : l.length ≤ c) (hl : l.length ≤ 65536) (hrm : room ≤ 65536) (hn : x.length = n) (hx : n ≤ 140737488351232) (hd : d ≤ 4294967296) (hr : RdOff w S A (bs l)) (hno : hasRoom room l x = false) :
    Calls Try.prog 14 #[rqV room A l.length c d, .slice B n e] w (RPushE S room l (d + 1) false w) := by
  have hno' : room < l.length + n := by
    have : ¬ (l.length + x.length ≤ room) := fun hh => by rw [hasRoom_iff.2 hh] at hno; cases hno
    omega
  obtain ⟨m, hm⟩ : ∃ m, l.length = m := ⟨_, rfl⟩
  rw [hm] at hlc hl hno' ⊢
  have HM := Lib.hid hm
  have HR := Lib.hid hr
  clear hm hr hn hno
  have t1 : decide ((room : Int) < (m : Int) + (n : Int)) = true := by simp; omega
  go_enter Try.func14, Try.ntmps14
  go_wp2_with fail
  have hB : Below w.heap.size w ((w.alloc (.cells (rqC room A m c (d + 1)) 30)).alloc (.cells (rqC room A m c (d + 1)) 30)) := ((Below.refl _ w).alloc (Nat.le_refl _) _).alloc (by simp) _
  have hd1 : ((d + 1 : Nat) : Int) = (d : Int) + 1 := by omega
  unfold rqC at hB
  rw [hd1] at hB
  refine bodyPost_ret (v := .tuple #[.agg #[.int .i64 (room : Int), .slice A m c, .int .i64 ((d : Int) + 1)], .bool false]) (by simp [results, Try.results14, go_sem]) rfl ⟨⟨A, c, ?_, by rw [HM.out]; exact hlc, HR.out.fr (Fr.of_below hB S) (Wid.refl _ _)⟩, hB⟩
  unfold rqV
  rw [hd1, HM.out]
set_option maxRecDepth 100000 in
set_option maxHeartbeats 8000000 in
theorem rpush_yes (room : Nat) (A : Option Addr) (c d : Nat) (B : Option Addr) (n e : Nat) (x : List UInt8) (w : World) (hS : ∀ k, S k → k < w.heap.size) (hrm : room ≤ 65536) (hn : x.length = n) (hr : RdOff w S A (bs l)) (hrx : Rd w B (bs x)) (hyes : hasRoom room l x = true) :
    Calls Try.prog 14 #[rqV room A l.length c d, .slice B n e] w (RPushE S room (l ++ x) d true w) := by
  obtain ⟨i0, hi, hz0, hz1, hz2⟩ := u8_parts
  have hyes' : l.length + n ≤ room := by rw [← hn]; exact hasRoom_iff.1 hyes
  obtain ⟨m, hm⟩ : ∃ m, l.length = m := ⟨_, rfl⟩
  rw [hm] at hyes' ⊢
  have HM := Lib.hid hm
  have HN := Lib.hid hn
  have HS := Lib.hid hS
  have hr0 := hr.rd
  clear hm hr hn hyes hS
  have t1 : decide ((room : Int) < (m : Int) + (n : Int)) = false := by simp; omega
  have h1 : 0 + m ≤ maxLen := by simp only [maxLen]; omega
  have h2 : (0 + m) * 1 ≤ 140737488355328 := by omega
  have h3 : 0 + m + n ≤ maxLen := by simp only [maxLen]; omega
  have h4 : (0 + m + n) * 1 ≤ 140737488355328 := by omega
  have hB0 : Below w.heap.size w (((w.alloc (.cells (rqC room A m c d) 30)).alloc (.cells #[.int .i64 0, .slice none 0 0, .int .i64 0] 30)).alloc (.cells #[] 5)) := (((Below.refl _ w).alloc (Nat.le_refl _) _).alloc (by simp) _).alloc (by simp; omega) _
  have hx0 : Blk (((w.alloc (.cells (rqC room A m c d) 30)).alloc (.cells #[.int .i64 0, .slice none 0 0, .int .i64 0] 30)).alloc (.cells #[] 5)) w.heap.size 30 (rqC room A m c d) := ((Blk.new w _ _).alloc _).alloc _
  have hy0 : Blk (((w.alloc (.cells (rqC room A m c d) 30)).alloc (.cells #[.int .i64 0, .slice none 0 0, .int .i64 0] 30)).alloc (.cells #[] 5)) (w.heap.size + 1) 30 #[.int .i64 0, .slice none 0 0, .int .i64 0] := by
    have := (Blk.new (w.alloc (.cells (rqC room A m c d) 30)) 30 #[.int .i64 0, .slice none 0 0, .int .i64 0]).alloc (.cells #[] 5)
    rwa [World.size_alloc] at this
  have hown0 : Own (((w.alloc (.cells (rqC room A m c d) 30)).alloc (.cells #[.int .i64 0, .slice none 0 0, .int .i64 0] 30)).alloc (.cells #[] 5)) w.heap.size 5 1 (.slice (some ⟨w.heap.size + 1 + 1, 0, none⟩) 0 0) 0 [] := by
    have := Own.of (World.ownsRow_made (base := w.heap.size) (e := 5) (size := 1) ((w.alloc (.cells (rqC room A m c d) 30)).alloc (.cells #[.int .i64 0, .slice none 0 0, .int .i64 0] 30)) #[] 0 (by simp; omega) (by decide) rfl)
    rwa [World.size_alloc, World.size_alloc] at this
  unfold rqC at hB0 hx0 hy0 hown0
  have hr1 := hr0.below hB0
  have hs0 := hB0.size
  go_enter Try.func14, Try.ntmps14
  go_wp2_with (first
    | (at_builtin; refine list_app _ rfl (.tmp 21) (.tmp 23) 28 rfl w.heap.size 5 i0 _ 1 1 Try.underlying28 hi hz0 hz1 hz2 rfl Nat.one_pos (.slice (some ⟨w.heap.size + 1 + 1, 0, none⟩) 0 0) 0 [] rfl hown0 A m c (bs l) rfl (by rw [bs_length, HM.out]; omega) hr1 (bs_one l) h1 h2 hs0 ?_; intro v1 w1 hown1 hg1
       have hB1 : Below w.heap.size w w1 := hB0.grown hg1 hs0 (fun g hg => (hown0.lt g hg).1)
       have hx1 := hx0.grown hg1 (hown0.no_cells hx0 (by decide))
       have hy1 := hy0.grown hg1 (hown0.no_cells hy0 (by decide))
       have hrx1 := hrx.below hB1
       have hs1 := hB1.size)
    | (at_builtin; refine list_app _ rfl (.tmp 25) (.tmp 26) 28 rfl w.heap.size 5 i0 _ 1 1 Try.underlying28 hi hz0 hz1 hz2 rfl Nat.one_pos v1 _ _ rfl hown1 B n e (bs x) rfl (by rw [bs_length, HN.out]; omega) hrx1 (bs_one x) h3 h4 hs1 ?_; intro v2 w2 hown2 hg2
       have hB2 : Below w.heap.size w w2 := hB1.grown hg2 hs1 (fun g hg => (hown1.lt g hg).1)
       have hx2 := hx1.grown hg2 (hown1.no_cells hx1 (by decide))
       have hy2 := hy1.grown hg2 (hown1.no_cells hy1 (by decide))
       obtain ⟨A2, c2, rfl, hf2⟩ := hown2.form
       clear hf2
       have ex0 := hx2.cell 0
       have ex1 := hx2.cell 1
       have ex2 := hx2.cell 2
       have ey0 := hy2.cell 0
       have ey1 := hy2.cell 1
       have ey2 := hy2.cell 2
       have zx1 := hx2.frozen 1
       have zy0 := hy2.frozen 0
       have zy1 := hy2.frozen 1
       have zy2 := hy2.frozen 2))
  have hnx := hown2.no_cells hx2 (by decide)
  have hny := hown2.no_cells hy2 (by decide)
  have hF : Fr w2 ((((w2.setCell ⟨w.heap.size, 1, none⟩ (.slice A2 (m + n) c2)).setCell ⟨w.heap.size + 1, 0, none⟩ (.int .i64 (room : Int))).setCell ⟨w.heap.size + 1, 1, none⟩ (.slice A2 (m + n) c2)).setCell ⟨w.heap.size + 1, 2, none⟩ (.int .i64 (d : Int))) (fun k => k = w.heap.size ∨ k = w.heap.size + 1) :=
    (((Fr.setCell w2 _ _ _ _ (.inl rfl)).trans (Fr.setCell _ _ _ _ (fun k => k = w.heap.size ∨ k = w.heap.size + 1) (.inr rfl)) (fun k hk => .inl hk)).trans (Fr.setCell _ _ _ _ (fun k => k = w.heap.size ∨ k = w.heap.size + 1) (.inr rfl)) (fun k hk => .inl hk)).trans (Fr.setCell _ _ _ _ (fun k => k = w.heap.size ∨ k = w.heap.size + 1) (.inr rfl)) (fun k hk => .inl hk)
  have hB3 := hB2.trans (hF.below (B := w.heap.size) hB2.size (fun k hk => by rcases hk with h | h <;> omega))
  have hown3 := hown2.fr hF (fun k hk e => by
    rcases e with e | e
    · exact hnx (by rw [hk, e])
    · exact hny (by rw [hk, e]))
  have hl3 : (l ++ x).length = m + n := by rw [List.length_append, HM.out, HN.out]
  have hn3 : 0 + m + n = m + n := by omega
  rw [hn3] at hown3
  have hc3 := hown3.cap.1
  rw [List.nil_append, ← bs_append] at hown3
  refine bodyPost_ret (v := .tuple #[.agg #[.int .i64 (room : Int), .slice A2 (m + n) c2, .int .i64 (d : Int)], .bool true]) (by simp [results, Try.results14, go_sem, ey0, ey1, ey2]) rfl ⟨⟨A2, c2, ?_, by rw [hl3]; exact hc3, RdOff.of_own hown3 (fun k hk hs => by have := (hown3.lt k hk).1; have := HS.out k hs; omega)⟩, hB3⟩
  unfold rqV
  rw [hl3]
theorem rpush_any (room : Nat) (A : Option Addr) (c d : Nat) (B : Option Addr) (n e : Nat) (x : List UInt8) (w : World) (b : Bool) (l' : List UInt8) (d' : Nat) (hS : ∀ k, S k → k < w.heap.size) (hlc : l.length ≤ c) (hl : l.length ≤ 65536) (hrm : room ≤ 65536) (hn : x.length = n) (hx : n ≤ 140737488351232) (hd : d ≤ 4294967296) (hr : RdOff w S A (bs l)) (hrx : Rd w B (bs x))
    (hb : hasRoom room l x = b) (hl' : pushL room l x = l') (hd' : pushD room l x d = d') :
    Calls Try.prog 14 #[rqV room A l.length c d, .slice B n e] w (RPushE S room l' d' b w) := by
  subst hl' hd'
  cases b with
  | true =>
    unfold pushL pushD
    rw [if_pos hb, if_pos hb]
    exact rpush_yes room A c d B n e x w hS hrm hn hr hrx hb
  | false =>
    unfold pushL pushD
    rw [if_neg (by rw [hb]; decide), if_neg (by rw [hb]; decide)]
    exact rpush_no room A c d B n e x w hlc hl hrm hn hx hd hr hb
set_option maxRecDepth 100000 in
set_option maxHeartbeats 8000000 in
theorem rdrain_any (room : Nat) (A : Option Addr) (c d : Nat) (n : Int) (K : Nat) (w : World) (hlc : l.length ≤ c) (hl : l.length ≤ 65536) (hn : n ≤ 9223372036854775807) (hr : RdOff w S A (bs l)) (hK : drainK n l = K) :
    Calls Try.prog 16 #[rqV room A l.length c d, .int .i64 n] w (RDrainE S room K l d w) := by
  obtain ⟨i0, hi, hz0, hz1, hz2⟩ := u8_parts
  have hso : ∀ w, (sizeOf 5).run Try.prog w = .ok 1 w := fun w => by simp [sizeOf, typeInfo, hi, hz1, Result.andThen]
  obtain ⟨m, hm⟩ : ∃ m, l.length = m := ⟨_, rfl⟩
  unfold drainK at hK
  rw [hm] at hlc hl hK ⊢
  have hKm : K ≤ m := by omega
  obtain ⟨N, hN⟩ : ∃ N : Nat, n.toNat = N := ⟨_, rfl⟩
  have hmax : ∀ (ts : Array TypeId) (t : TypeId) (W : World), (Builtin.max_ ts t #[.int .i64 n, .int .i64 0]).run Try.prog W = .ok (.int .i64 (N : Int)) W := fun ts t W => by
    rw [run_max_int2]
    congr 2
    split <;> omega
  have hmin : ∀ (ts : Array TypeId) (t : TypeId) (W : World), (Builtin.min_ ts t #[.int .i64 (N : Int), .int .i64 (m : Int)]).run Try.prog W = .ok (.int .i64 (K : Int)) W := fun ts t W => by
    rw [run_min_int2]
    congr 2
    split <;> omega
  obtain ⟨A1, hcutk, hrk⟩ := cutk_run (P := Try.prog) (T := 28) rfl Try.underlying28 hso A m c K hKm hlc
  obtain ⟨A2, hcutl, hrl⟩ := cutl_run (P := Try.prog) (T := 28) rfl Try.underlying28 hso A m c K hKm hlc
  have hr1 := Lib.hid (hrk S w (bs l) (by rw [bs_length, hm]) hr)
  have hr2 := Lib.hid (hrl S w (bs l) (by rw [bs_length, hm]) hr)
  obtain ⟨L, hL⟩ : ∃ L, m - K = L := ⟨_, rfl⟩
  obtain ⟨C1, hC1⟩ : ∃ C1, c - K = C1 := ⟨_, rfl⟩
  have hLC : L ≤ C1 := by omega
  rw [hL, hC1] at hcutl
  have HM := Lib.hid hm
  have HL := Lib.hid hL
  clear hm hr hK hrk hrl hL hC1 hN
  go_enter Try.func16, Try.ntmps16
  go_wp2_with fail
  have hB : Below w.heap.size w ((w.alloc (.cells (rqC room A2 L C1 d) 30)).alloc (.cells (rqC room A2 L C1 d) 30)) := ((Below.refl _ w).alloc (Nat.le_refl _) _).alloc (by simp) _
  unfold rqC at hB
  have g1 := hr1.out
  have g2 := hr2.out
  rw [show (bs l).take K = bs (l.take K) by rw [bs, bs, List.map_take]] at g1
  rw [show (bs l).drop K = bs (l.drop K) by rw [bs, bs, List.map_drop]] at g2
  refine bodyPost_ret (v := .tuple #[.agg #[.int .i64 (room : Int), .slice A2 L C1, .int .i64 (d : Int)], .slice A1 K c]) (by simp [results, Try.results16, go_sem]) rfl ⟨⟨A2, C1, A1, c, ?_, ?_, g2.fr (Fr.of_below hB S) (Wid.refl _ _), g1.fr (Fr.of_below hB S) (Wid.refl _ _)⟩, hB⟩
  · unfold rqV
    rw [show l.length - K = L by rw [HM.out]; exact HL.out]
  · rw [show l.length - K = L by rw [HM.out]; exact HL.out]
    exact hLC
end
end Go.Proofs.Ythilpfgmbikhfaa
