/-
  Layer 15, the laws' walks over the bundle: TrackTells.
-/
import Derived.Test.YtbdpjhlfaelgpaaTrkX
import Derived.Test.YtbdpjhlfaelgpaaRegK
namespace Go.Proofs.Ytbdpjhlfaelgpaa
open Go.RowKit

variable {Inv : World → Prop}
theorem rtell15_at (mode : Int) (s : Ce) (e : Ms) {u v : Int} {b : Bool} (ht : tellT mode s e = (⟨u, v⟩, b)) (w : World) :
    Calls Try.prog 11 #[.int .i64 mode, .agg #[.int .i64 s.x, .int .i64 s.y], .agg #[.int .i64 e.btn, .int .i64 e.typ, .int .i64 e.x, .int .i64 e.y, .int .i64 e.mods]] w fun x w' => x = .returned (.tuple #[.agg #[.int .i64 u, .int .i64 v], .bool b]) ∧ Below w.heap.size w w' := by
  have := rtell15_any mode s e w
  rw [ht] at this
  exact this
theorem rmay15_at (e : Ms) {b : Bool} (hm : mayT e = b) (w : World) :
    Calls Try.prog 13 #[.agg #[.int .i64 e.btn, .int .i64 e.typ, .int .i64 e.x, .int .i64 e.y, .int .i64 e.mods]] w fun x w' => x = .returned (.bool b) ∧ Below w.heap.size w w' := by
  have := rmay15_any e w
  rw [hm] at this
  exact this
set_option maxRecDepth 100000 in
set_option maxHeartbeats 16000000 in
theorem trackTells_walk (H : TrkC Inv) (mode : Int) (_ : -9223372036854775808 ≤ mode) (_ : mode ≤ 9223372036854775807) (s : Ce) (e : Ms) (w : World) (hv : Inv w) : Calls Try.prog 3 #[.int .i64 mode, ceV s, msV e] w fun x w' => x = .returned (.bool true) ∧ Below w.heap.size w w' := by
  obtain ⟨⟨⟨u, v⟩, b⟩, ht⟩ : ∃ T, tellT mode s e = T := ⟨_, rfl⟩
  obtain ⟨q, hq⟩ : ∃ q, mayT e = q := ⟨_, rfl⟩
  have HT := H.tell_hid ht
  have HM := H.may_hid hq
  have HR := Lib.hid fun W => rtell15_at mode s e ht W
  have HN := Lib.hid fun W => rmay15_at e hq W
  clear ht hq
  obtain ⟨btn, typ, x, y, md⟩ := e
  obtain ⟨sx, sy⟩ := s
  simp only [msV, ceV] at HT HM HR HN ⊢
  have hB := ((Below.refl w.heap.size w).alloc (Nat.le_refl _) (.cells #[.int .i64 sx, .int .i64 sy] 23)).alloc (by simp) (.cells #[.int .i64 btn, .int .i64 typ, .int .i64 x, .int .i64 y, .int .i64 md] 25)
  have r0 := (Blk.new w 23 #[.int .i64 sx, .int .i64 sy]).alloc (.cells #[.int .i64 btn, .int .i64 typ, .int .i64 x, .int .i64 y, .int .i64 md] 25)
  have k0 := Blk.new (w.alloc (.cells #[.int .i64 sx, .int .i64 sy] 23)) 25 #[.int .i64 btn, .int .i64 typ, .int .i64 x, .int .i64 y, .int .i64 md]
  rw [World.size_alloc] at k0
  have hv0 := H.invB hv hB
  obtain ⟨b0, b1, b2, b3, b4⟩ := Blk.cells5 k0
  obtain ⟨a0, a1⟩ := And.intro (r0.cell 0) (r0.cell 1)
  go_enter Try.func3, Try.ntmps3
  go_wp2_with fail
  refine (trkAwake H _ hv0).mono ?_
  rintro z w1 ⟨rfl, hb⟩
  have hB1 := hB.trans (hb.mono hB.size)
  replace k0 := k0.below hb k0.lt
  replace r0 := r0.below hb r0.lt
  clear b0 b1 b2 b3 b4 a0 a1 hb hB hv0
  obtain ⟨b0, b1, b2, b3, b4⟩ := Blk.cells5 k0
  obtain ⟨a0, a1⟩ := And.intro (r0.cell 0) (r0.cell 1)
  go_wp2_with fail
  refine (HT.out _ (H.invB hv hB1)).mono ?_
  rintro z w2 ⟨rfl, hb⟩
  have hB2 := hB1.trans (hb.mono hB1.size)
  replace k0 := k0.below hb k0.lt
  replace r0 := r0.below hb r0.lt
  clear b0 b1 b2 b3 b4 a0 a1 hb hB1
  have hB3 := hB2.alloc hB2.size (.cells #[.int .i64 u, .int .i64 v] 27)
  have s0 := Blk.new w2 27 #[.int .i64 u, .int .i64 v]
  replace k0 := k0.alloc (.cells #[.int .i64 u, .int .i64 v] 27)
  replace r0 := r0.alloc (.cells #[.int .i64 u, .int .i64 v] 27)
  obtain ⟨b0, b1, b2, b3, b4⟩ := Blk.cells5 k0
  obtain ⟨a0, a1⟩ := And.intro (r0.cell 0) (r0.cell 1)
  obtain ⟨c0, c1⟩ := And.intro (s0.cell 0) (s0.cell 1)
  go_wp2_with fail
  refine (HR.out _).mono ?_
  rintro z w3 ⟨rfl, hb⟩
  have hB4 := hB3.trans (hb.mono hB3.size)
  replace k0 := k0.below hb k0.lt
  replace r0 := r0.below hb r0.lt
  replace s0 := s0.below hb s0.lt
  clear b0 b1 b2 b3 b4 a0 a1 c0 c1 hb hB2 hB3
  have hB5 := hB4.alloc hB4.size (.cells #[.int .i64 u, .int .i64 v] 23)
  have t0 := Blk.new w3 23 #[.int .i64 u, .int .i64 v]
  replace k0 := k0.alloc (.cells #[.int .i64 u, .int .i64 v] 23)
  replace s0 := s0.alloc (.cells #[.int .i64 u, .int .i64 v] 23)
  obtain ⟨b0, b1, b2, b3, b4⟩ := Blk.cells5 k0
  obtain ⟨c0, c1⟩ := And.intro (s0.cell 0) (s0.cell 1)
  obtain ⟨d0, d1⟩ := And.intro (t0.cell 0) (t0.cell 1)
  -- the last region
  go_wp2_with fail
  have HV := Lib.hid (fun W (hW : Below (w3.alloc (.cells #[.int .i64 u, .int .i64 v] 23)).heap.size (w3.alloc (.cells #[.int .i64 u, .int .i64 v] 23)) W) => H.invB (H.invB hv hB5) hW)
  have ls : ∀ W, Below (w3.alloc (.cells #[.int .i64 u, .int .i64 v] 23)).heap.size (w3.alloc (.cells #[.int .i64 u, .int .i64 v] 23)) W → Blk W w2.heap.size 27 #[.int .i64 u, .int .i64 v] := fun W hW => s0.below hW s0.lt
  have lt : ∀ W, Below (w3.alloc (.cells #[.int .i64 u, .int .i64 v] 23)).heap.size (w3.alloc (.cells #[.int .i64 u, .int .i64 v] 23)) W → Blk W w3.heap.size 23 #[.int .i64 u, .int .i64 v] := fun W hW => t0.below hW t0.lt
  have lk : ∀ W, Below (w3.alloc (.cells #[.int .i64 u, .int .i64 v] 23)).heap.size (w3.alloc (.cells #[.int .i64 u, .int .i64 v] 23)) W → Blk W (w.heap.size + 1) 25 #[.int .i64 btn, .int .i64 typ, .int .i64 x, .int .i64 y, .int .i64 md] := fun W hW => k0.below hW k0.lt
  have hst : ∀ f ∈ ([] : List Fact), f.ok := fun _ h => by cases h
  refine wp_region_told (w1 := (w3.alloc (.cells #[.int .i64 u, .int .i64 v] 23))) (K := []) (ix := 1000) (R0 := fun _ _ _ => True) (R1 := fun _ _ _ => True) [] (⟨#[.int .i64 mode, .agg #[.int .i64 sx, .int .i64 sy], .agg #[.int .i64 btn, .int .i64 typ, .int .i64 x, .int .i64 y, .int .i64 md], undef, .pointer (some ⟨w.heap.size, 0, none⟩), .pointer (some ⟨w.heap.size + 1, 0, none⟩), .bool true, .bool true, .pointer (some ⟨w2.heap.size, 0, none⟩), .bool b, .pointer (some ⟨w3.heap.size, 0, none⟩), .bool b, .bool true, .tuple #[.agg #[.int .i64 u, .int .i64 v], .bool b], .int .i64 mode, .pointer (some ⟨w.heap.size, 0, none⟩), .int .i64 sx, .pointer (some ⟨w.heap.size, 1, none⟩), .int .i64 sy, .agg #[.int .i64 sx, .int .i64 sy], .agg #[.int .i64 btn, .int .i64 typ, .int .i64 x, .int .i64 y, .int .i64 md], .tuple #[.agg #[.int .i64 u, .int .i64 v], .bool b], .agg #[.int .i64 u, .int .i64 v], .bool b, .tuple #[.agg #[.int .i64 u, .int .i64 v], .bool b], .int .i64 mode, .agg #[.int .i64 sx, .int .i64 sy], .agg #[.int .i64 btn, .int .i64 typ, .int .i64 x, .int .i64 y, .int .i64 md], .tuple #[.agg #[.int .i64 u, .int .i64 v], .bool b], .agg #[.int .i64 u, .int .i64 v], .bool b, .bool true, .bool true, .agg #[.int .i64 u, .int .i64 v], .pointer (some ⟨w3.heap.size, 0, none⟩), .int .i64 u, .pointer (some ⟨w3.heap.size, 1, none⟩), .int .i64 v, .agg #[.int .i64 u, .int .i64 v], .bool true, .bool true, .bool true, .bool b, .bool b, .bool true, .bool true, .bool true, .agg #[.int .i64 btn, .int .i64 typ, .int .i64 x, .int .i64 y, .int .i64 md], .bool q, .agg #[.int .i64 btn, .int .i64 typ, .int .i64 x, .int .i64 y, .int .i64 md], .bool q, .bool true, .bool true], []⟩) (fun g => ⟨#[.int .i64 mode, .agg #[.int .i64 sx, .int .i64 sy], .agg #[.int .i64 btn, .int .i64 typ, .int .i64 x, .int .i64 y, .int .i64 md], undef, .pointer (some ⟨w.heap.size, 0, none⟩), .pointer (some ⟨w.heap.size + 1, 0, none⟩), .bool true, .bool true, .pointer (some ⟨w2.heap.size, 0, none⟩), .bool b, .pointer (some ⟨w3.heap.size, 0, none⟩), .bool b, .bool true, .tuple #[.agg #[.int .i64 u, .int .i64 v], .bool b], .int .i64 mode, .pointer (some ⟨w.heap.size, 0, none⟩), .int .i64 sx, .pointer (some ⟨w.heap.size, 1, none⟩), .int .i64 sy, .agg #[.int .i64 sx, .int .i64 sy], .agg #[.int .i64 btn, .int .i64 typ, .int .i64 x, .int .i64 y, .int .i64 md], .tuple #[.agg #[.int .i64 u, .int .i64 v], .bool b], .agg #[.int .i64 u, .int .i64 v], .bool b, .tuple #[.agg #[.int .i64 u, .int .i64 v], .bool b], .int .i64 mode, .agg #[.int .i64 sx, .int .i64 sy], .agg #[.int .i64 btn, .int .i64 typ, .int .i64 x, .int .i64 y, .int .i64 md], .tuple #[.agg #[.int .i64 u, .int .i64 v], .bool b], .agg #[.int .i64 u, .int .i64 v], .bool b, .bool true, .bool true, .agg #[.int .i64 u, .int .i64 v], .pointer (some ⟨w3.heap.size, 0, none⟩), .int .i64 u, .pointer (some ⟨w3.heap.size, 1, none⟩), .int .i64 v, .agg #[.int .i64 u, .int .i64 v], .bool true, .bool true, .bool true, .bool b, .bool b, .bool true, .bool true, .bool true, .agg #[.int .i64 btn, .int .i64 typ, .int .i64 x, .int .i64 y, .int .i64 md], .bool q, .agg #[.int .i64 btn, .int .i64 typ, .int .i64 x, .int .i64 y, .int .i64 md], .bool q, .bool true, .bool true], []⟩) [.bool true, .bool true, .agg #[.int .i64 u, .int .i64 v], .pointer (some ⟨w3.heap.size, 0, none⟩), .int .i64 u, .pointer (some ⟨w3.heap.size, 1, none⟩), .int .i64 v, .agg #[.int .i64 u, .int .i64 v], .bool true, .bool true, .bool true, .bool b, .bool b, .bool true, .bool true, .bool true, .agg #[.int .i64 btn, .int .i64 typ, .int .i64 x, .int .i64 y, .int .i64 md], .bool q, .agg #[.int .i64 btn, .int .i64 typ, .int .i64 x, .int .i64 y, .int .i64 md], .bool q, .bool true, .bool true, .bool true] (by kernel_rfl) (by kernel_rfl) (by kernel_rfl) (fun g => by kernel_rfl) (by kernel_rfl) (Below.refl _ _).drew (by decide) (by kernel_rfl)
    (goes_cons (goesK_pure (fun _ => .bool true) rfl (by decide) (by decide) (by kernel_rfl) (fun g => by kernel_rfl) rfl (fun g => by kernel_rfl) (fun g w => by kernel_rfl)) 
    (goes_cons (goesK_pure (fun _ => .bool true) rfl (by decide) (by decide) (by kernel_rfl) (fun g => by kernel_rfl) rfl (fun g => by kernel_rfl) (fun g w => by kernel_rfl)) 
    (goes_cons (goesK_load hst (ahead_none (by decide)) rfl (by decide) (by decide) (by kernel_rfl) (fun g => by kernel_rfl) rfl (fun g => by kernel_rfl) rfl (fun g => by kernel_rfl) ls Try.underlying27 rfl (by kernel_rfl)) 
    (goes_cons (goesK_pure (fun _ => .pointer (some ⟨w3.heap.size, 0, none⟩)) rfl (by decide) (by decide) (by kernel_rfl) (fun g => by kernel_rfl) rfl (fun g => by kernel_rfl) (fun g w => by kernel_rfl)) 
    (goes_cons (goesK_cell hst (ahead_none (by decide)) rfl (by decide) (by decide) (by kernel_rfl) (fun g => by kernel_rfl) rfl (fun g => by kernel_rfl) rfl (fun g => by kernel_rfl) (fun W hW => (lt W hW).cell 0) (fun w => by kernel_rfl)) 
    (goes_cons (goesK_pure (fun _ => .pointer (some ⟨w3.heap.size, 1, none⟩)) rfl (by decide) (by decide) (by kernel_rfl) (fun g => by kernel_rfl) rfl (fun g => by kernel_rfl) (fun g w => by kernel_rfl)) 
    (goes_cons (goesK_cell hst (ahead_none (by decide)) rfl (by decide) (by decide) (by kernel_rfl) (fun g => by kernel_rfl) rfl (fun g => by kernel_rfl) rfl (fun g => by kernel_rfl) (fun W hW => (lt W hW).cell 1) (fun w => by kernel_rfl)) 
    (goes_cons (goesK_pure (fun _ => .agg #[.int .i64 u, .int .i64 v]) rfl (by decide) (by decide) (by kernel_rfl) (fun g => by kernel_rfl) rfl (fun g => by kernel_rfl) (fun g w => by kernel_rfl)) 
    (goes_cons (goesK_bin (v := .bool true) (xv := .agg #[.int .i64 u, .int .i64 v]) (yv := .agg #[.int .i64 u, .int .i64 v]) rfl (by decide) (by decide) (by kernel_rfl) (fun g => by kernel_rfl) rfl (fun g => by kernel_rfl) rfl (fun g => by kernel_rfl) (fun g => by kernel_rfl) (fun w => by go_simp)) 
    (goes_cons (goesK_pure (fun _ => .bool true) rfl (by decide) (by decide) (by kernel_rfl) (fun g => by kernel_rfl) rfl (fun g => by kernel_rfl) (fun g w => by kernel_rfl)) 
    (goes_cons (goesK_pure (fun _ => .bool true) rfl (by decide) (by decide) (by kernel_rfl) (fun g => by kernel_rfl) rfl (fun g => by kernel_rfl) (fun g w => by kernel_rfl)) 
    (goes_cons (goesK_pure (fun _ => .bool b) rfl (by decide) (by decide) (by kernel_rfl) (fun g => by kernel_rfl) rfl (fun g => by kernel_rfl) (fun g w => by kernel_rfl)) 
    (goes_cons (goesK_pure (fun _ => .bool b) rfl (by decide) (by decide) (by kernel_rfl) (fun g => by kernel_rfl) rfl (fun g => by kernel_rfl) (fun g w => by kernel_rfl)) 
    (goes_cons (goesK_bin (v := .bool true) (xv := .bool b) (yv := .bool b) rfl (by decide) (by decide) (by kernel_rfl) (fun g => by kernel_rfl) rfl (fun g => by kernel_rfl) rfl (fun g => by kernel_rfl) (fun g => by kernel_rfl) (fun w => by cases b <;> go_simp)) 
    (goes_cons (goesK_pure (fun _ => .bool true) rfl (by decide) (by decide) (by kernel_rfl) (fun g => by kernel_rfl) rfl (fun g => by kernel_rfl) (fun g w => by kernel_rfl)) 
    (goes_cons (goesK_pure (fun _ => .bool true) rfl (by decide) (by decide) (by kernel_rfl) (fun g => by kernel_rfl) rfl (fun g => by kernel_rfl) (fun g w => by kernel_rfl)) 
    (goes_cons (goesK_load hst (ahead_none (by decide)) rfl (by decide) (by decide) (by kernel_rfl) (fun g => by kernel_rfl) rfl (fun g => by kernel_rfl) rfl (fun g => by kernel_rfl) lk Try.underlying25 rfl (by kernel_rfl)) 
    (goes_cons (goesK_call (args := fun g => #[.agg #[.int .i64 btn, .int .i64 typ, .int .i64 x, .int .i64 y, .int .i64 md]]) hst (ahead_none (by decide)) rfl (by decide) (by decide) (by kernel_rfl) (fun g => by kernel_rfl) rfl (fun g => by kernel_rfl) (fun g w => by kernel_rfl) (fun g W hW hin => HM.out W (HV.out W hW))) 
    (goes_cons (goesK_load hst (ahead_none (by decide)) rfl (by decide) (by decide) (by kernel_rfl) (fun g => by kernel_rfl) rfl (fun g => by kernel_rfl) rfl (fun g => by kernel_rfl) lk Try.underlying25 rfl (by kernel_rfl)) 
    (goes_cons (goesK_call (args := fun g => #[.agg #[.int .i64 btn, .int .i64 typ, .int .i64 x, .int .i64 y, .int .i64 md]]) hst (ahead_none (by decide)) rfl (by decide) (by decide) (by kernel_rfl) (fun g => by kernel_rfl) rfl (fun g => by kernel_rfl) (fun g w => by kernel_rfl) (fun g W hW hin => HN.out W)) 
    (goes_cons (goesK_bin (v := .bool true) (xv := .bool q) (yv := .bool q) rfl (by decide) (by decide) (by kernel_rfl) (fun g => by kernel_rfl) rfl (fun g => by kernel_rfl) rfl (fun g => by kernel_rfl) (fun g => by kernel_rfl) (fun w => by cases q <;> go_simp)) 
    (goes_cons (goesK_pure (fun _ => .bool true) rfl (by decide) (by decide) (by kernel_rfl) (fun g => by kernel_rfl) rfl (fun g => by kernel_rfl) (fun g w => by kernel_rfl)) 
    (goes_cons (goesK_pure (fun _ => .bool true) rfl (by decide) (by decide) (by kernel_rfl) (fun g => by kernel_rfl) rfl (fun g => by kernel_rfl) (fun g w => by kernel_rfl)) goes_nil))))))))))))))))))))))) ?_
  intro g4 w5 hW _
  have hB6 := hB5.trans (hW.mono hB5.size)
  clear b0 b1 b2 b3 b4 c0 c1 d0 d1 ls lt lk hst HV
  go_wp2_with fail
  go_ret
  exact ⟨rfl, hB6⟩
end Go.Proofs.Ytbdpjhlfaelgpaa
