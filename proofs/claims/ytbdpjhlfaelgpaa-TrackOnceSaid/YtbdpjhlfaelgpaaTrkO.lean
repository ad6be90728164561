/-
  Layer 15, the laws' walks over the bundle: TrackOnce.
-/
import Derived.Test.YtbdpjhlfaelgpaaTrkQ
import Derived.Test.YtbdpjhlfaelgpaaRegU
import Derived.Test.YtbdpjhlfaelgpaaMid
namespace Go.Proofs.Ytbdpjhlfaelgpaa
open Go.RowKit

variable {Inv : World → Prop}
/-- A slice of a mouse's events. -/
def RdMs (W : World) (A : Option Addr) (l : List Ms) : Prop := 0 < l.length → ∃ b o, A = some ⟨b, o, none⟩ ∧ b < W.heap.size ∧ ∀ k (hk : k < l.length), W.rangeAt b (o + k * 5) (msC l[k]).toList
theorem RdMs.below {w w' : World} {A : Option Addr} {l : List Ms} (h : RdMs w A l) (hb : Below w.heap.size w w') : RdMs w' A l := fun hp => by
  obtain ⟨b, o, rfl, hlt, hc⟩ := h hp
  exact ⟨b, o, rfl, Nat.lt_of_lt_of_le hlt hb.size, fun k hk j v hv => (hb.cell (p := ⟨b, o + k * 5 + j, none⟩) hlt).trans (hc k hk j v hv)⟩
theorem idx_at {ev : Operand → Value} {o : Oper} {x y : Operand} {t : TypeId} {b q n c r m : Nat} {k : IntKind} (ho : o.op = .indexAddr t x y) (hx : ev x = .slice (some ⟨b, q, none⟩) n c) (hy : ev y = .int k (r : Int)) (hr : r < n) (ht : Try.prog.underlying t = some (.slice (Try.prog.elem t))) (hs : ∀ w, (sizeOf (Try.prog.elem t)).run Try.prog w = .ok m w) (w : World) : (execOp ev o).run Try.prog w = .ok (.value (.pointer (some ⟨b, q + r * m, none⟩))) w := by
  unfold execOp
  have e : (⟨b, q, none⟩ : Addr).add (r * m) = ⟨b, q + r * m, none⟩ := by unfold Addr.add; split <;> simp_all
  simp only [ho, hx, hy, Sem.run_bind, run_indexAt_slice w t _ n c k (r : Int) ht, if_pos (show (0 : Int) ≤ (r : Int) ∧ (r : Int) < (n : Int) by omega), hs, Result.andThen_ok, Int.toNat_natCast, e, Sem.run_pure]
/-- What telling one event says of the cell that was told last. -/
theorem once_tell {mode : Int} {s : Ce} {e : Ms} {u v : Int} {b : Bool} (h : tellT mode s e = (⟨u, v⟩, b)) : (b = true → u = e.x ∧ v = e.y ∧ (e.typ = 4 → ¬ (e.x = s.x ∧ e.y = s.y))) ∧ (b = false → u = s.x ∧ v = s.y) := by
  cases hi : isT mode s e with
  | true =>
    rw [tell_yes hi] at h
    obtain ⟨h1, rfl⟩ := Prod.mk.inj h
    injection h1 with h1 h2
    refine ⟨fun _ => ⟨h1.symm, h2.symm, fun h4 hh => ?_⟩, fun h => by cases h⟩
    exact is_cell hi h4 (by cases s; simp only at hh; rw [hh.1, hh.2])
  | false =>
    rw [tell_no hi] at h
    obtain ⟨h1, rfl⟩ := Prod.mk.inj h
    rw [h1]
    exact ⟨(fun h => by cases h), fun _ => ⟨rfl, rfl⟩⟩
set_option maxRecDepth 100000 in
set_option maxHeartbeats 32000000 in
theorem trackOnce_walk (H : TrkC Inv) (wh : Int) (h0 : 0 ≤ wh) (_h1 : wh ≤ 255) (A : Option Addr) (l : List Ms) (c : Nat) (_hlc : l.length ≤ maxLen) (w : World) (hr : RdMs w A l) (hv : Inv w) : Calls Try.prog 5 #[.int .u8 wh, .slice A l.length c] w fun x w' => x = .returned (.bool true) ∧ Below w.heap.size w w' := by
  obtain ⟨n, hn⟩ : ∃ n, l.length = n := ⟨_, rfl⟩
  have HN := Lib.hid hn
  rw [hn]
  have hnm : (n : Int) ≤ 9223372036854775807 := by
    have : n ≤ maxLen := by rw [← hn]; exact _hlc
    simp only [maxLen] at this
    omega
  have hv0 := hv
  go_enter Try.func5, Try.ntmps5
  go_wp2_with fail
  refine (trkAwake H _ hv0).mono ?_
  rintro z w1 ⟨rfl, hB1⟩
  clear hv0 hn
  by_cases h40 : 40 < n
  · have t1 : decide (40 < (n : Int)) = true := decide_eq_true (by omega)
    go_wp2_with fail
    go_ret
    exact ⟨rfl, hB1⟩
  have t1 : decide (40 < (n : Int)) = false := decide_eq_false (by omega)
  obtain ⟨r, hrr⟩ : ∃ r : Nat, wh % 5 = (r : Int) := ⟨(wh % 5).toNat, by omega⟩
  have hr5 : r < 5 := by omega
  obtain ⟨mo, hmo, hmi⟩ : ∃ mo, (#[.int .i64 9, .int .i64 1000, .int .i64 1002, .int .i64 1003, .int .i64 0] : Array Value)[r]? = some (.int .i64 mo) ∧ inM mo := by
    match r, hr5 with
    | 0, _ => exact ⟨_, rfl, by decide, by decide⟩
    | 1, _ => exact ⟨_, rfl, by decide, by decide⟩
    | 2, _ => exact ⟨_, rfl, by decide, by decide⟩
    | 3, _ => exact ⟨_, rfl, by decide, by decide⟩
    | 4, _ => exact ⟨_, rfl, by decide, by decide⟩
  have HMI := Lib.hid hmi
  clear hmi
  have tm : Int.tmod wh 5 = (r : Int) := by rw [← hrr]; exact Int.tmod_eq_emod_of_nonneg h0
  have hw5 : IntKind.u8.wrap (r : Int) = (r : Int) := by rw [IntKind.wrap_u8]; omega
  clear h40 hrr h0
  have l0 := (Blk.new w1 3 #[.int .i64 9, .int .i64 1000, .int .i64 1002, .int .i64 1003, .int .i64 0]).alloc (.cells #[.int .i64 0, .int .i64 0] 27)
  have g0 := Blk.new (w1.alloc (.cells #[.int .i64 9, .int .i64 1000, .int .i64 1002, .int .i64 1003, .int .i64 0] 3)) 27 #[.int .i64 0, .int .i64 0]
  rw [World.size_alloc] at g0
  have hB2 := (hB1.alloc hB1.size (.cells #[.int .i64 9, .int .i64 1000, .int .i64 1002, .int .i64 1003, .int .i64 0] 3)).alloc (hB1.alloc hB1.size (.cells #[.int .i64 9, .int .i64 1000, .int .i64 1002, .int .i64 1003, .int .i64 0] 3)).size (.cells #[.int .i64 0, .int .i64 0] 27)
  have hs1 := hB1.size
  go_upto_region 6 with (fail)
  generalize hW2 : (w1.alloc (.cells #[.int .i64 9, .int .i64 1000, .int .i64 1002, .int .i64 1003, .int .i64 0] 3)).alloc (.cells #[.int .i64 0, .int .i64 0] 27) = w2 at *
  clear hW2
  go_wp2_with fail
  go_loopw [8] (fun i wr => ∃ (k : Nat) (su sv : Int), k ≤ n ∧ i = .int .i64 k ∧ Blk wr (w1.heap.size + 1) 27 #[.int .i64 su, .int .i64 sv] ∧ Blk wr w1.heap.size 3 #[.int .i64 9, .int .i64 1000, .int .i64 1002, .int .i64 1003, .int .i64 0] ∧ Below w.heap.size w wr) (fun i _ => n - (intOf i).toNat)
  case atStart => exact ⟨0, 0, 0, Nat.zero_le _, rfl, g0, l0, hB2⟩
  case round =>
    obtain ⟨k, su, sv, hk, rfl, gS, lS, hBr⟩ := hrel
    clear g0 l0 hB2
    have hvr := H.invB hv hBr
    by_cases hlt : k < n
    · have hkl : k < l.length := by rw [HN.out]; exact hlt
      obtain ⟨b, o, rfl, hbb, hc⟩ := (hr.below hBr) (by omega)
      have hck := hc k hkl
      obtain ⟨e, he⟩ : ∃ e, l[k]'hkl = e := ⟨_, rfl⟩
      rw [he] at hck
      clear he hc hkl
      obtain ⟨⟨⟨u, v⟩, bb⟩, hT⟩ : ∃ T, tellT mo ⟨su, sv⟩ e = T := ⟨_, rfl⟩
      have HT := H.tell_hid hT (hm := HMI.out)
      have HO := Lib.hid (once_tell hT)
      clear hT
      obtain ⟨btn, typ, x, y, md⟩ := e
      simp only at HT HO
      have hck : wr.rangeAt b (o + k * 5) (#[.int .i64 btn, .int .i64 typ, .int .i64 x, .int .i64 y, .int .i64 md] : Array Value).toList := hck
      have e1 : wr.cell? ⟨b, o + k * 5 + 1, none⟩ = some (.int .i64 typ) := hck 1 _ rfl
      have e2 : wr.cell? ⟨b, o + k * 5 + 2, none⟩ = some (.int .i64 x) := hck 2 _ rfl
      have e3 : wr.cell? ⟨b, o + k * 5 + 3, none⟩ = some (.int .i64 y) := hck 3 _ rfl
      have hrg : ∀ W, Below wr.heap.size wr W → W.rangeAt b (o + k * 5) (#[.int .i64 btn, .int .i64 typ, .int .i64 x, .int .i64 y, .int .i64 md] : Array Value).toList := fun W hW j u hu => (hW.cell (p := ⟨b, o + k * 5 + j, none⟩) hbb).trans (hck j u hu)
      have HV : Hid (∀ W, Below wr.heap.size wr W → Inv W) := Lib.hid fun W hW => H.invB hvr hW
      have cr : ∀ W, Below wr.heap.size wr W → W.cell? ⟨w1.heap.size, 0 + r * 1, none⟩ = some (.int .i64 mo) := fun W hW => by rw [Nat.zero_add, Nat.mul_one]; exact ((lS.below hW lS.lt).cell r).trans hmo
      have i0 : (0 : Int) ≤ (k : Int) := by omega
      have i1 : (k : Int) < (n : Int) := by omega
      have hst : ∀ f ∈ ([⟨14, 9, FNew wr 27 #[.int .i64 0, .int .i64 0]⟩] : List Fact), f.ok := List.forall_mem_cons.2 ⟨fnew_ok _ _ _ _ _, fun _ h => by cases h⟩
      go_wp2_with fail
      refine wp_region_last (w1 := wr) (K := [⟨14, 9, FNew wr 27 #[.int .i64 0, .int .i64 0]⟩]) (ix := 15) (iz := 15) (R0 := fun _ _ _ => True) (R1 := fun g _ w => Below wr.heap.size wr w ∧ FNew wr 27 #[.int .i64 u, .int .i64 v] (g 9) w) [9] (⟨#[.int .u8 wh, .slice (some ⟨b, o, none⟩) n c, undef, undef, u4, .bool true, .slice (some ⟨w1.heap.size, 0, none⟩) 5 5, .pointer (some ⟨w1.heap.size + 1, 0, none⟩), .int .i64 (k : Int), undef, .bool bb, u11, .bool true, .slice (some ⟨b, o, none⟩) n c, .int .i64 (n : Int), .bool false, undef, .slice (some ⟨w1.heap.size, 0, none⟩) 5 5, .agg #[.int .i64 0, .int .i64 0], .int .i64 (k : Int), .slice (some ⟨b, o, none⟩) n c, .int .i64 (n : Int), .bool true, u23, u24, .tuple #[.agg #[.int .i64 u, .int .i64 v], .bool bb], .slice (some ⟨w1.heap.size, 0, none⟩) 5 5, .int .u8 wh, .int .u8 (r : Int), .pointer (some ⟨w1.heap.size, 0 + r * 1, none⟩), .int .i64 mo, .agg #[.int .i64 su, .int .i64 sv], .slice (some ⟨b, o, none⟩) n c, .int .i64 (k : Int), .pointer (some ⟨b, o + k * 5, none⟩), .agg #[.int .i64 btn, .int .i64 typ, .int .i64 x, .int .i64 y, .int .i64 md], .tuple #[.agg #[.int .i64 u, .int .i64 v], .bool bb], .agg #[.int .i64 u, .int .i64 v], .bool bb, u39, u40, u41, u42, u43, u44, u45, u46, u47, u48, u49, u50, u51, u52, u53, u54, u55, u56, u57, u58, u59, u60, u61, u62, u63, u64, u65, u66, u67, u68, u69, u70, u71, u72, u73, u74, u75, u76, u77, u78, undef], []⟩) (fun g => ⟨#[.int .u8 wh, .slice (some ⟨b, o, none⟩) n c, undef, undef, u4, .bool true, .slice (some ⟨w1.heap.size, 0, none⟩) 5 5, .pointer (some ⟨w1.heap.size + 1, 0, none⟩), .int .i64 (k : Int), (g 9), .bool bb, u11, .bool true, .slice (some ⟨b, o, none⟩) n c, .int .i64 (n : Int), .bool false, undef, .slice (some ⟨w1.heap.size, 0, none⟩) 5 5, .agg #[.int .i64 0, .int .i64 0], .int .i64 (k : Int), .slice (some ⟨b, o, none⟩) n c, .int .i64 (n : Int), .bool true, u23, u24, .tuple #[.agg #[.int .i64 u, .int .i64 v], .bool bb], .slice (some ⟨w1.heap.size, 0, none⟩) 5 5, .int .u8 wh, .int .u8 (r : Int), .pointer (some ⟨w1.heap.size, 0 + r * 1, none⟩), .int .i64 mo, .agg #[.int .i64 su, .int .i64 sv], .slice (some ⟨b, o, none⟩) n c, .int .i64 (k : Int), .pointer (some ⟨b, o + k * 5, none⟩), .agg #[.int .i64 btn, .int .i64 typ, .int .i64 x, .int .i64 y, .int .i64 md], .tuple #[.agg #[.int .i64 u, .int .i64 v], .bool bb], .agg #[.int .i64 u, .int .i64 v], .bool bb, u39, u40, u41, u42, u43, u44, u45, u46, u47, u48, u49, u50, u51, u52, u53, u54, u55, u56, u57, u58, u59, u60, u61, u62, u63, u64, u65, u66, u67, u68, u69, u70, u71, u72, u73, u74, u75, u76, u77, u78, undef], []⟩) [.slice (some ⟨w1.heap.size, 0, none⟩) 5 5, .int .u8 wh, .int .u8 (r : Int), .pointer (some ⟨w1.heap.size, 0 + r * 1, none⟩), .int .i64 mo, .agg #[.int .i64 su, .int .i64 sv], .slice (some ⟨b, o, none⟩) n c, .int .i64 (k : Int), .pointer (some ⟨b, o + k * 5, none⟩), .agg #[.int .i64 btn, .int .i64 typ, .int .i64 x, .int .i64 y, .int .i64 md], .tuple #[.agg #[.int .i64 u, .int .i64 v], .bool bb], .tuple #[.agg #[.int .i64 u, .int .i64 v], .bool bb], .agg #[.int .i64 u, .int .i64 v], .bool bb, undef, undef, .bool bb] (by kernel_rfl) (by kernel_rfl) (by kernel_rfl) (fun g => by kernel_rfl) (by kernel_rfl) (Below.refl _ _).drew (by decide)
        (goes_cons (goesK_pure (fun g => .slice (some ⟨w1.heap.size, 0, none⟩) 5 5) rfl (by decide) (by decide) (by kernel_rfl) (fun g => by kernel_rfl) rfl (fun g => by kernel_rfl) (fun g w => by kernel_rfl)) 
        (goes_cons (goesK_pure (fun g => .int .u8 wh) rfl (by decide) (by decide) (by kernel_rfl) (fun g => by kernel_rfl) rfl (fun g => by kernel_rfl) (fun g w => by kernel_rfl)) 
        (goes_cons (goesK_pure (fun g => .int .u8 (r : Int)) rfl (by decide) (by decide) (by kernel_rfl) (fun g => by kernel_rfl) rfl (fun g => by kernel_rfl) (fun g w => by go_simp)) 
        (goes_cons (goesK_pure (fun g => .pointer (some ⟨w1.heap.size, 0 + r * 1, none⟩)) rfl (by decide) (by decide) (by kernel_rfl) (fun g => by kernel_rfl) rfl (fun g => by kernel_rfl) (fun g w => idx_at rfl rfl rfl hr5 Try.underlying34 (fun w => by kernel_rfl) w)) 
        (goes_cons (goesK_cell hst (ahead_path [12, 11, 10, 4] (by kernel_rfl) (by decide)) rfl (by decide) (by decide) (by kernel_rfl) (fun g => by kernel_rfl) rfl (fun g => by kernel_rfl) rfl (fun g => by kernel_rfl) cr (fun w => by kernel_rfl)) 
        (goes_cons (goesK_load hst (ahead_path [12, 11, 10, 5] (by kernel_rfl) (by decide)) rfl (by decide) (by decide) (by kernel_rfl) (fun g => by kernel_rfl) rfl (fun g => by kernel_rfl) rfl (fun g => by kernel_rfl) (fun W hW => gS.below hW gS.lt) Try.underlying27 rfl (by kernel_rfl)) 
        (goes_cons (goesK_pure (fun g => .slice (some ⟨b, o, none⟩) n c) rfl (by decide) (by decide) (by kernel_rfl) (fun g => by kernel_rfl) rfl (fun g => by kernel_rfl) (fun g w => by kernel_rfl)) 
        (goes_cons (goesK_pure (fun g => .int .i64 (k : Int)) rfl (by decide) (by decide) (by kernel_rfl) (fun g => by kernel_rfl) rfl (fun g => by kernel_rfl) (fun g w => by kernel_rfl)) 
        (goes_cons (goesK_pure (fun g => .pointer (some ⟨b, o + k * 5, none⟩)) rfl (by decide) (by decide) (by kernel_rfl) (fun g => by kernel_rfl) rfl (fun g => by kernel_rfl) (fun g w => idx_at rfl rfl rfl hlt Try.underlying36 (fun w => by kernel_rfl) w)) 
        (goes_cons (goesK_mid hst (ahead_path [12, 11, 10, 9] (by kernel_rfl) (by decide)) rfl (by decide) (by decide) (by kernel_rfl) (fun g => by kernel_rfl) rfl (fun g => by kernel_rfl) rfl (fun g => by kernel_rfl) hrg Try.underlying25 rfl (by kernel_rfl)) 
        (goes_cons (goesK_call (args := fun g => #[.int .i64 mo, .agg #[.int .i64 su, .int .i64 sv], .agg #[.int .i64 btn, .int .i64 typ, .int .i64 x, .int .i64 y, .int .i64 md]]) hst (ahead_path [12, 11, 10] (by kernel_rfl) (by decide)) rfl (by decide) (by decide) (by kernel_rfl) (fun g => by kernel_rfl) rfl (fun g => by kernel_rfl) (fun g w => by kernel_rfl) (fun g W hW hin => HT.out W (HV.out W hW))) 
        (goes_cons (goesK_pure (fun g => .tuple #[.agg #[.int .i64 u, .int .i64 v], .bool bb]) rfl (by decide) (by decide) (by kernel_rfl) (fun g => by kernel_rfl) rfl (fun g => by kernel_rfl) (fun g w => by kernel_rfl)) 
        (goes_cons (goesK_pure (fun g => .agg #[.int .i64 u, .int .i64 v]) rfl (by decide) (by decide) (by kernel_rfl) (fun g => by kernel_rfl) rfl (fun g => by kernel_rfl) (fun g w => by kernel_rfl)) 
        (goes_cons (goesK_pure (fun g => .bool bb) rfl (by decide) (by decide) (by kernel_rfl) (fun g => by kernel_rfl) rfl (fun g => by kernel_rfl) (fun g w => by kernel_rfl)) 
        (goes_cons (goesK_new hst (ahead_path [14] (by kernel_rfl) (by decide)) rfl (by decide) (by decide) 0 rfl (by kernel_rfl) (fun g => by kernel_rfl) rfl (fun g => by kernel_rfl) (fun g w => by kernel_rfl)) 
        (goes_cons (goesP_put rfl rfl rfl (List.forall_mem_cons.2 ⟨⟨show (14 : Nat) ≠ 15 by decide, [14], by kernel_rfl, show (14 : Nat) ∈ [14] by decide⟩, fun _ h => by cases h⟩) 0 rfl (fun g => by kernel_rfl) rfl rfl (fun g => by kernel_rfl) (fun g => by kernel_rfl) rfl (by kernel_rfl) (by kernel_rfl)) 
        (goes_cons (goesK_pure (fun g => .bool bb) rfl (by decide) (by decide) (by kernel_rfl) (fun g => by kernel_rfl) rfl (fun g => by kernel_rfl) (fun g w => by kernel_rfl)) goes_nil))))))))))))))))) ?_
      rintro g _ w4 _ _ ⟨hb4, b9, g9, s9, k9⟩
      rw [g9]
      clear g9 hst HV hvr tm hw5 HT cr
      have hB4 := hBr.trans (hb4.mono hBr.size)
      have gS4 := gS.below hb4 gS.lt
      have lS4 := lS.below hb4 lS.lt
      have gne : w1.heap.size + 1 ≠ b9 := fun e => by have := gS.lt; omega
      have lne : w1.heap.size ≠ b9 := fun e => by have := lS.lt; omega
      have hbb4 : b < w4.heap.size := Nat.lt_of_lt_of_le hbb hb4.size
      have hrg4 : ∀ W, Below w4.heap.size w4 W → W.rangeAt b (o + k * 5) (#[.int .i64 btn, .int .i64 typ, .int .i64 x, .int .i64 y, .int .i64 md] : Array Value).toList := fun W hW => hrg W (hb4.trans (hW.mono hb4.size))
      have hst : ∀ f ∈ ([⟨11, 11, FNew w4 27 #[.int .i64 0, .int .i64 0]⟩] : List Fact), f.ok := List.forall_mem_cons.2 ⟨fnew_ok _ _ _ _ _, fun _ h => by cases h⟩
      clear e1 e2 e3 gS lS hb4 hBr hck
      go_wp2_with fail
      refine wp_region_last (w1 := w4) (K := [⟨11, 11, FNew w4 27 #[.int .i64 0, .int .i64 0]⟩]) (ix := 12) (iz := 12) (R0 := fun _ _ _ => True) (R1 := fun g _ w => Below w4.heap.size w4 w ∧ FNew w4 27 #[.int .i64 x, .int .i64 y] (g 11) w) [11] (⟨#[.int .u8 wh, .slice (some ⟨b, o, none⟩) n c, undef, undef, u4, .bool true, .slice (some ⟨w1.heap.size, 0, none⟩) 5 5, .pointer (some ⟨w1.heap.size + 1, 0, none⟩), .int .i64 (k : Int), .pointer (some ⟨b9, 0, none⟩), .bool bb, undef, .bool true, .slice (some ⟨b, o, none⟩) n c, .int .i64 (n : Int), .bool false, undef, .slice (some ⟨w1.heap.size, 0, none⟩) 5 5, .agg #[.int .i64 0, .int .i64 0], .int .i64 (k : Int), .slice (some ⟨b, o, none⟩) n c, .int .i64 (n : Int), .bool true, u23, u24, .tuple #[.agg #[.int .i64 u, .int .i64 v], .bool bb], .slice (some ⟨w1.heap.size, 0, none⟩) 5 5, .int .u8 wh, .int .u8 (r : Int), .pointer (some ⟨w1.heap.size, r, none⟩), .int .i64 mo, .agg #[.int .i64 su, .int .i64 sv], .slice (some ⟨b, o, none⟩) n c, .int .i64 (k : Int), .pointer (some ⟨b, o + k * 5, none⟩), .agg #[.int .i64 btn, .int .i64 typ, .int .i64 x, .int .i64 y, .int .i64 md], .tuple #[.agg #[.int .i64 u, .int .i64 v], .bool bb], .agg #[.int .i64 u, .int .i64 v], .bool bb, .slice (some ⟨b, o, none⟩) n c, .int .i64 (k : Int), .pointer (some ⟨b, o + k * 5, none⟩), .pointer (some ⟨b, o + k * 5 + 2, none⟩), .int .i64 x, .slice (some ⟨b, o, none⟩) n c, .int .i64 (k : Int), .pointer (some ⟨b, o + k * 5, none⟩), .pointer (some ⟨b, o + k * 5 + 3, none⟩), .int .i64 y, .agg #[.int .i64 x, .int .i64 y], u50, u51, u52, u53, u54, u55, u56, u57, u58, u59, u60, u61, u62, u63, u64, u65, u66, u67, u68, u69, u70, u71, u72, u73, u74, u75, u76, u77, u78, undef], []⟩) (fun g => ⟨#[.int .u8 wh, .slice (some ⟨b, o, none⟩) n c, undef, undef, u4, .bool true, .slice (some ⟨w1.heap.size, 0, none⟩) 5 5, .pointer (some ⟨w1.heap.size + 1, 0, none⟩), .int .i64 (k : Int), .pointer (some ⟨b9, 0, none⟩), .bool bb, (g 11), .bool true, .slice (some ⟨b, o, none⟩) n c, .int .i64 (n : Int), .bool false, undef, .slice (some ⟨w1.heap.size, 0, none⟩) 5 5, .agg #[.int .i64 0, .int .i64 0], .int .i64 (k : Int), .slice (some ⟨b, o, none⟩) n c, .int .i64 (n : Int), .bool true, u23, u24, .tuple #[.agg #[.int .i64 u, .int .i64 v], .bool bb], .slice (some ⟨w1.heap.size, 0, none⟩) 5 5, .int .u8 wh, .int .u8 (r : Int), .pointer (some ⟨w1.heap.size, r, none⟩), .int .i64 mo, .agg #[.int .i64 su, .int .i64 sv], .slice (some ⟨b, o, none⟩) n c, .int .i64 (k : Int), .pointer (some ⟨b, o + k * 5, none⟩), .agg #[.int .i64 btn, .int .i64 typ, .int .i64 x, .int .i64 y, .int .i64 md], .tuple #[.agg #[.int .i64 u, .int .i64 v], .bool bb], .agg #[.int .i64 u, .int .i64 v], .bool bb, .slice (some ⟨b, o, none⟩) n c, .int .i64 (k : Int), .pointer (some ⟨b, o + k * 5, none⟩), .pointer (some ⟨b, o + k * 5 + 2, none⟩), .int .i64 x, .slice (some ⟨b, o, none⟩) n c, .int .i64 (k : Int), .pointer (some ⟨b, o + k * 5, none⟩), .pointer (some ⟨b, o + k * 5 + 3, none⟩), .int .i64 y, .agg #[.int .i64 x, .int .i64 y], u50, u51, u52, u53, u54, u55, u56, u57, u58, u59, u60, u61, u62, u63, u64, u65, u66, u67, u68, u69, u70, u71, u72, u73, u74, u75, u76, u77, u78, undef], []⟩) [.slice (some ⟨b, o, none⟩) n c, .int .i64 (k : Int), .pointer (some ⟨b, o + k * 5, none⟩), .pointer (some ⟨b, o + k * 5 + 2, none⟩), .int .i64 x, .slice (some ⟨b, o, none⟩) n c, .int .i64 (k : Int), .pointer (some ⟨b, o + k * 5, none⟩), .pointer (some ⟨b, o + k * 5 + 3, none⟩), .int .i64 y, .agg #[.int .i64 x, .int .i64 y], undef, undef] (by kernel_rfl) (by kernel_rfl) (by kernel_rfl) (fun g => by kernel_rfl) (by kernel_rfl) (Below.refl _ _).drew (by decide)
        (goes_cons (goesK_pure (fun g => .slice (some ⟨b, o, none⟩) n c) rfl (by decide) (by decide) (by kernel_rfl) (fun g => by kernel_rfl) rfl (fun g => by kernel_rfl) (fun g w => by kernel_rfl)) 
        (goes_cons (goesK_pure (fun g => .int .i64 (k : Int)) rfl (by decide) (by decide) (by kernel_rfl) (fun g => by kernel_rfl) rfl (fun g => by kernel_rfl) (fun g w => by kernel_rfl)) 
        (goes_cons (goesK_pure (fun g => .pointer (some ⟨b, o + k * 5, none⟩)) rfl (by decide) (by decide) (by kernel_rfl) (fun g => by kernel_rfl) rfl (fun g => by kernel_rfl) (fun g w => idx_at rfl rfl rfl hlt Try.underlying36 (fun w => by kernel_rfl) w)) 
        (goes_cons (goesK_pure (fun g => .pointer (some ⟨b, o + k * 5 + 2, none⟩)) rfl (by decide) (by decide) (by kernel_rfl) (fun g => by kernel_rfl) rfl (fun g => by kernel_rfl) (fun g w => by kernel_rfl)) 
        (goes_cons (goesK_cell hst (ahead_path [10, 4] (by kernel_rfl) (by decide)) rfl (by decide) (by decide) (by kernel_rfl) (fun g => by kernel_rfl) rfl (fun g => by kernel_rfl) rfl (fun g => by kernel_rfl) (fun W hW => hrg4 W hW 2 _ rfl) (fun w => by kernel_rfl)) 
        (goes_cons (goesK_pure (fun g => .slice (some ⟨b, o, none⟩) n c) rfl (by decide) (by decide) (by kernel_rfl) (fun g => by kernel_rfl) rfl (fun g => by kernel_rfl) (fun g w => by kernel_rfl)) 
        (goes_cons (goesK_pure (fun g => .int .i64 (k : Int)) rfl (by decide) (by decide) (by kernel_rfl) (fun g => by kernel_rfl) rfl (fun g => by kernel_rfl) (fun g w => by kernel_rfl)) 
        (goes_cons (goesK_pure (fun g => .pointer (some ⟨b, o + k * 5, none⟩)) rfl (by decide) (by decide) (by kernel_rfl) (fun g => by kernel_rfl) rfl (fun g => by kernel_rfl) (fun g w => idx_at rfl rfl rfl hlt Try.underlying36 (fun w => by kernel_rfl) w)) 
        (goes_cons (goesK_pure (fun g => .pointer (some ⟨b, o + k * 5 + 3, none⟩)) rfl (by decide) (by decide) (by kernel_rfl) (fun g => by kernel_rfl) rfl (fun g => by kernel_rfl) (fun g w => by kernel_rfl)) 
        (goes_cons (goesK_cell hst (ahead_path [10, 9] (by kernel_rfl) (by decide)) rfl (by decide) (by decide) (by kernel_rfl) (fun g => by kernel_rfl) rfl (fun g => by kernel_rfl) rfl (fun g => by kernel_rfl) (fun W hW => hrg4 W hW 3 _ rfl) (fun w => by kernel_rfl)) 
        (goes_cons (goesK_pure (fun g => .agg #[.int .i64 x, .int .i64 y]) rfl (by decide) (by decide) (by kernel_rfl) (fun g => by kernel_rfl) rfl (fun g => by kernel_rfl) (fun g w => by kernel_rfl)) 
        (goes_cons (goesK_new hst (ahead_path [11] (by kernel_rfl) (by decide)) rfl (by decide) (by decide) 0 rfl (by kernel_rfl) (fun g => by kernel_rfl) rfl (fun g => by kernel_rfl) (fun g w => by kernel_rfl)) 
        (goes_cons (goesP_put rfl rfl rfl (List.forall_mem_cons.2 ⟨⟨show (11 : Nat) ≠ 12 by decide, [11], by kernel_rfl, show (11 : Nat) ∈ [11] by decide⟩, fun _ h => by cases h⟩) 0 rfl (fun g => by kernel_rfl) rfl rfl (fun g => by kernel_rfl) (fun g => by kernel_rfl) rfl (by kernel_rfl) (by kernel_rfl)) goes_nil))))))))))))) ?_
      rintro g _ w5 _ _ ⟨hb5, b11, g11, s11, k11⟩
      rw [g11]
      clear g11 hst
      have hB5 := hB4.trans (hb5.mono hB4.size)
      replace gS4 := gS4.below hb5 gS4.lt
      replace lS4 := lS4.below hb5 lS4.lt
      replace k9 := k9.below hb5 k9.lt
      have e1 : w5.cell? ⟨b, o + k * 5 + 1, none⟩ = some (.int .i64 typ) := hrg4 w5 hb5 1 _ rfl
      clear hrg4 hrg hB4 hb5 s9 s11 hbb hbb4
      obtain ⟨c0, c1⟩ := And.intro (gS4.cell 0) (gS4.cell 1)
      obtain ⟨d0, d1⟩ := And.intro (k9.cell 0) (k9.cell 1)
      obtain ⟨f0, f1⟩ := And.intro (k11.cell 0) (k11.cell 1)
      obtain ⟨h1, h2⟩ := HO.out
      clear HO
      have kk : (((k + 1 : Nat) : Int)) = (k : Int) + 1 := by omega
      cases bb with
      | false =>
        obtain ⟨q1, q2⟩ := h2 rfl
        subst q1 q2
        clear h1 h2
        have gZ : Blk ((w5.setCell ⟨w1.heap.size + 1, 0, none⟩ (.int .i64 u)).setCell ⟨w1.heap.size + 1, 1, none⟩ (.int .i64 v)) (w1.heap.size + 1) 27 #[.int .i64 u, .int .i64 v] := (gS4.set 0 (.int .i64 u)).set 1 (.int .i64 v)
        have lZ := (lS4.far (a := ⟨w1.heap.size + 1, 0, none⟩) (by show w1.heap.size ≠ w1.heap.size + 1; omega) (.int .i64 u)).far (a := ⟨w1.heap.size + 1, 1, none⟩) (by show w1.heap.size ≠ w1.heap.size + 1; omega) (.int .i64 v)
        have hB6 := two_below hB5 (g := w1.heap.size + 1) (by omega) (.int .i64 u) (.int .i64 v)
        obtain ⟨⟨s0_, s1_⟩, ⟨s2_, s3_⟩, _, _⟩ := two_set gS4 (.int .i64 u) (.int .i64 v)
        go_wp2_with fail
        go_roundw
        case rel => exact ⟨k + 1, u, v, by omega, by go_num, gZ, lZ, hB6⟩
        case measure => simp [intOf]; omega
      | true =>
        obtain ⟨q1, q2, h4⟩ := h1 rfl
        subst q1 q2
        clear h1 h2
        by_cases t4 : typ = 4
        · have hne := h4 t4
          subst t4
          by_cases q1 : u = su
          · have q2 : v ≠ sv := fun h => hne ⟨q1, h⟩
            subst q1
            have b2 : (v == sv) = false := beq_false_of_ne q2
            have gZ : Blk ((w5.setCell ⟨w1.heap.size + 1, 0, none⟩ (.int .i64 u)).setCell ⟨w1.heap.size + 1, 1, none⟩ (.int .i64 v)) (w1.heap.size + 1) 27 #[.int .i64 u, .int .i64 v] := (gS4.set 0 (.int .i64 u)).set 1 (.int .i64 v)
            have lZ := (lS4.far (a := ⟨w1.heap.size + 1, 0, none⟩) (by show w1.heap.size ≠ w1.heap.size + 1; omega) (.int .i64 u)).far (a := ⟨w1.heap.size + 1, 1, none⟩) (by show w1.heap.size ≠ w1.heap.size + 1; omega) (.int .i64 v)
            have hB6 := two_below hB5 (g := w1.heap.size + 1) (by omega) (.int .i64 u) (.int .i64 v)
            obtain ⟨⟨s0_, s1_⟩, ⟨s2_, s3_⟩, _, _⟩ := two_set gS4 (.int .i64 u) (.int .i64 v)
            clear hne h4 q2
            go_wp2_with fail
            go_roundw
            case rel => exact ⟨k + 1, u, v, by omega, by go_num, gZ, lZ, hB6⟩
            case measure => simp [intOf]; omega
          · have b1 : (u == su) = false := beq_false_of_ne q1
            have gZ : Blk ((w5.setCell ⟨w1.heap.size + 1, 0, none⟩ (.int .i64 u)).setCell ⟨w1.heap.size + 1, 1, none⟩ (.int .i64 v)) (w1.heap.size + 1) 27 #[.int .i64 u, .int .i64 v] := (gS4.set 0 (.int .i64 u)).set 1 (.int .i64 v)
            have lZ := (lS4.far (a := ⟨w1.heap.size + 1, 0, none⟩) (by show w1.heap.size ≠ w1.heap.size + 1; omega) (.int .i64 u)).far (a := ⟨w1.heap.size + 1, 1, none⟩) (by show w1.heap.size ≠ w1.heap.size + 1; omega) (.int .i64 v)
            have hB6 := two_below hB5 (g := w1.heap.size + 1) (by omega) (.int .i64 u) (.int .i64 v)
            obtain ⟨⟨s0_, s1_⟩, ⟨s2_, s3_⟩, _, _⟩ := two_set gS4 (.int .i64 u) (.int .i64 v)
            clear hne h4 q1
            go_wp2_with fail
            go_roundw
            case rel => exact ⟨k + 1, u, v, by omega, by go_num, gZ, lZ, hB6⟩
            case measure => simp [intOf]; omega
        · have u4_ : (typ == 4) = false := beq_false_of_ne t4
          have gZ : Blk ((w5.setCell ⟨w1.heap.size + 1, 0, none⟩ (.int .i64 u)).setCell ⟨w1.heap.size + 1, 1, none⟩ (.int .i64 v)) (w1.heap.size + 1) 27 #[.int .i64 u, .int .i64 v] := (gS4.set 0 (.int .i64 u)).set 1 (.int .i64 v)
          have lZ := (lS4.far (a := ⟨w1.heap.size + 1, 0, none⟩) (by show w1.heap.size ≠ w1.heap.size + 1; omega) (.int .i64 u)).far (a := ⟨w1.heap.size + 1, 1, none⟩) (by show w1.heap.size ≠ w1.heap.size + 1; omega) (.int .i64 v)
          have hB6 := two_below hB5 (g := w1.heap.size + 1) (by omega) (.int .i64 u) (.int .i64 v)
          obtain ⟨⟨s0_, s1_⟩, ⟨s2_, s3_⟩, _, _⟩ := two_set gS4 (.int .i64 u) (.int .i64 v)
          clear h4 t4
          go_wp2_with fail
          go_roundw
          case rel => exact ⟨k + 1, u, v, by omega, by go_num, gZ, lZ, hB6⟩
          case measure => simp [intOf]; omega
    · go_wp2_with fail
      go_ret
      exact ⟨rfl, hBr⟩
end Go.Proofs.Ytbdpjhlfaelgpaa
