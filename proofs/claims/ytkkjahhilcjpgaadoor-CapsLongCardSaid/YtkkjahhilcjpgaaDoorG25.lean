/-
  Stage 20, walked: strings.SplitSeq at a semicolon, for every loop that ranges over it.
-/
import Derived.Test.YtkkjahhilcjpgaaDoorG18
import Derived.Test.YtkkjahhilcjpgaaDoorG24
import Derived.Test.YtkkjahhilcjpgaaDoorShelf
import Derived.Shelf.Abstract
import Derived.Shelf.RegionOpen
import Derived.WalkKit
import Derived.OwnWalkIn
import Derived.TacticsInMore
import Derived.LoopNIn
import Derived.LoopIn
import Derived.Maps.AppendAt
namespace Go.Proofs.YtkkjahhilcjpgaaDoor
open Go.RowKit Go.Shelf
section
attribute [local go_sem] Oper.semAt_some
theorem idx_split : ∀ t : List UInt8, (Lib.indexByte t 59 = -1 ∧ splitC t = [t]) ∨ ∃ k : Nat, Lib.indexByte t 59 = (k : Int) ∧ k < t.length ∧ splitC t = t.take k :: splitC (t.drop (k + 1))
 | [] => .inl ⟨rfl, rfl⟩
 | c :: l => by
   by_cases hc : c = 59
   ·subst hc
    exact .inr ⟨0, by simp [Lib.indexByte], by simp, by simp [splitC]⟩
   ·rcases idx_split l with ⟨h1, h2⟩ | ⟨k, h1, h2, h3⟩
    ·exact .inl ⟨by simp [Lib.indexByte, hc, h1], by simp [splitC, hc, h2]⟩
    ·refine .inr ⟨k + 1, ?_, by simp; omega, by simp [splitC, hc, h3]⟩
     have hne : ¬ ((k : Int) = -1) := by omega
     simp [Lib.indexByte, hc, h1, hne]
theorem split_len : ∀ {t p : List UInt8}, p ∈ splitC t → p.length ≤ t.length
 | [], p, h => by
   obtain rfl : p = [] := by simpa [splitC] using h
   simp
 | c :: l, p, h => by
   by_cases hc : c = 59
   ·subst hc
    rcases (by simpa [splitC] using h : p = [] ∨ p ∈ splitC l) with rfl | h
    ·simp
    ·have := split_len h
     simp
     omega
   ·cases hs : splitC l with
    | nil =>
      obtain rfl : p = [c] := by simpa [splitC, hc, hs] using h
      simp
    | cons q qs =>
      have hq := split_len (t := l) (p := q) (by rw [hs]; simp)
      rcases (by simpa [splitC, hc, hs] using h : p = c :: q ∨ p ∈ qs) with rfl | h
      ·simpa using hq
      ·have := split_len (t := l) (p := p) (by rw [hs]; simp [h])
       simp
       omega
structure SpT (t : List UInt8) where
 v : List UInt8
 h : v ∈ splitC t
def spE {t : List UInt8} (x : SpT t) : Array Value := #[.string ⟨x.v.toArray⟩]
def KpB (B m : Nat) (A C : World) : Prop := ∀ k, B ≤ k → k < B + m → C.heap[k]? = A.heap[k]?
theorem kpb_t {B m : Nat} {A C D : World} (h : KpB B m A C) (k : KpB B m C D) : KpB B m A D := fun i h1 h2 => (k i h1 h2).trans (h i h1 h2)
theorem kpb_put {B m : Nat} (W : World) {l : Nat} (hl : B + m ≤ l) (o : Obj) : KpB B m W (W.putObj l o) := fun k _ h2 => World.putObj_heap_other (by omega)
theorem str_take (L : List UInt8) (k : Nat) : (⟨L.toArray⟩ : ByteArray).extract 0 k = ⟨(L.take k).toArray⟩ := by
 apply ByteArray.ext
 rw [ByteArray.data_extract]
 simp
theorem str_drop (L : List UInt8) (k : Nat) (_h : k ≤ L.length) : (⟨L.toArray⟩ : ByteArray).extract k L.length = ⟨(L.drop k).toArray⟩ := by
 apply ByteArray.ext
 rw [ByteArray.data_extract]
 simp
 rw [List.take_of_length_le (by rw [List.length_drop]; omega)]
theorem psplit_any (s : List UInt8) (w : World) : Calls Tryd.prog 36 #[.string ⟨s.toArray⟩, .string ⟨#[59]⟩] w fun e w' => e = .returned (.func (.func 53) #[] #[.pointer (some ⟨w.heap.size + 1, 0, none⟩), .pointer (some ⟨w.heap.size, 0, none⟩), .pointer (some ⟨w.heap.size + 2, 0, none⟩)]) ∧ Blk w' w.heap.size 9 #[.string ⟨s.toArray⟩] ∧ Blk w' (w.heap.size + 1) 9 #[.string ⟨#[59]⟩] ∧ Blk w' (w.heap.size + 2) 3 #[.int .i64 0] ∧ w'.heap.size = w.heap.size + 3 ∧ Below w.heap.size w w' := by
 have k0 := ((Blk.new w 9 #[.string ⟨s.toArray⟩]).alloc (.cells #[.string ⟨#[59]⟩] 9)).alloc (.cells #[.int .i64 0] 3)
 have k1 := (Blk.new (w.alloc (.cells #[.string ⟨s.toArray⟩] 9)) 9 #[.string ⟨#[59]⟩]).alloc (.cells #[.int .i64 0] 3)
 have k2 := Blk.new ((w.alloc (.cells #[.string ⟨s.toArray⟩] 9)).alloc (.cells #[.string ⟨#[59]⟩] 9)) 3 #[.int .i64 0]
 simp only [World.size_alloc] at k1 k2
 have hB := (((Below.refl w.heap.size w).alloc (Nat.le_refl _) (.cells #[.string ⟨s.toArray⟩] 9)).alloc (by simp) (.cells #[.string ⟨#[59]⟩] 9)).alloc (by simp; omega) (.cells #[.int .i64 0] 3)
 have hmf : ∀ (fn : Fn) (first cap : Array Value) (w : World), (Instr.makeFunc fn first cap).run Tryd.prog w = .ok (.func fn first cap) w := fun _ _ _ _ => rfl
 have H : Calls Tryd.prog 47 #[.string ⟨s.toArray⟩, .string ⟨#[59]⟩, .int .i64 0] w fun e w' => e = .returned (.func (.func 53) #[] #[.pointer (some ⟨w.heap.size + 1, 0, none⟩), .pointer (some ⟨w.heap.size, 0, none⟩), .pointer (some ⟨w.heap.size + 1 + 1, 0, none⟩)]) ∧ w' = ((w.alloc (.cells #[.string ⟨s.toArray⟩] 9)).alloc (.cells #[.string ⟨#[59]⟩] 9)).alloc (.cells #[.int .i64 0] 3) := by
  go_enter Tryd.func47, Tryd.ntmps47
  go_wp2_with fail
  go_ret
  exact ⟨rfl, rfl⟩
 go_enter Tryd.func36, Tryd.ntmps36
 go_wp2_with fail
 refine H.mono ?_
 rintro e w' ⟨rfl, rfl⟩
 go_wp2_with fail
 go_ret
 exact ⟨rfl, k0, k1, k2, by simp, hB⟩
set_option maxRecDepth 100000 in
set_option maxHeartbeats 4000000 in
theorem sps1_in (n : Nat) (hn : 1 ≤ n) (l B : Nat) (t : List UInt8) (ht : t.length ≤ 4294967296) (J Jx : List (SpT t) → World → Prop) (hJ : AbX (fun r => r = B) J)
 (hY : ∀ pre (x : SpT t) W, J pre W → pre.length < (splitC t).length → YieldAt Fence.wide (n - 1) Tryd.prog l (spE x) W fun e W' =>
   (e = .returned (.bool true) ∧ J (pre ++ [x]) W' ∧ KpB B 3 W W') ∨ (e = .returned (.bool false) ∧ Jx (pre ++ [x]) W' ∧ KpB B 3 W W'))
 (W : World) (hs : Blk W B 9 #[.string ⟨t.toArray⟩]) (hp : Blk W (B + 1) 9 #[.string ⟨#[59]⟩]) (hz : Blk W (B + 2) 3 #[.int .i64 0]) (h0 : J [] W) :
 CallsIn Fence.wide n Tryd.prog 53 #[.func (.yield l) #[] #[], .pointer (some ⟨B + 1, 0, none⟩), .pointer (some ⟨B, 0, none⟩), .pointer (some ⟨B + 2, 0, none⟩)] W fun e W' => (∃ v, e = .returned v) ∧
  ((∃ ys : List (SpT t), ys.map SpT.v = splitC t ∧ J ys W') ∨ (∃ pre : List (SpT t), pre.map SpT.v <+: splitC t ∧ Jx pre W')) := by
 refine callsIn_of_wp Tryd.func53 rfl trivial ?_ rfl
 simp only [Tryd.ntmps53, List.size_toArray, List.length_cons, List.length_nil, Nat.reduceAdd, Nat.reduceSub, Array.replicate_succ, Array.replicate_zero, List.push_toArray, List.append_toArray, List.nil_append, List.cons_append]
 have c1 := hp.cell 0
 gi_wp2
 gi_loopw [7] (fun _ wr => ∃ (m : Nat) (pre : List (SpT t)), m ≤ t.length ∧ pre.map SpT.v ++ splitC (t.drop m) = splitC t ∧ J pre wr ∧ Blk wr B 9 #[.string ⟨(t.drop m).toArray⟩] ∧ Blk wr (B + 1) 9 #[.string ⟨#[59]⟩] ∧ Blk wr (B + 2) 3 #[.int .i64 0]) (fun _ wr => match wr.cell? ⟨B, 0, none⟩ with | some (.string s) => s.size | _ => 0)
 case atStart => exact ⟨0, [], Nat.zero_le _, rfl, h0, hs, hp, hz⟩
 case round =>
  obtain ⟨m, pre, hm, hpre, hJs, hsm, hpm, hzm⟩ := hrel
  clear hs hp hz c1
  have HP := Lib.hid hpre
  clear hpre
  obtain ⟨L, hL⟩ : ∃ L, t.drop m = L := ⟨_, rfl⟩
  have hLl : L.length = t.length - m := by rw [← hL, List.length_drop]
  rw [hL] at hsm
  have HL := Lib.hid hL
  have HLL := Lib.hid hLl
  clear hL hLl
  have cs := hsm.cell 0
  have cp := hpm.cell 0
  have cz := hzm.cell 0
  have fs := hsm.frozen 0
  have hlt2 : pre.length < (splitC t).length := by
   have h1 : (splitC (t.drop m)).length ≠ 0 := by
    rcases idx_split (t.drop m) with ⟨_, h⟩ | ⟨k, _, _, h⟩ <;> rw [h] <;> simp
   rw [← HP.out, List.length_append, List.length_map]
   omega
  rcases idx_split L with ⟨h1, h2⟩ | ⟨k, h1, h2, h3⟩
  ·have HE := Lib.hid h2
   have HI := Lib.hid h1
   have hmem : L ∈ splitC t := by rw [← HP.out, HL.out, HE.out]; simp
   have PE := Lib.hid (show (pre ++ [(⟨L, hmem⟩ : SpT t)]).map SpT.v = splitC t by rw [← HP.out, HL.out, HE.out, List.map_append]; rfl)
   clear h1 h2
   gi_wp2_with fail
   refine ⟨trivial, ?_⟩
   gi_at_call 55
   refine (callsIn_wide.2 (Tryd.strings_Index_one ⟨L.toArray⟩ 59 _)).mono ?_
   rintro e w2 ⟨rfl, rfl⟩
   simp only [show Lib.indexByte (⟨L.toArray⟩ : ByteArray).data.toList 59 = -1 from HI.out]
   obtain ⟨fn, tmps, assign, body, hy, hR⟩ := hY pre ⟨L, hmem⟩ w2 hJs hlt2
   dsimp only [spE] at hy
   gi_wp2
   refine hR.mono ?_
   rintro e W3 (⟨rfl, hJ3, _⟩ | ⟨rfl, hJx3, _⟩)
   ·gi_wp2
    go_end0
    exact ⟨⟨_, rfl⟩, .inl ⟨_, PE.out, hJ3⟩⟩
   ·gi_wp2
    go_end0
    exact ⟨⟨_, rfl⟩, .inr ⟨_, by rw [PE.out]; exact List.prefix_rfl, hJx3⟩⟩
  ·have HE := Lib.hid h3
   have HI := Lib.hid h1
   have hmem : L.take k ∈ splitC t := by rw [← HP.out, HL.out, HE.out]; simp
   have hdr : t.drop (m + (k + 1)) = L.drop (k + 1) := by rw [← HL.out, List.drop_drop]
   have PE := Lib.hid (show (pre ++ [(⟨L.take k, hmem⟩ : SpT t)]).map SpT.v ++ splitC (t.drop (m + (k + 1))) = splitC t by
    rw [hdr, ← HP.out, HL.out, HE.out, List.map_append, List.append_assoc]
    rfl)
   have HD := Lib.hid hdr
   clear h1 h3 hdr
   have t0 : ((k : Int) < 0) = False := by simp
   have t1 : (0 : Int) ≤ (k : Int) := by omega
   have t2 : (k : Int) ≤ (L.length : Int) := by omega
   have hLt := HLL.out
   have t3 : IntKind.i64.wrap (k : Int) = (k : Int) := by rw [IntKind.wrap_i64]; omega
   have t4 : IntKind.i64.wrap ((k : Int) + 1) = ((k + 1 : Nat) : Int) := by rw [IntKind.wrap_i64]; omega
   have t5 : (0 : Int) ≤ ((k + 1 : Nat) : Int) := by omega
   have t6 : ((k + 1 : Nat) : Int) ≤ (L.length : Int) := by omega
   clear hLt
   have e1 := str_take L k
   have e2 := str_drop L (k + 1) (by omega)
   gi_wp2_with fail
   refine ⟨trivial, ?_⟩
   gi_at_call 55
   refine (callsIn_wide.2 (Tryd.strings_Index_one ⟨L.toArray⟩ 59 _)).mono ?_
   rintro e w2 ⟨rfl, rfl⟩
   simp only [show Lib.indexByte (⟨L.toArray⟩ : ByteArray).data.toList 59 = (k : Int) from HI.out]
   obtain ⟨fn, tmps, assign, body, hy, hR⟩ := hY pre ⟨L.take k, hmem⟩ w2 hJs hlt2
   dsimp only [spE] at hy
   gi_wp2
   refine hR.mono ?_
   rintro e W3 (⟨rfl, hJ3, hk3⟩ | ⟨rfl, hJx3, _⟩)
   ·have hs3 : Blk W3 B 9 #[.string ⟨L.toArray⟩] := (hk3 B (by omega) (by omega)).trans hsm
    have hp3 : Blk W3 (B + 1) 9 #[.string ⟨#[59]⟩] := (hk3 (B + 1) (by omega) (by omega)).trans hpm
    have hz3 : Blk W3 (B + 2) 3 #[.int .i64 0] := (hk3 (B + 2) (by omega) (by omega)).trans hzm
    clear cs cp cz fs
    have cs := hs3.cell 0
    have cp := hp3.cell 0
    have fs := hs3.frozen 0
    gi_wp2
    go_roundw
    case rel =>
     refine ⟨m + (k + 1), _, by have := HLL.out; omega, PE.out, hJ _ _ _ (some B) hJ3 (grown_setCell B 0 _ W3) (fun r e => by cases e; rfl), ?_, hp3.far (a := ⟨B, 0, none⟩) (show B + 1 ≠ B by omega) _, hz3.far (a := ⟨B, 0, none⟩) (show B + 2 ≠ B by omega) _⟩
     rw [HD.out]
     exact hs3.set 0 _
    case measure =>
     rw [show (W3.setCell ⟨B, 0, none⟩ (.string ⟨(L.drop (k + 1)).toArray⟩)).cell? ⟨B, 0, none⟩ = some (.string ⟨(L.drop (k + 1)).toArray⟩) from (hs3.set 0 _).cell 0, show w2.cell? ⟨B, 0, none⟩ = some (.string ⟨L.toArray⟩) from hsm.cell 0]
     show (L.drop (k + 1)).length < L.length
     rw [List.length_drop]
     omega
   ·gi_wp2
    refine bodyPost_ret (results_none rfl _ _ _) rfl ?_
    exact ⟨⟨_, rfl⟩, .inr ⟨_, ⟨_, PE.out⟩, hJx3⟩⟩
theorem sps_seq (n : Nat) (hn : 1 ≤ n) (B : Nat) (t : List UInt8) (ht : t.length ≤ 4294967296) (w : World) (hs : Blk w B 9 #[.string ⟨t.toArray⟩]) (hp : Blk w (B + 1) 9 #[.string ⟨#[59]⟩]) (hz : Blk w (B + 2) 3 #[.int .i64 0]) :
 SeqX Fence.wide n Tryd.prog 53 #[.pointer (some ⟨B + 1, 0, none⟩), .pointer (some ⟨B, 0, none⟩), .pointer (some ⟨B + 2, 0, none⟩)] (fun x : SpT t => spE x) (KpB B 3) (fun _ r => r = B) (fun ys => ys.map SpT.v = splitC t) (fun pre => pre.map SpT.v <+: splitC t) (splitC t).length w := fun l J Jx W hW _ hJ _ hY h0 =>
 sps1_in n hn l B t ht J Jx hJ hY W (hs.below hW hs.lt) (hp.below hW hp.lt) (hz.below hW hz.lt) h0
end
end Go.Proofs.YtkkjahhilcjpgaaDoor
