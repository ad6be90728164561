/-
  Stage 17, the landed paste, walked: bytes.CutPrefix, slices.Clone, Take, Looked.
-/
import Derived.Test.YtgaoijinchakoaaDoorG17
import Derived.Test.YtgaoijinchakoaaDoorG21
import Derived.Test.YtgaoijinchakoaaDoorG25
import Derived.Test.YtgaoijinchakoaaDoorG37
import Derived.Lib.SlBytesRowKit
namespace Go.Proofs.YtgaoijinchakoaaDoor
open Go.RowKit Go.Maps
theorem rd_from {w : World} {A : Option Addr} {l : List UInt8} {c : Nat} (k : Nat) (hr : Rd w A (bs l)) (hc : l.length ≤ c) : Rd w (if c = k then A else A.map (fun x => x.add k)) (bs (l.drop k)) := fun hp => by
 rw [bs_length, List.length_drop] at hp
 obtain ⟨b, o, rfl, hb, hx⟩ := hr (by rw [bs_length]; omega)
 rw [if_neg (by omega)]
 refine ⟨b, o + k, by rw [Option.map_some, addr_add_at], hb, fun i u hu => ?_⟩
 rw [Nat.add_assoc]
 apply hx
 simp only [bs, List.map_drop, List.getElem?_drop] at hu
 exact hu
theorem rd_upto {w : World} {A : Option Addr} {l : List UInt8} (k : Nat) (hr : Rd w A (bs l)) : Rd w A (bs (l.take k)) := fun hp => by
 rw [bs_length, List.length_take] at hp
 obtain ⟨b, o, rfl, hb, hx⟩ := hr (by rw [bs_length]; omega)
 refine ⟨b, o, rfl, hb, fun i u hu => ?_⟩
 apply hx
 rw [bs, List.map_take, List.getElem?_take] at hu
 split at hu
 ·exact hu
 ·cases hu
theorem bytes_id (k : List UInt8) : Lib.bytesOf (k.map fun x => (x.toNat : Int)) = k := by
 unfold Lib.bytesOf
 rw [List.map_map]
 calc k.map ((fun n : Int => UInt8.ofNat n.toNat) ∘ fun x : UInt8 => (x.toNat : Int)) = k.map id := List.map_congr_left (fun x _ => by simp)
  _ = k := List.map_id k
theorem pascut_any (A1 A2 : Option Addr) (n c m d : Nat) (l t : List UInt8) (q : Bool) (w : World) (hl : l.length = n) (ht : t.length = m) (hc : n ≤ c) (hq : begB l t = q) (h1 : Rd w A1 (bs l)) (h2 : Rd w A2 (bs t)) :
 Calls Tryd.prog 29 #[.slice A1 n c, .slice A2 m d] w fun e w' => e = .returned (.tuple #[if q = true then .slice (if c = m then A1 else A1.map (fun x => x.add m)) (n - m) (c - m) else .slice A1 n c, .bool q]) ∧ w' = w := by
 subst hl
 subst ht
 refine (Tryd.bytes_CutPrefix_all A1 A2 _ c _ d (l.map fun x => (x.toNat : Int)) (t.map fun x => (x.toNat : Int)) w (by simp) (by simp) hc (bytesIn_of h1) (bytesIn_of h2)).mono ?_
 rintro e w' ⟨rfl, rfl⟩
 refine ⟨?_, rfl⟩
 rw [Go.RowKit.trimPrefixV_eq (by simp) (bytesIn_of h1), bytes_id, bytes_id, show Lib.hasPrefix l t = q from hq, List.length_map]
 rfl
set_option maxRecDepth 100000 in
set_option maxHeartbeats 16000000 in
theorem pasclone_any (A : Option Addr) (n c : Nat) (l : List UInt8) (w : World) (hn : l.length = n) (hn2 : n ≤ 4294967296) (hr : Rd w A (bs l)) :
 Calls Tryd.prog 31 #[.slice A n c] w (OutP l n w) := by
 obtain ⟨i0, hi, hz0, hz1, hz2⟩ : ∃ i, Tryd.prog.info? 5 = some i ∧ i.zero = some (.int .u8 0) ∧ i.size = 1 ∧ i.bytes = 1 := ⟨_, rfl, rfl, rfl, rfl⟩
 have hq : ∀ (w : World) (a : Option Addr) (n c : Nat), (binOp .eql 24 (.slice a n c) (.slice none 0 0)).run Tryd.prog w = .ok (.bool a.isNone) w := fun w a n c => by
  simp only [binOp]
  simp [run_equal_slice_nil w _ _ a n c Tryd.underlying24]
 cases A with
 | none =>
   have h0 : n = 0 := by
    rcases Nat.eq_zero_or_pos n with h | h
    ·exact h
    ·obtain ⟨b, o, hA, _⟩ := hr (by rw [bs_length]; omega)
     cases hA
   subst h0
   have hx : l = [] := List.eq_nil_of_length_eq_zero hn
   subst hx
   clear hr hn
   go_enter Tryd.func31, Tryd.ntmps31
   go_wp2_with fail
   refine bodyPost_ret (v := .slice none 0 0) (by simp [results, Tryd.results31, go_sem]) rfl ?_
   exact ⟨none, 0, rfl, Own.nil_ _ _ _ _, Below.refl _ _⟩
 | some a =>
   have g1 : 0 + n ≤ maxLen := by simp only [maxLen]; omega
   have g2 : (0 + n) * 1 ≤ 140737488355328 := by omega
   have hB0 : Below w.heap.size w (w.alloc (.cells #[] 5)) := (Below.refl _ w).alloc (Nat.le_refl _) _
   have hown0 : Own (w.alloc (.cells #[] 5)) w.heap.size 5 1 (.slice (some ⟨w.heap.size, 0, none⟩) 0 0) 0 [] := Own.made w w.heap.size 5 0 [] rfl (Nat.le_refl _) (Nat.zero_le _)
   have hr1 := hr.below hB0
   have hs0 := hB0.size
   have HN := Lib.hid (show (bs l).length = n by rw [bs_length]; exact hn)
   have h1 : ∀ u ∈ bs l, u.oneCell' = true := bs_one l
   clear hr hn
   go_enter Tryd.func31, Tryd.ntmps31
   go_wp2_with (first
    | (at_builtin; refine list_app _ rfl (.tmp 5) (.tmp 6) 24 rfl w.heap.size 5 i0 _ 1 1 Tryd.underlying24 hi hz0 hz1 hz2 rfl Nat.one_pos (.slice (some ⟨w.heap.size, 0, none⟩) 0 0) 0 [] rfl hown0 (some a) n c (bs l) rfl (by rw [HN.out, Nat.mul_one]) hr1 h1 g1 g2 hs0 ?_; intro v1 w1 hown1 hg1
       have hB1 : Below w.heap.size w w1 := hB0.grown hg1 hs0 (fun g hg => (hown0.lt g hg).1)
       rw [Nat.zero_add, List.nil_append] at hown1
       obtain ⟨A2, c2, rfl, hf2⟩ := hown1.form))
   refine bodyPost_ret (v := .slice A2 n c2) (by simp [results, Tryd.results31, go_sem]) rfl ?_
   exact ⟨A2, c2, rfl, hown1, hB1⟩
theorem cut_op {ev : Operand → Value} {o : Oper} {t : TypeId} {x lo : Operand} {A A' : Option Addr} {n c n' c' : Nat} {lv : Value} {w : World} (ho : o.op = .slice t x (some lo) none none) (hx : ev x = .slice A n c) (hl : ev lo = lv) (ht : Tryd.prog.underlying t = some (.slice (Tryd.prog.elem t))) (hr : (Instr.slice t (.slice A n c) (some lv) none none).run Tryd.prog w = .ok (.slice A' n' c') w) : (execOp ev o).run Tryd.prog w = .ok (.value (.slice A' n' c')) w := by
 unfold execOp
 simp only [ho, hx, hl, Option.map_some, Option.map_none, Sem.run_bind, run_sliceAt_slice w t _ _ _ _ ht, hr, Result.andThen_ok, Sem.run_pure]
theorem edge_of {ops : Array Oper} {i : Nat} {o : Oper} (ho : ops[i]? = some o) (e : Edge) (k : Nat) (h : ((ops[i]?).bind fun o => o.after[k]?) = some e) : e ∈ o.after := by
 rw [ho] at h
 exact Array.mem_of_getElem? h
def TakP (l : List UInt8) (w : World) (e : Ending) (w' : World) : Prop := ∃ A c, e = .returned (.tuple #[.slice A (takeP l).1.length c, .int .i64 ((takeP l).2.1 : Nat), .bool (takeP l).2.2]) ∧ Own w' w.heap.size 5 1 (.slice A (takeP l).1.length c) (takeP l).1.length (bs (takeP l).1) ∧ Below w.heap.size w w'
theorem TakP.no {l : List UInt8} {w w' : World} (h : takeP l = ([], 0, false)) (hb : Below w.heap.size w w') : TakP l w (.returned (.tuple #[.slice none 0 0, .int .i64 0, .bool false])) w' := by
 unfold TakP
 rw [h]
 exact ⟨none, 0, rfl, Own.nil_ _ _ _ _, hb⟩
theorem TakP.yes {l L : List UInt8} {k m : Nat} {x : Int} {w w' : World} {A : Option Addr} {c : Nat} (h : takeP l = (L, k, true)) (hm : L.length = m) (hx : (k : Int) = x) (ho : Own w' w.heap.size 5 1 (.slice A m c) m (bs L)) (hb : Below w.heap.size w w') : TakP l w (.returned (.tuple #[.slice A m c, .int .i64 x, .bool true])) w' := by
 unfold TakP
 subst hm hx
 rw [h]
 exact ⟨A, c, rfl, ho, hb⟩
def takFr (A A1 A2 A4 Ao : Option Addr) (n c N1 C1 K1 N2 C2 N4 C4 co : Nat) (q2 : Bool) (b0 b1 b2 b3 b4 b5 b6 b7 b8 b9 b10 : Bool) (g : Value) : Act := ⟨#[.slice A n c, undef, .slice none 0 0, .int .i64 0, .bool false, cond b9 (.slice A4 N4 C4) (.slice A1 N1 C1), cond b10 (.bool q2) (.bool true), .slice A1 K1 C1, .tuple #[.slice A1 N1 C1, .bool true], .slice A n c, .slice Ao 6 co, .tuple #[.slice A1 N1 C1, .bool true], .slice A1 N1 C1, .bool true, .bool true, .bool false, .slice A1 N1 C1, .slice A1 N1 C1, .int .i64 (K1 : Nat), .slice A1 K1 C1, cond b6 (.tuple #[.slice A4 N4 C4, .bool q2]) undef, cond b0 (.slice A1 N1 C1) undef, cond b1 (.slice A1 K1 C1) undef, cond b2 (.int .i64 (K1 : Nat)) undef, cond b3 (.slice A2 N2 C2) undef, cond b4 (g) undef, cond b5 (.tuple #[.slice A4 N4 C4, .bool q2]) undef, cond b7 (.slice A4 N4 C4) undef, cond b8 (.bool q2) undef, undef, undef, undef, undef, undef, undef, undef, undef, undef], []⟩
set_option maxRecDepth 100000 in
set_option maxHeartbeats 16000000 in
theorem pastake_any (A : Option Addr) (n c : Nat) (l : List UInt8) (hn : l.length = n) (w : World) (hs : Siz w) (ht : Tab w) (hl : n ≤ 4000000) (hc : n ≤ c) (hr : Rd w A (bs l)) :
 Calls Tryd.prog 16 #[.slice A n c] w (TakP l w) := by
 have HM : Hid (∀ W, Below w.heap.size w W → Calls Tryd.prog 26 #[.int .i64 200] W (OutP openB 6 W)) := Lib.hid fun W hW => pasmark_any 200 openB 6 (by decide) (by decide) mark_open rfl W (ht.below hW)
 have HM2 : Hid (∀ W, Below w.heap.size w W → Calls Tryd.prog 26 #[.int .i64 201] W (OutP closeB 6 W)) := Lib.hid fun W hW => pasmark_any 201 closeB 6 (by decide) (by decide) mark_close rfl W (ht.below hW)
 obtain ⟨q, hq⟩ : ∃ q, begB l openB = q := ⟨_, rfl⟩
 cases q with
 | false =>
   have hno : takeP l = ([], 0, false) := by unfold takeP; rw [hq, if_neg (by simp)]
   go_enter Tryd.func16, Tryd.ntmps16
   go_wp2_with fail
   refine (HM.out _ (Below.refl _ _)).mono ?_
   rintro e w1 ⟨Ao, co, rfl, ho, hb⟩
   have hct := pascut_any A Ao n c 6 co l openB false w1 hn rfl hc hq (hr.below hb) ho.rd
   rw [if_neg (by decide)] at hct
   have HCT := Lib.hid hct
   clear hct hq hr hn
   go_wp2_with fail
   refine HCT.out.mono ?_
   rintro e w2 ⟨rfl, rfl⟩
   go_wp2_with fail
   refine bodyPost_ret (v := .tuple #[.slice none 0 0, .int .i64 0, .bool false]) (by simp [results, Tryd.results16, go_sem]) rfl ?_
   exact TakP.no hno hb
 | true =>
   obtain ⟨r0, hr0⟩ := beg_iff.1 hq
   have h6 : 6 ≤ n := by rw [← hn, hr0, List.length_append]; simp [openB]
   obtain ⟨r, hrd⟩ : ∃ r, l.drop 6 = r := ⟨_, rfl⟩
   obtain ⟨N1, hN1⟩ : ∃ N1, n - 6 = N1 := ⟨_, rfl⟩
   obtain ⟨C1, hC1⟩ : ∃ C1, c - 6 = C1 := ⟨_, rfl⟩
   obtain ⟨A1, hA1⟩ : ∃ A1, (if c = 6 then A else A.map (fun x => x.add 6)) = A1 := ⟨_, rfl⟩
   have hrl : r.length = N1 := by rw [← hrd, List.length_drop, hn, hN1]
   have hr1 : Rd w A1 (bs r) := by rw [← hA1, ← hrd]; exact rd_from 6 hr (by omega)
   have hNC : N1 ≤ C1 := by omega
   obtain ⟨K1, hK1⟩ : ∃ K1, runL r = K1 := ⟨_, rfl⟩
   have hKN : K1 ≤ N1 := by rw [← hK1, ← hrl]; exact run_le r
   have hso : ∀ w, (sizeOf 5).run Tryd.prog w = .ok 1 w := fun w => by kernel_rfl
   obtain ⟨A2, hcut, hcutr⟩ := cut_run (P := Tryd.prog) (T := 24) rfl Tryd.underlying24 hso A1 N1 C1 K1 hKN hNC
   obtain ⟨N2, hN2⟩ : ∃ N2, N1 - K1 = N2 := ⟨_, rfl⟩
   obtain ⟨C2, hC2⟩ : ∃ C2, C1 - K1 = C2 := ⟨_, rfl⟩
   rw [hN2, hC2] at hcut
   obtain ⟨q2, hq2⟩ : ∃ q, begB (r.drop K1) closeB = q := ⟨_, rfl⟩
   have hq2' : begB (l.drop (6 + runL (l.drop 6))) closeB = q2 := by rw [← List.drop_drop, hrd, hK1, hq2]
   have hr2 : Rd w A2 (bs (r.drop K1)) := by
    have := hcutr w.heap.size w r hrl (RdIn.of hr1)
    exact this.rd (Nat.le_refl _)
   obtain ⟨A4, N4, C4, h4⟩ : ∃ A4 N4 C4, (if q2 = true then Value.slice (if C2 = 6 then A2 else A2.map (fun x => x.add 6)) (N2 - 6) (C2 - 6) else .slice A2 N2 C2) = .slice A4 N4 C4 := by
    cases q2
    ·exact ⟨_, _, _, rfl⟩
    ·exact ⟨_, _, _, rfl⟩
   have HCT : Hid (∀ B d W, Below w.heap.size w W → Rd W B (bs closeB) → Calls Tryd.prog 29 #[.slice A2 N2 C2, .slice B 6 d] W fun e w' => e = .returned (.tuple #[.slice A4 N4 C4, .bool q2]) ∧ Below W.heap.size W w') := Lib.hid fun B d W hW hB => by
    have h := pascut_any A2 B N2 C2 6 d (r.drop K1) closeB q2 W (by rw [List.length_drop, hrl, hN2]) rfl (by omega) hq2 (hr2.below hW) hB
    rw [h4] at h
    exact h.mono fun e w' ⟨he, hw⟩ => ⟨he, by rw [hw]; exact Below.refl _ _⟩
   have hN4 : q2 = true → N2 = N4 + 6 := fun hx => by
    subst hx
    rw [if_pos rfl] at h4
    injection h4 with e1 e2 e3
    obtain ⟨r5, hr5⟩ := beg_iff.1 hq2
    have := congrArg List.length hr5
    rw [List.length_drop, hrl, List.length_append] at this
    simp [closeB] at this
    omega
   have HRN : Hid (∀ W, Below w.heap.size w W → Calls Tryd.prog 30 #[.slice A1 N1 C1] W fun e w' => e = .returned (.int .i64 (K1 : Nat)) ∧ Below W.heap.size W w') := Lib.hid fun W hW => by
    have h := pcleanBytes_any A1 N1 C1 r hrl W (hs.below' hW) (by omega) hNC (hr1.below hW)
    rw [hK1] at h
    exact h
   have HCL : Hid (∀ W, Below w.heap.size w W → Calls Tryd.prog 31 #[.slice A1 K1 C1] W (OutP (r.take K1) K1 W)) := Lib.hid fun W hW => pasclone_any A1 K1 C1 (r.take K1) W (by rw [List.length_take, hrl]; omega) (by omega) (rd_upto K1 (hr1.below hW))
   have hct : ∀ Ao co w1, Below w.heap.size w w1 → Rd w1 Ao (bs openB) → Calls Tryd.prog 29 #[.slice A n c, .slice Ao 6 co] w1 fun e w' => e = .returned (.tuple #[.slice A1 N1 C1, .bool true]) ∧ w' = w1 := fun Ao co w1 hb ho => by
    have h := pascut_any A Ao n c 6 co l openB true w1 hn rfl hc hq (hr.below hb) ho
    rw [if_pos rfl, hA1, hN1, hC1] at h
    exact h
   have HCO := Lib.hid hct
   have HTK : Hid (takeP l = if q2 = true then (r.take K1, 6 + K1 + 6, true) else ([], 0, false)) := Lib.hid (by
    unfold takeP
    rw [hq, hq2', hrd, hK1]
    cases q2 <;> simp)
   have htl : (r.take K1).length = K1 := by rw [List.length_take, hrl]; omega
   clear hct hr1 hr2 hA1 hcutr hq hq2 hq2' hr0 hr hs ht h4 hrd hrl hK1
   go_enter Tryd.func16, Tryd.ntmps16
   go_wp2_with fail
   refine (HM.out _ (Below.refl _ _)).mono ?_
   rintro e w1 ⟨Ao, co, rfl, ho, hb1⟩
   go_wp2_with fail
   refine (HCO.out Ao co _ hb1 ho.rd).mono ?_
   rintro e w1' ⟨rfl, rfl⟩
   go_wp2_with fail
   refine (HRN.out _ hb1).mono ?_
   rintro e w3 ⟨rfl, hb3⟩
   have hB3 := hb1.trans (hb3.mono hb1.size)
   have HM2 : Hid (∀ W, Below w3.heap.size w3 W → Calls Tryd.prog 26 #[.int .i64 201] W (OutP closeB 6 W)) := Lib.hid fun W hW => HM2.out W (hB3.trans (hW.mono hB3.size))
   have HCT : Hid (∀ B d W, Below w3.heap.size w3 W → Rd W B (bs closeB) → Calls Tryd.prog 29 #[.slice A2 N2 C2, .slice B 6 d] W fun e w' => e = .returned (.tuple #[.slice A4 N4 C4, .bool q2]) ∧ Below W.heap.size W w') := Lib.hid fun B d W hW hB => HCT.out B d W (hB3.trans (hW.mono hB3.size)) hB
   clear HM HCO HRN ho hb1 hb3
   go_upto_region 5 with (fail)
   refine wp_region_inv (Inv := fun l a W => ∃ b0 b1 b2 b3 b4 b5 b6 b7 b8 b9 b10 g, l = #[b0, b1, b2, b3, b4, b5, b6, b7, b8, b9, b10] ∧ (b9 = true → b0 = true) ∧ a = takFr A A1 A2 A4 Ao n c N1 C1 K1 N2 C2 N4 C4 co q2 b0 b1 b2 b3 b4 b5 b6 b7 b8 b9 b10 g ∧ Below w3.heap.size w3 W ∧ (b4 = true → FSl closeB 6 g W)) (by kernel_rfl) (by kernel_rfl) ?hs ?h0 ?hstep ?hend
   case hs => rintro l a W ⟨b0, b1, b2, b3, b4, b5, b6, b7, b8, b9, b10, g, rfl, _⟩; rfl
   case h0 => exact ⟨false, false, false, false, false, false, false, false, false, false, false, undef, rfl, (fun h => h), rfl, (Below.refl _ _).drew, (fun h => by cases h)⟩
   case hstep =>
    rintro l a W i ⟨b0, b1, b2, b3, b4, b5, b6, b7, b8, b9, b10, g, rfl, hcl, rfl, hW, hg⟩ hi
    obtain ⟨h1, o, ho, hw⟩ := mem_ready.1 hi
    have hlt := (Array.getElem?_eq_some_iff.1 ho).1
    clear hi
    match i, hlt with
    | 0, _ =>
      have e0 : b0 = false := h1
      subst e0
      have e9 : b9 = false := by cases b9; rfl; exact absurd (hcl rfl) (by decide)
      subst e9
      refine wpOp_value (.slice A1 N1 C1) rfl rfl (w' := W) (by kernel_rfl) ?_
      exact ⟨true, b1, b2, b3, b4, b5, b6, b7, b8, false, b10, g, rfl, fun _ => rfl, rfl, hW, hg⟩
    | 1, _ =>
      have e1 : b1 = false := h1
      subst e1
      refine wpOp_value (.slice A1 K1 C1) rfl rfl (w' := W) (by kernel_rfl) ?_
      exact ⟨b0, true, b2, b3, b4, b5, b6, b7, b8, b9, b10, g, rfl, hcl, rfl, hW, hg⟩
    | 2, _ =>
      have e2 : b2 = false := h1
      subst e2
      have e1 : b1 = true := hw ⟨1, .data⟩ (edge_of ho _ 0 rfl) rfl
      subst e1
      refine wpOp_value (.int .i64 (K1 : Nat)) rfl rfl (w' := W) (by kernel_rfl) ?_
      exact ⟨b0, true, true, b3, b4, b5, b6, b7, b8, b9, b10, g, rfl, hcl, rfl, hW, hg⟩
    | 3, _ =>
      have e3 : b3 = false := h1
      subst e3
      have e0 : b0 = true := hw ⟨0, .data⟩ (edge_of ho _ 0 rfl) rfl
      subst e0
      have e2 : b2 = true := hw ⟨2, .data⟩ (edge_of ho _ 1 rfl) rfl
      subst e2
      refine wpOp_value (.slice A2 N2 C2) rfl rfl (w' := W) (by have := hcut W; exact cut_op rfl rfl rfl Tryd.underlying24 this) ?_
      exact ⟨true, b1, true, true, b4, b5, b6, b7, b8, b9, b10, g, rfl, hcl, rfl, hW, hg⟩
    | 4, _ =>
      have e4 : b4 = false := h1
      subst e4
      refine wpOp_enter 26 #[.int .i64 201] rfl rfl (w' := W) (by kernel_rfl) ((HM2.out W hW).mono ?_)
      rintro e W2 ⟨B, d, rfl, ho, hb⟩
      exact ⟨_, rfl, b0, b1, b2, b3, true, b5, b6, b7, b8, b9, b10, .slice B 6 d, rfl, hcl, rfl, hW.trans (hb.mono hW.size), fun _ => ⟨B, d, rfl, ho.cap.1, ho.rd⟩⟩
    | 5, _ =>
      have e5 : b5 = false := h1
      subst e5
      have e3 : b3 = true := hw ⟨3, .data⟩ (edge_of ho _ 0 rfl) rfl
      subst e3
      have e4 : b4 = true := hw ⟨4, .data⟩ (edge_of ho _ 1 rfl) rfl
      subst e4
      obtain ⟨B, d, rfl, _, hrB⟩ := hg rfl
      refine wpOp_enter 29 #[.slice A2 N2 C2, .slice B 6 d] rfl rfl (w' := W) (by kernel_rfl) ((HCT.out B d W hW hrB).mono ?_)
      rintro e W2 ⟨rfl, hb⟩
      exact ⟨_, rfl, b0, b1, b2, true, true, true, b6, b7, b8, b9, b10, .slice B 6 d, rfl, hcl, rfl, hW.trans (hb.mono hW.size), fun _ => ⟨B, d, rfl, by assumption, hrB.below hb⟩⟩
    | 6, _ =>
      have e6 : b6 = false := h1
      subst e6
      have e5 : b5 = true := hw ⟨5, .data⟩ (edge_of ho _ 0 rfl) rfl
      subst e5
      refine wpOp_value (.tuple #[.slice A4 N4 C4, .bool q2]) rfl rfl (w' := W) (by kernel_rfl) ?_
      exact ⟨b0, b1, b2, b3, b4, true, true, b7, b8, b9, b10, g, rfl, hcl, rfl, hW, hg⟩
    | 7, _ =>
      have e7 : b7 = false := h1
      subst e7
      have e6 : b6 = true := hw ⟨6, .data⟩ (edge_of ho _ 0 rfl) rfl
      subst e6
      refine wpOp_value (.slice A4 N4 C4) rfl rfl (w' := W) (by kernel_rfl) ?_
      exact ⟨b0, b1, b2, b3, b4, b5, true, true, b8, b9, b10, g, rfl, hcl, rfl, hW, hg⟩
    | 8, _ =>
      have e8 : b8 = false := h1
      subst e8
      have e6 : b6 = true := hw ⟨6, .data⟩ (edge_of ho _ 0 rfl) rfl
      subst e6
      refine wpOp_value (.bool q2) rfl rfl (w' := W) (by kernel_rfl) ?_
      exact ⟨b0, b1, b2, b3, b4, b5, true, b7, true, b9, b10, g, rfl, hcl, rfl, hW, hg⟩
    | 9, _ =>
      have e9 : b9 = false := h1
      subst e9
      have e7 : b7 = true := hw ⟨7, .data⟩ (edge_of ho _ 0 rfl) rfl
      subst e7
      have e0 : b0 = true := hw ⟨0, .phase⟩ (edge_of ho _ 2 rfl) rfl
      subst e0
      refine wpOp_value (.slice A4 N4 C4) rfl rfl (w' := W) (by kernel_rfl) ?_
      exact ⟨true, b1, b2, b3, b4, b5, b6, true, b8, true, b10, g, rfl, fun _ => rfl, rfl, hW, hg⟩
    | 10, _ =>
      have e10 : b10 = false := h1
      subst e10
      have e8 : b8 = true := hw ⟨8, .data⟩ (edge_of ho _ 0 rfl) rfl
      subst e8
      refine wpOp_value (.bool q2) rfl rfl (w' := W) (by kernel_rfl) ?_
      exact ⟨b0, b1, b2, b3, b4, b5, b6, b7, true, b9, true, g, rfl, hcl, rfl, hW, hg⟩
   case hend =>
    rintro l a W ⟨b0, b1, b2, b3, b4, b5, b6, b7, b8, b9, b10, g, rfl, hcl, rfl, hW, hg⟩ hall
    have e0 : b0 = true := hall 0 (by decide)
    subst e0
    have e1 : b1 = true := hall 1 (by decide)
    subst e1
    have e2 : b2 = true := hall 2 (by decide)
    subst e2
    have e3 : b3 = true := hall 3 (by decide)
    subst e3
    have e4 : b4 = true := hall 4 (by decide)
    subst e4
    have e5 : b5 = true := hall 5 (by decide)
    subst e5
    have e6 : b6 = true := hall 6 (by decide)
    subst e6
    have e7 : b7 = true := hall 7 (by decide)
    subst e7
    have e8 : b8 = true := hall 8 (by decide)
    subst e8
    have e9 : b9 = true := hall 9 (by decide)
    subst e9
    have e10 : b10 = true := hall 10 (by decide)
    subst e10
    have hB4 := hB3.trans (hW.mono hB3.size)
    simp only [takFr, cond]
    clear hg hcl hall
    clear HM2 HCT hcut hB3 hW
    cases q2 with
    | false =>
      have HTF := Lib.hid HTK.out
      clear HTK
      go_wp2_with fail
      refine bodyPost_ret (v := .tuple #[.slice none 0 0, .int .i64 0, .bool false]) (by simp [results, Tryd.results16, go_sem]) rfl ?_
      exact TakP.no (HTF.out.trans (if_neg (by decide))) hB4
    | true =>
      have hN4 := hN4 rfl
      go_wp2_with fail
      refine (HCL.out _ hB4).mono ?_
      rintro e w5 ⟨A5, c5, rfl, ho5, hb5⟩
      go_wp2_with fail
      refine bodyPost_ret (v := .tuple #[.slice A5 K1 c5, .int .i64 ((n : Int) - (N4 : Int)), .bool true]) (by simp [results, Tryd.results16, go_sem]) rfl ?_
      exact TakP.yes (HTK.out.trans (if_pos trivial)) htl (by omega) (ho5.mono hB4.size) (hB4.trans (hb5.mono hB4.size))
end Go.Proofs.YtgaoijinchakoaaDoor
