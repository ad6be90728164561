/-
  Cut out of LegV: what names no function of any dump. A key's event in memory; words for layers that send keys. Layer 3, walked: the program's char (in a text of its own: a dump that doesn't call it can load the others). Layer 3, walked: the program's join, and its parameters as a text. Layer 3, walked: the program's parameters as a text.
-/
import Derived.Test.YtbjmfhcgkpjcfaaDoorG02
import Derived.Test.YtbjmfhcgkpjcfaaDoorG06
import Derived.Test.YtbjmfhcgkpjcfaaDoorG07
import Derived.Test.YtbjmfhcgkpjcfaaDoorG09
import Derived.Test.YtbjmfhcgkpjcfaaDoorG11
import Derived.Test.YtbjmfhcgkpjcfaaDoorG13
import Derived.Test.YtbjmfhcgkpjcfaaDoorG14
import Derived.Laws.OwnMore
namespace Go.Proofs.YtbjmfhcgkpjcfaaDoor
open Go.RowKit

def notU8 : Value → Bool
  | .int .u8 _ => false
  | _ => true
/-- Bytes don't lie in a block that holds none. -/
theorem Rd.off_key {w : World} {A : Option Addr} {L : List UInt8} {g : Nat} {t : TypeId} {cs : Array Value} (h : Rd w A (bs L)) (hk : Blk w g t cs) (hc : cs.toList.all notU8 = true) : RdOff w (fun k => k = g) A (bs L) := fun hp => by
  obtain ⟨b, o, rfl, hb, hx⟩ := h hp
  refine ⟨b, o, rfl, hb, fun e => ?_, hx⟩
  subst e
  have h0 := hx 0 _ (List.getElem?_eq_getElem hp)
  rw [Nat.add_zero, hk.cell o] at h0
  obtain ⟨c, _, hcv⟩ := List.mem_map.1 (List.getElem_mem (l := bs L) hp)
  rw [← hcv] at h0
  have := List.all_eq_true.1 hc _ (Array.mem_def.1 (Array.mem_of_getElem? h0))
  cases this
end Go.Proofs.YtbjmfhcgkpjcfaaDoor
namespace Go.Proofs.YtbjmfhcgkpjcfaaDoor
open Go.RowKit

/-- A key's event, as a value. -/
def kyV (k : Ky) : Value := .agg #[.int .i64 k.code, .int .i64 k.mods, .int .i64 k.typ, .int .i64 k.shift, .int .i64 k.base, .string k.text]
def kyC (k : Ky) : Array Value := #[.int .i64 k.code, .int .i64 k.mods, .int .i64 k.typ, .int .i64 k.shift, .int .i64 k.base, .string k.text]
theorem Own.capT {w : World} {base : Nat} {e : TypeId} {A : Option Addr} {n c : Nat} {xs : List Value} (h : Own w base e 1 (.slice A n c) n xs) : n ≤ c := by
  rcases h.2 with ⟨hv, h0⟩ | ⟨g, cap, hv, hb, hh, hnc, hcm, hx, hc⟩
  · omega
  · injection hv with _ _ h3
    omega
theorem below_none {w w' : World} (h : w.grownBy w' none) : Below w.heap.size w w' := ⟨h.os, h.tape, h.output, h.size, fun k hk => h.block k hk (by simp)⟩
/-- A call that tells one value, and makes nothing that lay turn. -/
def Val10 (v : Value) (w : World) (e : Ending) (w' : World) : Prop := e = .returned v ∧ Below w.heap.size w w'
theorem max0 (n N : Int) (h : max n 0 = N) {P : Program} : ∀ (ts : Array TypeId) (t : TypeId) (W : World), (Builtin.max_ ts t #[.int .i64 n, .int .i64 0]).run P W = .ok (.int .i64 N) W := fun ts t W => by
  rw [run_max_int2]
  congr 2
  split <;> omega
theorem ky_box (w : World) (k : Ky) : Below w.heap.size w (w.alloc (.cells (kyC k) 25)) := (Below.refl _ w).alloc (Nat.le_refl _) _
end Go.Proofs.YtbjmfhcgkpjcfaaDoor
namespace Go.Proofs.YtbjmfhcgkpjcfaaDoor
open Go.RowKit

set_option maxRecDepth 100000 in
set_option maxHeartbeats 2000000 in
theorem char_any (c : UInt8) (w : World) (h : c.toNat < 128) :
    Calls Tryd.prog 84 #[.int .u8 (c.toNat : Int)] w fun e w' => e = .returned (.string ⟨(privL c).toArray⟩) ∧ w = w' := by
  by_cases h0 : c = 0
  · subst h0
    go_enter Tryd.func84, Tryd.ntmps84
    go_wp2
    go_ret
    exact ⟨rfl, rfl⟩
  · have E := Lib.hid (show privL c = [c] from if_neg h0)
    have n0 : c.toNat ≠ 0 := fun e => h0 (UInt8.toNat_inj.1 e)
    have t0 : ((c.toNat : Int) == 0) = false := beq_false_of_ne (by omega)
    clear h0 n0
    go_enter Tryd.func84, Tryd.ntmps84
    go_wp2
    go_ret
    exact ⟨by rw [E.out, ← char_str c h]; rfl, rfl⟩
end Go.Proofs.YtbjmfhcgkpjcfaaDoor
namespace Go.Proofs.YtbjmfhcgkpjcfaaDoor
open Go.RowKit

/-- Texts as values, in a row. -/
def ss_ (l : List (List UInt8)) : List Value := l.map fun t => .string ⟨t.toArray⟩
theorem join_cons2 (sep p q : List UInt8) (l : List (List UInt8)) : Lib.join (p :: q :: l) sep = p ++ sep ++ Lib.join (q :: l) sep := by
  simp [Lib.join, List.intercalate_cons_cons]
theorem join_part (p : List Int) : Lib.join (p.map textL) [58] = partL p := by
  match p with
  | [] => rfl
  | [n] => simp [Lib.join, partL]
  | n :: m :: p =>
    rw [List.map_cons, List.map_cons, join_cons2, ← List.map_cons, join_part (m :: p)]
    simp [partL]
theorem join_par (l : List (List Int)) : Lib.join (l.map partL) [59] = parL l := by
  match l with
  | [] => rfl
  | [n] => simp [Lib.join, parL]
  | n :: m :: p =>
    rw [List.map_cons, List.map_cons, join_cons2, ← List.map_cons, join_par (m :: p)]
    simp [parL]

set_option maxRecDepth 100000 in
set_option maxHeartbeats 4000000 in
theorem join_any (A : Option Addr) (n c : Nat) (l : List (List UInt8)) (sep T : List UInt8) (w : World) (hn : l.length = n) (hT : Lib.join l sep = T) (hl : n ≤ 4294967296) (hc : n ≤ c) (hlen : T.length ≤ 140737488355328) (hr : Rd w A (ss_ l)) :
    Calls Tryd.prog 83 #[.string ⟨sep.toArray⟩, .slice A n c] w fun e w' => e = .returned (.string ⟨T.toArray⟩) ∧ Below w.heap.size w w' := by
  have hm : (l.map fun t : List UInt8 => (⟨t.toArray⟩ : ByteArray)).map (·.data.toList) = l := by
    rw [List.map_map]
    calc l.map _ = l.map id := List.map_congr_left (fun x _ => by simp)
      _ = l := List.map_id l
  by_cases h0 : n = 0
  · subst h0
    have e0 : l = [] := List.eq_nil_of_length_eq_zero hn
    subst e0
    obtain rfl : [] = T := hT
    go_enter Tryd.func83, Tryd.ntmps83
    go_wp2_with fail
    refine (Tryd.strings_Join_none A c _ _).mono ?_
    rintro e w1 ⟨rfl, rfl⟩
    go_wp2_with fail
    go_ret
    exact ⟨rfl, Below.refl _ _⟩
  · obtain ⟨b, o, rfl, hb, hcc⟩ := hr (by simp [ss_]; omega)
    have HJ := Lib.hid (show Lib.join ((l.map fun t : List UInt8 => (⟨t.toArray⟩ : ByteArray)).map (·.data.toList)) (⟨sep.toArray⟩ : ByteArray).data.toList = T by rw [hm]; exact hT)
    have hcells : Hid (∀ (j : Nat) (x : ByteArray), (l.map fun t : List UInt8 => (⟨t.toArray⟩ : ByteArray))[j]? = some x → w.cell? ⟨b, o + j, none⟩ = some (.string x)) := Lib.hid fun j x hx => hcc j _ (by
      unfold ss_
      rw [List.getElem?_map] at hx ⊢
      cases hj : l[j]? with
      | none => rw [hj] at hx; cases hx
      | some t => rw [hj] at hx; simp at hx; subst hx; rfl)
    have HLn := Lib.hid (show (l.map fun t : List UInt8 => (⟨t.toArray⟩ : ByteArray)).length = n by rw [List.length_map]; exact hn)
    clear hm hcc hT hn
    have hJ := Tryd.strings_Join b o c (l.map fun t : List UInt8 => (⟨t.toArray⟩ : ByteArray)) ⟨sep.toArray⟩ w hcells.out hb (by rw [HLn.out]; omega) (by rw [HLn.out]; exact hc) (by rw [HJ.out]; exact hlen)
    rw [HJ.out, HLn.out] at hJ
    go_enter Tryd.func83, Tryd.ntmps83
    go_wp2_with fail
    refine hJ.mono ?_
    rintro e w1 ⟨rfl, hb1⟩
    go_wp2_with fail
    go_ret
    exact ⟨rfl, hb1⟩
end Go.Proofs.YtbjmfhcgkpjcfaaDoor
namespace Go.Proofs.YtbjmfhcgkpjcfaaDoor
open Go.RowKit

theorem part_len22 (p : List Int) (h : partOk p) : (partL p).length ≤ 22 * p.length := partL_len p h
theorem own_full {w : World} {base : Nat} {e : TypeId} {g n : Nat} {xs : List Value} {l : List Value} (h : Own w base e 1 (.slice (some ⟨g, 0, none⟩) n n) n xs) (hl : l.length = n) (hx : ∀ j, j < n → xs[j]? = l[j]?) : Rd w (some ⟨g, 0, none⟩) l := by
  have h1 := h.1
  have : xs = l := List.ext_getElem? fun j => by
    by_cases hj : j < n
    · exact hx j hj
    · rw [List.getElem?_eq_none (by omega), List.getElem?_eq_none (by omega)]
  subst this
  exact h.rd

set_option maxRecDepth 100000 in
set_option maxHeartbeats 8000000 in
theorem ptext_any (A : Option Addr) (c : Nat) (ps : List (List Int)) (w : World) (hp : parOk ps = true) (ht : Tab w) (hr : RdP w A ps) :
    Calls Tryd.prog 85 #[.slice A ps.length c] w fun e w' => e = .returned (.string ⟨(parL ps).toArray⟩) ∧ Below w.heap.size w w' := by
  obtain ⟨i0, hi, hz0, hz1, hz2⟩ : ∃ i, Tryd.prog.info? 9 = some i ∧ i.zero = some (.string ⟨#[]⟩) ∧ i.size = 1 ∧ i.bytes = 16 := ⟨_, rfl, rfl, rfl, rfl⟩
  obtain ⟨hl16, hp8⟩ := parOk_lens hp
  have HP8 := Lib.hid hp8
  obtain ⟨n, hn⟩ : ∃ n, ps.length = n := ⟨_, rfl⟩
  rw [hn] at hl16 ⊢
  have HN := Lib.hid hn
  have HP := Lib.hid hp
  clear hp hp8 hn
  go_enter Tryd.func85, Tryd.ntmps85
  go_wp2_with (first | (at_make; refine wpList_make_full _ rfl _ _ 117 rfl w.heap.size 9 i0 _ 1 Tryd.underlying117 hi hz0 hz1 _ _ _ _ n rfl rfl ?d0 ?d1 ?d2 ?d3 ?d4 ?_))
  case d0 => omega
  case d1 => omega
  case d2 => rw [hz2]; omega
  case d3 => simp only [maxLen]; omega
  case d4 => exact Nat.le_refl _
  intro w2 hown2 hg2
  have hb2 : Below w.heap.size w w2 := (Below.refl _ _).grown hg2 (Nat.le_refl _) (by simp)
  have ho2 := Own.of hown2
  have hlt2 : w.heap.size < w2.heap.size := (ho2.lt w.heap.size rfl).2
  clear hown2 hg2
  go_wp2_with fail
  go_loopw [14] (fun i wr => ∃ (k : Nat) (xs : List Value), k ≤ n ∧ i = .int .i64 k ∧ Own wr w.heap.size 9 1 (.slice (some ⟨w.heap.size, 0, none⟩) n n) n xs ∧ Below w.heap.size w wr ∧ Hid (∀ j, j < k → xs[j]? = (ss_ (ps.map partL))[j]?)) (fun i _ => n - (intOf i).toNat)
  case atStart => exact ⟨0, _, Nat.zero_le _, rfl, ho2, hb2, Lib.hid fun j h => absurd h (by omega)⟩
  case round =>
    obtain ⟨k, xs, hk, rfl, ho, hb, hdone⟩ := hrel
    clear ho2 hb2 hlt2
    have hltr : w.heap.size < wr.heap.size := (ho.lt w.heap.size rfl).2
    obtain ⟨wo, rfl⟩ : ∃ wo : World, wo = wr := ⟨_, rfl⟩
    by_cases hlt : k < n
    · have hkn : k < ps.length := by rw [HN.out]; exact hlt
      obtain ⟨b, o, hA, hbA, hcc⟩ := (hr.below hb) (by omega)
      cases hA
      obtain ⟨A', c', hck, hrk⟩ := hcc k hkn
      obtain ⟨p, hp'⟩ : ∃ p, (ps[k]'hkn) = p := ⟨_, rfl⟩
      have hpl := HP8.out _ (List.getElem_mem hkn)
      rw [hp'] at hck hrk hpl
      have HPP := Lib.hid hp'
      clear hp' hcc
      obtain ⟨m, hm⟩ : ∃ m, p.length = m := ⟨_, rfl⟩
      rw [hm] at hck hpl
      have HM := Lib.hid hm
      obtain ⟨hm8, hpo⟩ := hpl
      have HPO := Lib.hid hpo
      clear hm hpo
      go_wp2_with (first | (at_make; refine wpList_make_full _ rfl _ _ 117 rfl wo.heap.size 9 i0 _ 1 Tryd.underlying117 hi hz0 hz1 _ _ _ _ m rfl rfl ?d0 ?d1 ?d2 ?d3 ?d4 ?_))
      case d0 => omega
      case d1 => omega
      case d2 => rw [hz2]; omega
      case d3 => simp only [maxLen]; omega
      case d4 => exact Nat.le_refl _
      intro w3 hown3 hg3
      have hb3 : Below wo.heap.size wo w3 := (Below.refl _ _).grown hg3 (Nat.le_refl _) (by simp)
      have ho3 := Own.of hown3
      clear hown3 hg3
      go_wp2_with fail
      go_loopw [24] (fun i wr => ∃ (j : Nat) (ys : List Value), j ≤ m ∧ i = .int .i64 j ∧ Own wr wo.heap.size 9 1 (.slice (some ⟨wo.heap.size, 0, none⟩) m m) m ys ∧ Below wo.heap.size wo wr ∧ Hid (∀ t, t < j → ys[t]? = (ss_ (p.map textL))[t]?)) (fun i _ => m - (intOf i).toNat)
      case atStart => exact ⟨0, _, Nat.zero_le _, rfl, ho3, hb3, Lib.hid fun j h => absurd h (by omega)⟩
      case round =>
        obtain ⟨j, ys, hj, rfl, hoi, hbi, hdi⟩ := hrel
        clear ho3 hb3
        have hlti : wo.heap.size < wr.heap.size := (hoi.lt wo.heap.size rfl).2
        by_cases hjm : j < m
        · have hjp : j < p.length := by rw [HM.out]; exact hjm
          obtain ⟨b4, o4, hA4, hb4, hc4⟩ := (hrk.below hbi).int_at (by omega)
          cases hA4
          have hcj := hc4 j hjp
          obtain ⟨x, hx⟩ : ∃ x, p[j]'hjp = x := ⟨_, rfl⟩
          have hxr := HPO.out _ (List.getElem_mem hjp)
          rw [hx] at hcj hxr
          have HX := Lib.hid hx
          clear hx hc4
          obtain ⟨x0, x1⟩ := hxr
          go_wp2_with fail
          refine (text_any x _ (by omega) (by omega) (ht.below (hb.trans (hbi.mono hb.size)))).mono ?_
          rintro e w5 ⟨rfl, hb5⟩
          have ho5 := hoi.behind hb5
          have hyl : j < ys.length := by have := hoi.1; omega
          have hd1 := ho5.cellAt j hyl
          have hd2 := ho5.frozenAt j hyl
          have hbi5 : Below wo.heap.size wo w5 := hbi.trans (hb5.mono hbi.size)
          clear hb5 hcj
          go_wp2_with fail
          go_roundw
          case rel =>
            refine ⟨j + 1, _, by omega, by go_num, ho5.stored j _, hbi5.setCell (p := ⟨wo.heap.size, j, none⟩) (Nat.le_refl _) _, Lib.hid fun t ht => ?_⟩
            by_cases e : t = j
            · subst e
              rw [List.getElem?_set_self hyl]
              simp [ss_, List.getElem?_eq_getElem hjp, HX.out]
            · rw [List.getElem?_set_ne (fun h => e h.symm)]
              exact hdi.out t (by omega)
          case measure => simp [intOf]; omega
        · have hrow := own_full hoi (l := ss_ (p.map textL)) (by simp [ss_, HM.out]) (fun t ht => hdi.out t (by omega))
          have hJ := Lib.hid (join_part p)
          have hlen := partL_len p HPO.out
          rw [HM.out] at hlen
          have hml := Lib.hid (show (p.map textL).length = m by rw [List.length_map]; exact HM.out)
          go_wp2_with fail
          refine (join_any (some ⟨wo.heap.size, 0, none⟩) m m (p.map textL) [58] (partL p) _ hml.out hJ.out (by omega) (Nat.le_refl _) (by omega) hrow).mono ?_
          rintro e w5 ⟨rfl, hb5⟩
          have hbi5 : Below wo.heap.size wo w5 := hbi.trans (hb5.mono hbi.size)
          have ho5 := ho.behind hbi5
          have hxl : k < xs.length := by have := ho.1; omega
          have hd1 := ho5.cellAt k hxl
          have hd2 := ho5.frozenAt k hxl
          have hb5' : Below w.heap.size w w5 := hb.trans (hbi5.mono hb.size)
          clear hb5 hrow
          go_wp2_with fail
          go_roundw
          case rel =>
            refine ⟨k + 1, _, by omega, by go_num, ho5.stored k _, hb5'.setCell (p := ⟨w.heap.size, k, none⟩) (Nat.le_refl _) _, Lib.hid fun t ht => ?_⟩
            by_cases e : t = k
            · subst e
              rw [List.getElem?_set_self hxl]
              simp [ss_, List.getElem?_eq_getElem hkn, HPP.out]
            · rw [List.getElem?_set_ne (fun h => e h.symm)]
              exact hdone.out t (by omega)
          case measure => simp [intOf]; omega
    · have hrow := own_full ho (l := ss_ (ps.map partL)) (by simp [ss_, HN.out]) (fun t ht => hdone.out t (by omega))
      have hJ := Lib.hid (join_par ps)
      have hlen := parL_len ps HP8.out
      rw [HN.out] at hlen
      have hml := Lib.hid (show (ps.map partL).length = n by rw [List.length_map]; exact HN.out)
      go_wp2_with fail
      refine (join_any (some ⟨w.heap.size, 0, none⟩) n n (ps.map partL) [59] (parL ps) _ hml.out hJ.out (by omega) (Nat.le_refl _) (by omega) hrow).mono ?_
      rintro e w5 ⟨rfl, hb5⟩
      go_wp2_with fail
      go_ret
      exact ⟨rfl, hb.trans (hb5.mono hb.size)⟩
end Go.Proofs.YtbjmfhcgkpjcfaaDoor
