/-
  Layer 3's mathematics: a sequence's body, a parameter at a time; its length. Cut out of WirF: what names no function of any dump. A key's event in memory; words for layers that send keys. A sequence of numbers, as a value, and the document's Put of it.
  Cut out of SqnW. Layer 3, walked: the document's within and params. The document's numbers in figures, walked. (For layers that don't load layer 1's own texts.) Layer 10, the landed mods: whether a number is modifiers. Layer 3, walked: the program's reader: skip, run, one, part.
  Cut out of RdA.
-/
import Derived.Test.YtmagokkegadmiaaGreatDoorG01
import Derived.Test.YtmagokkegadmiaaGreatDoorG02
import Derived.Test.YtmagokkegadmiaaGreatDoorG03
import Derived.Test.YtmagokkegadmiaaGreatDoorG04
import Derived.Test.YtmagokkegadmiaaGreatDoorG05
import Derived.Test.YtmagokkegadmiaaGreatDoorG07
import Derived.Test.YtmagokkegadmiaaGreatDoorG08
import Derived.RegionCalls
import Derived.Deep.RegionWith
import Derived.Deep.RegionHeld
namespace Go.Proofs.YtmagokkegadmiaaGreatDoor
open Go.RowKit

theorem str_cat (a b c : List UInt8) (h : a ++ b = c) : (⟨a.toArray⟩ : ByteArray) ++ (⟨b.toArray⟩ : ByteArray) = ⟨c.toArray⟩ := by
  subst h
  apply ByteArray.ext
  simp [ByteArray.data_append]
theorem partL_snoc (p : List Int) (n : Int) : partL (p ++ [n]) = partL p ++ (if p = [] then [] else [58]) ++ textL n := by
  match p with
  | [] => simp [partL]
  | [m] => simp [partL]
  | m :: k :: p =>
    have ih := partL_snoc (k :: p) n
    show textL m ++ (58 :: partL (k :: p ++ [n])) = _
    rw [ih]
    simp [partL]
theorem parL_snoc (l : List (List Int)) (p : List Int) : parL (l ++ [p]) = parL l ++ (if l = [] then [] else [59]) ++ partL p := by
  match l with
  | [] => simp [parL]
  | [m] => simp [parL]
  | m :: k :: l =>
    have ih := parL_snoc (k :: l) p
    show partL m ++ (59 :: parL (k :: l ++ [p])) = _
    rw [ih]
    simp [parL]
theorem partL_len : ∀ (p : List Int), partOk p → (partL p).length ≤ 22 * p.length := by
  intro p ho
  match p with
  | [] => simp [partL]
  | [n] =>
    have := textL_length n (by have := ho n (List.mem_cons_self ..); omega)
    simp only [partL, List.length_cons, List.length_nil]; omega
  | n :: m :: p =>
    have h1 := textL_length n (by have := ho n (List.mem_cons_self ..); omega)
    have h2 := partL_len (m :: p) (fun x hx => ho x (List.mem_cons_of_mem _ hx))
    show (textL n ++ (58 :: partL (m :: p))).length ≤ _
    rw [List.length_append, List.length_cons]
    simp only [List.length_cons] at *
    omega
theorem partL_take {p : List Int} {k : Nat} (h : k < p.length) : partL (p.take (k + 1)) = partL (p.take k) ++ (if k = 0 then [] else [58]) ++ textL p[k] := by
  rw [List.take_succ_eq_append_getElem h, partL_snoc]
  congr 2
  by_cases hk : k = 0
  · subst hk; simp
  · rw [if_neg hk, if_neg]
    intro e
    have := congrArg List.length e
    rw [List.length_take, List.length_nil] at this
    omega
theorem parL_take {l : List (List Int)} {k : Nat} (h : k < l.length) : parL (l.take (k + 1)) = parL (l.take k) ++ (if k = 0 then [] else [59]) ++ partL l[k] := by
  rw [List.take_succ_eq_append_getElem h, parL_snoc]
  congr 2
  by_cases hk : k = 0
  · subst hk; simp
  · rw [if_neg hk, if_neg]
    intro e
    have := congrArg List.length e
    rw [List.length_take, List.length_nil] at this
    omega
theorem parL_len : ∀ (l : List (List Int)), (∀ p ∈ l, p.length ≤ 8 ∧ partOk p) → (parL l).length ≤ 177 * l.length := by
  intro l ho
  match l with
  | [] => simp [parL]
  | [p] =>
    have h := ho p (List.mem_cons_self ..)
    have := partL_len p h.2
    simp only [parL, List.length_cons, List.length_nil]; omega
  | p :: q :: l =>
    have h := ho p (List.mem_cons_self ..)
    have h1 := partL_len p h.2
    have h2 := parL_len (q :: l) (fun x hx => ho x (List.mem_cons_of_mem _ hx))
    show (partL p ++ (59 :: parL (q :: l))).length ≤ _
    rw [List.length_append, List.length_cons]
    simp only [List.length_cons] at *
    omega
theorem parOk_lens {l : List (List Int)} (h : parOk l = true) : l.length ≤ 16 ∧ ∀ p ∈ l, p.length ≤ 8 ∧ partOk p := by
  simp only [parOk, Bool.and_eq_true, decide_eq_true_eq, List.all_eq_true] at h
  refine ⟨h.1.1, fun p hp => ?_⟩
  obtain ⟨⟨_, h1⟩, h2⟩ := h.2 p hp
  exact ⟨h1, fun n hn => h2 n hn⟩
end Go.Proofs.YtmagokkegadmiaaGreatDoor
namespace Go.Proofs.YtmagokkegadmiaaGreatDoor
open Go.RowKit

/-- Bytes and no error; no bytes and an error. -/
def WYes (T : List UInt8) (w : World) (e : Ending) (w' : World) : Prop := (∃ A c, e = .returned (.tuple #[.slice A T.length c, .int .i64 0]) ∧ T.length ≤ c ∧ Rd w' A (bs T)) ∧ Below w.heap.size w w'
def WNo (m : Int) (w : World) (e : Ending) (w' : World) : Prop := e = .returned (.tuple #[.slice none 0 0, .int .i64 m]) ∧ Below w.heap.size w w'
theorem body_len {s : Sq} (hp : parOk s.params = true) (hi : s.inter.length ≤ 2) : (bodyL s).length ≤ 3000 := by
  obtain ⟨h1, h2⟩ := parOk_lens hp
  have h3 := parL_len s.params h2
  have h4 : (privL s.priv).length ≤ 1 := by unfold privL; split <;> simp
  unfold bodyL
  rw [List.length_append, List.length_append]
  omega
end Go.Proofs.YtmagokkegadmiaaGreatDoor
namespace Go.Proofs.YtmagokkegadmiaaGreatDoor
open Go.RowKit

/-- A key's event, as a value. -/
def kyV (k : Ky) : Value := .agg #[.int .i64 k.code, .int .i64 k.mods, .int .i64 k.typ, .int .i64 k.shift, .int .i64 k.base, .string k.text]
def kyC (k : Ky) : Array Value := #[.int .i64 k.code, .int .i64 k.mods, .int .i64 k.typ, .int .i64 k.shift, .int .i64 k.base, .string k.text]
theorem Own.capT {w : World} {base : Nat} {e : TypeId} {A : Option Addr} {n c : Nat} {xs : List Value} (h : Own w base e 1 (.slice A n c) n xs) : n ≤ c := by
  rcases h.2 with ⟨hv, h0⟩ | ⟨g, cap, hv, hb, hh, hnc, hcm, hx, hc⟩
  · omega
  · injection hv with _ _ h3
    omega
theorem below_none {w w' : World} (h : w.grownBy w' none) : Below w.heap.size w w' := ⟨h.os, h.tape, h.output, h.size, fun k hk => h.block k hk (by simp)⟩
/-- A call that tells one value, and makes nothing that lay turn. -/
def Val10 (v : Value) (w : World) (e : Ending) (w' : World) : Prop := e = .returned v ∧ Below w.heap.size w w'
theorem max0 (n N : Int) (h : max n 0 = N) {P : Program} : ∀ (ts : Array TypeId) (t : TypeId) (W : World), (Builtin.max_ ts t #[.int .i64 n, .int .i64 0]).run P W = .ok (.int .i64 N) W := fun ts t W => by
  rw [run_max_int2]
  congr 2
  split <;> omega
theorem ky_box (w : World) (k : Ky) : Below w.heap.size w (w.alloc (.cells (kyC k) 25)) := (Below.refl _ w).alloc (Nat.le_refl _) _
end Go.Proofs.YtmagokkegadmiaaGreatDoor
namespace Go.Proofs.YtmagokkegadmiaaGreatDoor
open Go.RowKit

theorem sqn_v {kind f : Int} {l : List Int} {n : Nat} (hn : l.length = n) (f0 : 0 ≤ f) (f1 : f < 256) (A : Option Addr) (c : Nat) : sqV (sqN kind f l) A c = .agg #[.int .i64 kind, .int .u8 0, .slice A n c, .string ⟨#[]⟩, .int .u8 f, .string ⟨#[]⟩] := by
  have h : (sqN kind f l).params.length = n := by show (l.map fun n => [n]).length = n; rw [List.length_map]; exact hn
  unfold sqV
  rw [h]
  show Value.agg #[.int .i64 kind, .int .u8 0, .slice A n c, .string ⟨#[]⟩, .int .u8 ((byt f).toNat : Int), .string ⟨#[]⟩] = _
  rw [byt_nat f f0 f1]
end Go.Proofs.YtmagokkegadmiaaGreatDoor
namespace Go.Proofs.YtmagokkegadmiaaGreatDoor
open Go.RowKit

set_option maxRecDepth 100000 in
set_option maxHeartbeats 2000000 in
theorem within_str (s : ByteArray) (a b : Nat) (q : Bool) (w : World) (hl : s.size ≤ 4294967296) (hq : s.data.toList.all (btw a b) = q) :
    Calls Tryz.prog 75 #[.string s, .int .u8 a, .int .u8 b] w fun e w' => e = .returned (.bool q) ∧ w = w' := by
  have HQ := Lib.hid hq
  clear hq
  go_enter Tryz.func75, Tryz.ntmps75
  go_wp2
  go_loop [7] (fun i => ∃ k : Nat, k ≤ s.size ∧ i = .int .i64 k ∧ (s.data.toList.take k).all (btw a b) = true) (fun i => s.size - (intOf i).toNat)
  case atStart => exact ⟨0, Nat.zero_le _, rfl, rfl⟩
  case round =>
    obtain ⟨k, hk, rfl, hall⟩ := hrel
    have HA := Lib.hid hall
    clear hall
    by_cases hlt : k < s.size
    · have hlt2 : k < s.data.toList.length := by simpa using hlt
      have hby := byte_at s k hlt
      have HB := Lib.hid hby
      have hd := (s[k]'hlt).toNat_lt
      have k0 : (0 : Int) ≤ (k : Int) := by omega
      have k1 : (k : Int) < (s.size : Int) := by omega
      clear hby
      by_cases h1 : (s[k]'hlt).toNat < a
      · have E := Lib.hid (HQ.out.symm.trans (all_no (p := btw a b) hlt2 ((btw_no a b _).2 (by rw [← HB.out]; omega))))
        go_wp2
        go_ret
        exact ⟨ret_b E.out.symm, rfl⟩
      · by_cases h2 : b < (s[k]'hlt).toNat
        · have E := Lib.hid (HQ.out.symm.trans (all_no (p := btw a b) hlt2 ((btw_no a b _).2 (by rw [← HB.out]; omega))))
          go_wp2
          go_ret
          exact ⟨ret_b E.out.symm, rfl⟩
        · have E := Lib.hid (show (s.data.toList.take (k + 1)).all (btw a b) = true by rw [List.take_succ_eq_append_getElem hlt2, List.all_append, HA.out, ← HB.out]; simp [(btw_iff a b _).2 ⟨Nat.le_of_not_lt h1, Nat.le_of_not_lt h2⟩])
          go_wp2
          go_round
          case rel => exact ⟨k + 1, by omega, by go_num, E.out⟩
          case measure => simp [intOf]; omega
    · have E := Lib.hid (show q = true by have := HA.out; rw [List.take_of_length_le (by simp; omega)] at this; exact HQ.out.symm.trans this)
      go_wp2
      go_ret
      exact ⟨ret_b E.out.symm, rfl⟩
theorem within_any (l : List UInt8) (a b : Nat) (q : Bool) (w : World) (hl : l.length ≤ 4294967296) (hq : l.all (btw a b) = q) :
    Calls Tryz.prog 75 #[.string ⟨l.toArray⟩, .int .u8 a, .int .u8 b] w fun e w' => e = .returned (.bool q) ∧ w = w' := by
  exact within_str ⟨l.toArray⟩ a b q w hl hq

theorem par_one : parOk [[-1]] = false := by decide
theorem part_no {p : List Int} {k : Nat} (hk : k < p.length) (h : ¬ (-1 ≤ p[k] ∧ p[k] ≤ 1114111)) : partB p = false := by
  unfold partB
  rw [show (p.all fun n => decide (-1 ≤ n) && decide (n ≤ 1114111)) = false from List.all_eq_false.2 ⟨_, List.getElem_mem hk, by simp; omega⟩, Bool.and_false]
set_option maxRecDepth 100000 in
set_option maxHeartbeats 4000000 in
theorem params_any (A : Option Addr) (c : Nat) (ps : List (List Int)) (q : Bool) (w : World) (hq : parOk ps = q) (hl : ps.length ≤ 4294967296) (hr : RdP w A ps) :
    Calls Tryz.prog 74 #[.slice A ps.length c] w fun e w' => e = .returned (.bool q) ∧ w = w' := by
  by_cases h16 : 16 < ps.length
  · obtain rfl : false = q := (par_long h16).symm.trans hq
    clear hq
    go_enter Tryz.func74, Tryz.ntmps74
    go_wp2
    go_ret
    exact ⟨rfl, rfl⟩
  · have HQ := Lib.hid hq
    clear hq
    have key : ps.length ≠ 1 ∨ ∃ (h : ps.length = 1), ((ps[0]'(by omega)).length ≠ 1 ∨ ∃ (h2 : (ps[0]'(by omega)).length = 1), ((ps[0]'(by omega))[0]'(by omega) ≠ -1 ∨ ps = [[-1]])) := by
      by_cases h1 : ps.length = 1
      · refine .inr ⟨h1, ?_⟩
        match ps, h1 with
        | [p], _ =>
          by_cases h2 : p.length = 1
          · refine .inr ⟨h2, ?_⟩
            match p, h2 with
            | [x], _ =>
              by_cases h3 : x = -1
              · exact .inr (by rw [h3])
              · exact .inl h3
          · exact .inl h2
      · exact .inl h1
    rcases key with h1 | ⟨h1, h2 | ⟨h2, h3 | h3⟩⟩
    · have HNE := Lib.hid (show ps ≠ [[-1]] from fun e => h1 (by rw [e]; rfl))
      have t1 : ((ps.length : Int) == 1) = false := beq_false_of_ne (by omega)
      clear h1
      go_enter Tryz.func74, Tryz.ntmps74
      go_wp2
      go_loop [3] (fun i => ∃ k : Nat, k ≤ ps.length ∧ i = .int .i64 k ∧ (ps.take k).all partB = true) (fun i => ps.length - (intOf i).toNat)
      case atStart => exact ⟨0, Nat.zero_le _, rfl, rfl⟩
      case round =>
        obtain ⟨k, hk, rfl, hall⟩ := hrel
        have HA := Lib.hid hall
        clear hall
        by_cases hlt : k < ps.length
        · obtain ⟨b, o, hA, hb, hcc⟩ := hr (by omega)
          cases hA
          obtain ⟨A', c', hck, hrk⟩ := hcc k hlt
          obtain ⟨n, hn⟩ : ∃ n, (ps[k]'hlt).length = n := ⟨_, rfl⟩
          rw [hn] at hck
          have HN := Lib.hid hn
          clear hn hcc
          by_cases hs : 1 ≤ n ∧ n ≤ 8
          · obtain ⟨n1, n8⟩ := hs
            go_wp2
            go_loop [4] (fun i => ∃ j : Nat, j ≤ n ∧ i = .int .i64 j ∧ ((ps[k]'hlt).take j).all numOk = true) (fun i => n - (intOf i).toNat)
            case atStart => exact ⟨0, Nat.zero_le _, rfl, rfl⟩
            case round =>
              obtain ⟨j, hj, rfl, hall⟩ := hrel
              have HJ := Lib.hid hall
              clear hall
              by_cases hjl : j < n
              · have hjl2 : j < (ps[k]'hlt).length := by rw [HN.out]; exact hjl
                obtain ⟨b2, o2, rfl, hb2, hc2⟩ := hrk.int_at (by omega)
                have hcj := hc2 j hjl2
                obtain ⟨x, hx⟩ : ∃ x, (ps[k]'hlt)[j]'hjl2 = x := ⟨_, rfl⟩
                rw [hx] at hcj
                have HX := Lib.hid hx
                clear hx hc2
                by_cases x0 : x < -1
                · have E := Lib.hid (HQ.out.symm.trans (par_no hlt (part_no hjl2 (by rw [HX.out]; omega))))
                  go_wp2
                  go_ret
                  exact ⟨ret_b E.out.symm, rfl⟩
                · by_cases x1 : 1114111 < x
                  · have E := Lib.hid (HQ.out.symm.trans (par_no hlt (part_no hjl2 (by rw [HX.out]; omega))))
                    go_wp2
                    go_ret
                    exact ⟨ret_b E.out.symm, rfl⟩
                  · have E := Lib.hid (show ((ps[k]'hlt).take (j + 1)).all numOk = true by rw [List.take_succ_eq_append_getElem hjl2, List.all_append, HJ.out, HX.out]; simp [(numOk_iff x).2 ⟨by omega, by omega⟩])
                    go_wp2
                    go_round
                    case rel => exact ⟨j + 1, by omega, by go_num, E.out⟩
                    case measure => simp [intOf]; omega
              · have hP := partB_yes (p := ps[k]'hlt) (by rw [HN.out]; exact n1) (by rw [HN.out]; exact n8) (by have := HJ.out; rwa [List.take_of_length_le (by rw [HN.out]; omega)] at this)
                have E := Lib.hid (show (ps.take (k + 1)).all partB = true by rw [List.take_succ_eq_append_getElem hlt, List.all_append, HA.out]; simp [hP])
                clear hP
                go_wp2
                go_round
                case rel => exact ⟨k + 1, by omega, by go_num, by first | exact E.out | exact List.all_eq_true.1 E.out⟩
                case measure => simp [intOf]; omega
          · have E := Lib.hid (HQ.out.symm.trans (par_no hlt (part_len (by rw [HN.out]; exact hs))))
            by_cases n0 : n < 1
            · clear hs
              go_wp2
              go_ret
              exact ⟨ret_b E.out.symm, rfl⟩
            · have n8 : 8 < n := by omega
              clear hs
              go_wp2
              go_ret
              exact ⟨ret_b E.out.symm, rfl⟩
        · have E := Lib.hid (HQ.out.symm.trans (parOk_yes (by omega) HNE.out (by have := HA.out; rwa [List.take_of_length_le (by omega)] at this)))
          go_wp2
          go_ret
          exact ⟨ret_b E.out.symm, rfl⟩
    · have HNE := Lib.hid (show ps ≠ [[-1]] from fun e => h2 (by subst e; rfl))
      obtain ⟨b0, o0, rfl, hb0, hcc0⟩ := hr (by omega)
      obtain ⟨A0, c0, hc0, _⟩ := hcc0 0 (by omega)
      obtain ⟨n0, hn0⟩ : ∃ n, (ps[0]'(by omega)).length = n := ⟨_, rfl⟩
      rw [hn0] at hc0 h2
      simp only [Nat.add_zero] at hc0
      have t0 : ((ps.length : Int) == 1) = true := beq_iff_eq.2 (by omega)
      have t1 : ((n0 : Int) == 1) = false := beq_false_of_ne (by omega)
      clear h2 hn0 hcc0
      go_enter Tryz.func74, Tryz.ntmps74
      go_wp2
      go_loop [3] (fun i => ∃ k : Nat, k ≤ ps.length ∧ i = .int .i64 k ∧ (ps.take k).all partB = true) (fun i => ps.length - (intOf i).toNat)
      case atStart => exact ⟨0, Nat.zero_le _, rfl, rfl⟩
      case round =>
        obtain ⟨k, hk, rfl, hall⟩ := hrel
        have HA := Lib.hid hall
        clear hall
        by_cases hlt : k < ps.length
        · obtain ⟨b, o, hA, hb, hcc⟩ := hr (by omega)
          cases hA
          obtain ⟨A', c', hck, hrk⟩ := hcc k hlt
          obtain ⟨n, hn⟩ : ∃ n, (ps[k]'hlt).length = n := ⟨_, rfl⟩
          rw [hn] at hck
          have HN := Lib.hid hn
          clear hn hcc
          by_cases hs : 1 ≤ n ∧ n ≤ 8
          · obtain ⟨n1, n8⟩ := hs
            go_wp2
            go_loop [4] (fun i => ∃ j : Nat, j ≤ n ∧ i = .int .i64 j ∧ ((ps[k]'hlt).take j).all numOk = true) (fun i => n - (intOf i).toNat)
            case atStart => exact ⟨0, Nat.zero_le _, rfl, rfl⟩
            case round =>
              obtain ⟨j, hj, rfl, hall⟩ := hrel
              have HJ := Lib.hid hall
              clear hall
              by_cases hjl : j < n
              · have hjl2 : j < (ps[k]'hlt).length := by rw [HN.out]; exact hjl
                obtain ⟨b2, o2, rfl, hb2, hc2⟩ := hrk.int_at (by omega)
                have hcj := hc2 j hjl2
                obtain ⟨x, hx⟩ : ∃ x, (ps[k]'hlt)[j]'hjl2 = x := ⟨_, rfl⟩
                rw [hx] at hcj
                have HX := Lib.hid hx
                clear hx hc2
                by_cases x0 : x < -1
                · have E := Lib.hid (HQ.out.symm.trans (par_no hlt (part_no hjl2 (by rw [HX.out]; omega))))
                  go_wp2
                  go_ret
                  exact ⟨ret_b E.out.symm, rfl⟩
                · by_cases x1 : 1114111 < x
                  · have E := Lib.hid (HQ.out.symm.trans (par_no hlt (part_no hjl2 (by rw [HX.out]; omega))))
                    go_wp2
                    go_ret
                    exact ⟨ret_b E.out.symm, rfl⟩
                  · have E := Lib.hid (show ((ps[k]'hlt).take (j + 1)).all numOk = true by rw [List.take_succ_eq_append_getElem hjl2, List.all_append, HJ.out, HX.out]; simp [(numOk_iff x).2 ⟨by omega, by omega⟩])
                    go_wp2
                    go_round
                    case rel => exact ⟨j + 1, by omega, by go_num, E.out⟩
                    case measure => simp [intOf]; omega
              · have hP := partB_yes (p := ps[k]'hlt) (by rw [HN.out]; exact n1) (by rw [HN.out]; exact n8) (by have := HJ.out; rwa [List.take_of_length_le (by rw [HN.out]; omega)] at this)
                have E := Lib.hid (show (ps.take (k + 1)).all partB = true by rw [List.take_succ_eq_append_getElem hlt, List.all_append, HA.out]; simp [hP])
                clear hP
                go_wp2
                go_round
                case rel => exact ⟨k + 1, by omega, by go_num, by first | exact E.out | exact List.all_eq_true.1 E.out⟩
                case measure => simp [intOf]; omega
          · have E := Lib.hid (HQ.out.symm.trans (par_no hlt (part_len (by rw [HN.out]; exact hs))))
            by_cases n0 : n < 1
            · clear hs
              go_wp2
              go_ret
              exact ⟨ret_b E.out.symm, rfl⟩
            · have n8 : 8 < n := by omega
              clear hs
              go_wp2
              go_ret
              exact ⟨ret_b E.out.symm, rfl⟩
        · have E := Lib.hid (HQ.out.symm.trans (parOk_yes (by omega) HNE.out (by have := HA.out; rwa [List.take_of_length_le (by omega)] at this)))
          go_wp2
          go_ret
          exact ⟨ret_b E.out.symm, rfl⟩
    · have HNE := Lib.hid (show ps ≠ [[-1]] from fun e => h3 (by subst e; rfl))
      obtain ⟨b0, o0, rfl, hb0, hcc0⟩ := hr (by omega)
      obtain ⟨A0, c0, hc0, hr0⟩ := hcc0 0 (by omega)
      obtain ⟨b1, o1, rfl, hb1, hcc1⟩ := hr0.int_at (by omega)
      have hc1 := hcc1 0 (by omega)
      obtain ⟨x, hx⟩ : ∃ x, (ps[0]'(by omega))[0]'(by omega) = x := ⟨_, rfl⟩
      rw [h2] at hc0
      rw [hx] at hc1 h3
      simp only [Nat.add_zero] at hc0 hc1
      have t0 : ((ps.length : Int) == 1) = true := beq_iff_eq.2 (by omega)
      have t1 : (x == -1) = false := beq_false_of_ne h3
      clear h2 h3 hx hcc0 hcc1 hr0
      go_enter Tryz.func74, Tryz.ntmps74
      go_wp2
      go_loop [3] (fun i => ∃ k : Nat, k ≤ ps.length ∧ i = .int .i64 k ∧ (ps.take k).all partB = true) (fun i => ps.length - (intOf i).toNat)
      case atStart => exact ⟨0, Nat.zero_le _, rfl, rfl⟩
      case round =>
        obtain ⟨k, hk, rfl, hall⟩ := hrel
        have HA := Lib.hid hall
        clear hall
        by_cases hlt : k < ps.length
        · obtain ⟨b, o, hA, hb, hcc⟩ := hr (by omega)
          cases hA
          obtain ⟨A', c', hck, hrk⟩ := hcc k hlt
          obtain ⟨n, hn⟩ : ∃ n, (ps[k]'hlt).length = n := ⟨_, rfl⟩
          rw [hn] at hck
          have HN := Lib.hid hn
          clear hn hcc
          by_cases hs : 1 ≤ n ∧ n ≤ 8
          · obtain ⟨n1, n8⟩ := hs
            go_wp2
            go_loop [4] (fun i => ∃ j : Nat, j ≤ n ∧ i = .int .i64 j ∧ ((ps[k]'hlt).take j).all numOk = true) (fun i => n - (intOf i).toNat)
            case atStart => exact ⟨0, Nat.zero_le _, rfl, rfl⟩
            case round =>
              obtain ⟨j, hj, rfl, hall⟩ := hrel
              have HJ := Lib.hid hall
              clear hall
              by_cases hjl : j < n
              · have hjl2 : j < (ps[k]'hlt).length := by rw [HN.out]; exact hjl
                obtain ⟨b2, o2, rfl, hb2, hc2⟩ := hrk.int_at (by omega)
                have hcj := hc2 j hjl2
                obtain ⟨x, hx⟩ : ∃ x, (ps[k]'hlt)[j]'hjl2 = x := ⟨_, rfl⟩
                rw [hx] at hcj
                have HX := Lib.hid hx
                clear hx hc2
                by_cases x0 : x < -1
                · have E := Lib.hid (HQ.out.symm.trans (par_no hlt (part_no hjl2 (by rw [HX.out]; omega))))
                  go_wp2
                  go_ret
                  exact ⟨ret_b E.out.symm, rfl⟩
                · by_cases x1 : 1114111 < x
                  · have E := Lib.hid (HQ.out.symm.trans (par_no hlt (part_no hjl2 (by rw [HX.out]; omega))))
                    go_wp2
                    go_ret
                    exact ⟨ret_b E.out.symm, rfl⟩
                  · have E := Lib.hid (show ((ps[k]'hlt).take (j + 1)).all numOk = true by rw [List.take_succ_eq_append_getElem hjl2, List.all_append, HJ.out, HX.out]; simp [(numOk_iff x).2 ⟨by omega, by omega⟩])
                    go_wp2
                    go_round
                    case rel => exact ⟨j + 1, by omega, by go_num, E.out⟩
                    case measure => simp [intOf]; omega
              · have hP := partB_yes (p := ps[k]'hlt) (by rw [HN.out]; exact n1) (by rw [HN.out]; exact n8) (by have := HJ.out; rwa [List.take_of_length_le (by rw [HN.out]; omega)] at this)
                have E := Lib.hid (show (ps.take (k + 1)).all partB = true by rw [List.take_succ_eq_append_getElem hlt, List.all_append, HA.out]; simp [hP])
                clear hP
                go_wp2
                go_round
                case rel => exact ⟨k + 1, by omega, by go_num, by first | exact E.out | exact List.all_eq_true.1 E.out⟩
                case measure => simp [intOf]; omega
          · have E := Lib.hid (HQ.out.symm.trans (par_no hlt (part_len (by rw [HN.out]; exact hs))))
            by_cases n0 : n < 1
            · clear hs
              go_wp2
              go_ret
              exact ⟨ret_b E.out.symm, rfl⟩
            · have n8 : 8 < n := by omega
              clear hs
              go_wp2
              go_ret
              exact ⟨ret_b E.out.symm, rfl⟩
        · have E := Lib.hid (HQ.out.symm.trans (parOk_yes (by omega) HNE.out (by have := HA.out; rwa [List.take_of_length_le (by omega)] at this)))
          go_wp2
          go_ret
          exact ⟨ret_b E.out.symm, rfl⟩
    · subst h3
      obtain rfl : false = q := HQ.out
      obtain ⟨b0, o0, rfl, hb0, hcc0⟩ := hr (by simp)
      obtain ⟨A0, c0, hc0, hr0⟩ := hcc0 0 (by simp)
      obtain ⟨b1, o1, rfl, hb1, hcc1⟩ := hr0.int_at (by simp)
      have hc1 := hcc1 0 (by simp)
      simp only [Nat.add_zero, List.getElem_cons_zero, List.length_cons, List.length_nil, Nat.zero_add] at hc0 hc1
      clear hcc0 hcc1 hr0
      go_enter Tryz.func74, Tryz.ntmps74
      go_wp2
      go_ret
      exact ⟨rfl, rfl⟩
end Go.Proofs.YtmagokkegadmiaaGreatDoor
namespace Go.Proofs.YtmagokkegadmiaaGreatDoor
open Go.RowKit

set_option maxHeartbeats 1000000 in
theorem rtext_any (k : Nat) : ∀ (n : Int) (w : World), n < k → n ≤ 9223372036854775807 → -9223372036854775808 ≤ n →
    Calls Tryz.prog 78 #[.int .i64 n] w fun e w' => e = .returned (.string ⟨(textL n).toArray⟩) ∧ Below w.heap.size w w' := by
  induction k with
  | zero =>
    intro n w hk h1 h0
    have hn : n < 0 := by omega
    have HE := Lib.hid (textL_neg n hn)
    go_enter Tryz.func78, Tryz.ntmps78
    go_wp2_with fail
    go_ret
    exact ⟨ret_s HE.out.symm, Below.refl _ _⟩
  | succ k ih =>
    intro n w hk h1 h0
    have IH := Lib.hid ih
    clear ih
    by_cases hn : n < 0
    · have HE := Lib.hid (textL_neg n hn)
      go_enter Tryz.func78, Tryz.ntmps78
      go_wp2_with fail
      go_ret
      exact ⟨ret_s HE.out.symm, Below.refl _ _⟩
    · by_cases h10 : n < 10
      · have HE := Lib.hid (textL_small n (by omega) h10)
        have hcv := conv_one (P := Tryz.prog) Tryz.underlying27 Tryz.underlying5 Tryz.underlying9 (48 + n) (by omega) (by omega)
        go_enter Tryz.func78, Tryz.ntmps78
        go_wp2_with fail
        go_ret
        exact ⟨ret_s (by rw [HE.out, show (48 + n).toNat = 48 + n.toNat by omega]), (Below.refl _ _).alloc (Nat.le_refl _) _⟩
      · have HE := Lib.hid (textL_big n (by omega))
        have hcv := conv_one (P := Tryz.prog) Tryz.underlying27 Tryz.underlying5 Tryz.underlying9 (48 + n % 10) (by omega) (by omega)
        go_enter Tryz.func78, Tryz.ntmps78
        go_wp2_with fail
        have b1 : n / 10 < k := by omega
        have b2 : n / 10 ≤ 9223372036854775807 := by omega
        have b4 := textL_length (n / 10) b2
        have b3 : -9223372036854775808 ≤ n / 10 := by omega
        have e1 : IntKind.i64.wrap (n.tdiv 10) = n / 10 := by
          rw [Int.tdiv_eq_ediv_of_nonneg (by omega)]; exact IntWalk.i64_in _ (by omega)
        have e2 : n.tmod 10 = n % 10 := Int.tmod_eq_emod_of_nonneg (by omega)
        have e3 : IntKind.i64.wrap (48 + n % 10) = 48 + n % 10 := IntWalk.i64_in _ (by omega)
        have e4 : IntKind.u8.wrap (48 + n % 10) = 48 + n % 10 := by rw [IntKind.wrap_u8]; omega
        go_region_with (first | (go_at_call 78; refine (IH.out (n / 10) _ b1 b2 b3).mono ?_; rintro e w' ⟨rfl, hb⟩; obtain ⟨hbc, hbf⟩ := below_cells hb))
        all_goals clear e1 e2 e3 e4
        all_goals go_wp2
        all_goals go_ret
        all_goals refine ⟨ret_s (q := textL n) (by rw [HE.out, show (48 + n % 10).toNat = 48 + (n % 10).toNat by omega]), ?_⟩
        all_goals first
          | exact ((Below.refl _ w).drew.trans hb).alloc hb.size _
          | exact (((Below.refl _ w).alloc (Nat.le_refl _) _).drew).trans (hb.mono (by simp))
end Go.Proofs.YtmagokkegadmiaaGreatDoor
namespace Go.Proofs.YtmagokkegadmiaaGreatDoor
open Go.RowKit

def areN (n : Int) : Bool := decide (0 ≤ n) && decide (n ≤ 255)
set_option maxRecDepth 100000 in
theorem are_any (n : Int) (w : World) : Calls Tryz.prog 46 #[.int .i64 n] w fun e w' => e = .returned (.bool (areN n)) ∧ Below w.heap.size w w' := by
  obtain ⟨R, hR⟩ : ∃ R, areN n = R := ⟨_, rfl⟩
  rw [hR]
  have HR := Lib.hid hR
  clear hR
  by_cases h0 : 0 ≤ n
  · by_cases h1 : n ≤ 255
    · have HF := Lib.hid (show true = R by rw [← HR.out]; simp [areN, h0, h1])
      go_enter Tryz.func46, Tryz.ntmps46
      go_wp2_with fail
      go_ret
      exact ⟨ret_b HF.out, Below.refl _ _⟩
    · have HF := Lib.hid (show false = R by rw [← HR.out]; simp [areN, h1])
      go_enter Tryz.func46, Tryz.ntmps46
      go_wp2_with fail
      go_ret
      exact ⟨ret_b HF.out, Below.refl _ _⟩
  · have HF := Lib.hid (show false = R by rw [← HR.out]; simp [areN, h0])
    go_enter Tryz.func46, Tryz.ntmps46
    go_wp2_with fail
    go_ret
    exact ⟨ret_b HF.out, Below.refl _ _⟩
theorem are_at {n : Int} {q : Bool} (h : areN n = q) (w : World) : Calls Tryz.prog 46 #[.int .i64 n] w fun e w' => e = .returned (.bool q) ∧ Below w.heap.size w w' := by
  rw [← h]
  exact are_any n w
end Go.Proofs.YtmagokkegadmiaaGreatDoor
namespace Go.Proofs.YtmagokkegadmiaaGreatDoor
open Go.RowKit

/-- A string made bytes, at whatever world. -/
theorem conv_all (P : Program) (src dst e : TypeId) (t : List UInt8) (hs : P.underlying src = some .string) (hd : P.underlying dst = some (.slice e)) (he : P.underlying e = some (.int .u8)) (hm : t.length ≤ maxLen) :
    ∃ (C : World → Nat) (X : World → World), ∀ W, (convert src dst (.string ⟨t.toArray⟩)).run P W = .ok (.slice (some ⟨W.heap.size, 0, none⟩) t.length (C W)) (X W) ∧ t.length ≤ C W ∧
      Rd (X W) (some ⟨W.heap.size, 0, none⟩) (bs t) ∧ Below W.heap.size W (X W) := by
  refine ⟨fun W => grownCap W t.length 0 e, fun W => W.drew.alloc (.cells (bytesRow ⟨t.toArray⟩ (grownCap W t.length 0 e)) e ((bytesRow ⟨t.toArray⟩ (grownCap W t.length 0 e)).size, (bytesRow ⟨t.toArray⟩ (grownCap W t.length 0 e)).size + 1)), fun W => ⟨?_, grownCap_ge W t.length 0 e, ?_, ?_⟩⟩
  · have := run_bytes_of_string (P := P) W src dst e ⟨t.toArray⟩ hs hd he
    rw [this]
    rfl
  · obtain ⟨v', w', hr, ho, hg⟩ := run_conv (P := P) W 0 src dst e ⟨t.toArray⟩ hs hd he hm (Nat.zero_le _)
    rw [run_bytes_of_string (P := P) W src dst e ⟨t.toArray⟩ hs hd he] at hr
    injection hr with h1 h2
    subst h1
    subst h2
    exact ho.rd
  · exact ((Below.refl _ W).drew).alloc (by simp) _
end Go.Proofs.YtmagokkegadmiaaGreatDoor
