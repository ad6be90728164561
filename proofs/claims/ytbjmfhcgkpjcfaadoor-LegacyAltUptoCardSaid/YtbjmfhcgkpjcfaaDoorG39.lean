/-
  From what a row lists to memory: the table of keys' rows. Layer 3, walked: the program's taker: params. Layer 10, walked: the document's Fold.
-/
import Derived.Test.YtbjmfhcgkpjcfaaDoorG15
import Derived.Test.YtbjmfhcgkpjcfaaDoorG22
import Derived.Test.YtbjmfhcgkpjcfaaDoorG35
import Derived.Test.YtbjmfhcgkpjcfaaDoorG38
import Derived.LaidMore
import Derived.Stop.LaidErr
import Derived.Deep.Slices
import Derived.Deep.Cut
namespace Go.Proofs.YtbjmfhcgkpjcfaaDoor
open Go.RowKit Go.WideShapes Go.ChangeShapes Go.ChangeAt Go.ChangeMaps Go.Deep

/-- A row as what is listed has it. -/
def roD {H : Type} (r : Ro) : DataW H := .agg [.lit (.int .i64 r.first), .lit (.int .i64 r.last), .lit (.int .i64 r.kind), .lit (.string r.finals), (if r.nums = [] then .nil else .slice (r.nums.map fun n => .lit (.int .i64 n)) []), .lit (.string r.chars), .lit (.bool r.keys)]
section
variable {H : Type} {enc : TypeId × Value → H}
theorem nums_of {W : World} {sp : Nat → Bool} {held : Bool} {fuel : Nat} {cs : List Value} {l : List Int} {p : List MemPlace} (h : DataW.trod enc Tryd.prog W 0 sp held fuel 60 cs = some ((if l = [] then .nil else .slice (l.map fun n => .lit (.int .i64 n)) []), p)) :
    ∃ A c, cs = [.slice A l.length c] ∧ Rd W A (is_ l) := by
  by_cases hl : l = []
  · subst hl
    rcases DataW.trod_slice Tryd.underlying60 h with ⟨hc, _⟩ | ⟨a, len, cap, elems, rest, n, _, _, hx, _⟩
    · exact ⟨none, 0, hc, Rd.nil _ _⟩
    · simp at hx
  · rw [if_neg hl] at h
    obtain ⟨a, cap, hcs, _, hd⟩ := open_row Tryd.underlying60 (by kernel_rfl) h
    rw [List.length_map] at hcs
    refine ⟨some a, cap, hcs, fun hp => ?_⟩
    rw [is_length] at hp
    have each : ∀ i (hi : i < l.length), W.cell? (a.add i) = some (.int .i64 l[i]) := fun i hi => by
      obtain ⟨v, n, q, h1, h2⟩ := hd i (.lit (.int .i64 l[i])) (by simp [hi])
      obtain ⟨z, k1, k2, _⟩ := DataW.trod_int Tryd.underlying3 h2
      simp only [List.cons.injEq, and_true] at k1
      simp only [Prod.mk.injEq, DataW.lit.injEq, Lit.int.injEq, true_and] at k2
      rw [h1, k1, k2.1]
    obtain ⟨b, o, s⟩ := a
    have h0 := each 0 hp
    obtain rfl : s = none := by simpa [Addr.add] using World.cell?_spot h0
    rw [addr_add_at, Nat.add_zero] at h0
    refine ⟨b, o, rfl, World.block_lt_of_cell? W _ h0, fun k u hu => ?_⟩
    have hk : k < l.length := by
      have := (List.getElem?_eq_some_iff.1 hu).1
      rwa [is_length] at this
    have := each k hk
    rw [addr_add_at] at this
    rw [this, ← hu]
    simp [is_, hk]
theorem str_of {s : ByteArray} {l : List UInt8} (h : l = s.data.toList) : Value.string s = .string ⟨l.toArray⟩ := by subst h; simp
set_option maxRecDepth 100000 in
theorem ro_in {W : World} {sp : Nat → Bool} {held : Bool} {fuel : Nat} {cs : List Value} {r : Ro} {p : List MemPlace} (h : DataW.trod enc Tryd.prog W 0 sp held fuel 62 cs = some (roD r, p)) :
    ∃ A c, cs = roC r A c ∧ Rd W A (is_ r.nums) := by
  obtain ⟨xs, n, _, hx, hlen, hxl, hf⟩ := DataW.trod_struct Tryd.underlying62 h
  rw [show Tryd.prog.cellsOf 62 = 7 by kernel_rfl] at hlen
  simp only [roD, Prod.mk.injEq, DataW.agg.injEq] at hx
  match cs, hlen with
  | [u0, u1, u2, u3, u4, u5, u6], _ =>
    match xs, hxl with
    | [(y0, z0), (y1, z1), (y2, z2), (y3, z3), (y4, z4), (y5, z5), (y6, z6)], _ =>
      simp only [List.map_cons, List.map_nil, List.cons.injEq, and_true] at hx
      obtain ⟨⟨e0, e1, e2, e3, e4, e5, e6⟩, _⟩ := hx
      subst e0 e1 e2 e3 e4 e5 e6
      have ci : Tryd.prog.cellsOf 3 = 1 := by kernel_rfl
      have cb : Tryd.prog.cellsOf 4 = 1 := by kernel_rfl
      have cp : Tryd.prog.cellsOf 60 = 1 := by kernel_rfl
      have cs : Tryd.prog.cellsOf 9 = 1 := by kernel_rfl
      have g0 : DataW.trod enc Tryd.prog W 0 sp held n 3 (List.take (Tryd.prog.cellsOf 3) (List.drop 0 [u0, u1, u2, u3, u4, u5, u6])) = some (_, z0) := hf 0 _ rfl
      have g1 : DataW.trod enc Tryd.prog W 0 sp held n 3 (List.take (Tryd.prog.cellsOf 3) (List.drop 1 [u0, u1, u2, u3, u4, u5, u6])) = some (_, z1) := hf 1 _ rfl
      have g2 : DataW.trod enc Tryd.prog W 0 sp held n 3 (List.take (Tryd.prog.cellsOf 3) (List.drop 2 [u0, u1, u2, u3, u4, u5, u6])) = some (_, z2) := hf 2 _ rfl
      have g3 : DataW.trod enc Tryd.prog W 0 sp held n 9 (List.take (Tryd.prog.cellsOf 9) (List.drop 3 [u0, u1, u2, u3, u4, u5, u6])) = some (_, z3) := hf 3 _ rfl
      have g4 : DataW.trod enc Tryd.prog W 0 sp held n 60 (List.take (Tryd.prog.cellsOf 60) (List.drop 4 [u0, u1, u2, u3, u4, u5, u6])) = some (_, z4) := hf 4 _ rfl
      have g5 : DataW.trod enc Tryd.prog W 0 sp held n 9 (List.take (Tryd.prog.cellsOf 9) (List.drop 5 [u0, u1, u2, u3, u4, u5, u6])) = some (_, z5) := hf 5 _ rfl
      have g6 : DataW.trod enc Tryd.prog W 0 sp held n 4 (List.take (Tryd.prog.cellsOf 4) (List.drop 6 [u0, u1, u2, u3, u4, u5, u6])) = some (_, z6) := hf 6 _ rfl
      rw [ci] at g0 g1 g2
      rw [cs] at g3 g5
      rw [cp] at g4
      rw [cb] at g6
      obtain ⟨v0, k0, m0, _⟩ := DataW.trod_int Tryd.underlying3 g0
      obtain ⟨v1, k1, m1, _⟩ := DataW.trod_int Tryd.underlying3 g1
      obtain ⟨v2, k2, m2, _⟩ := DataW.trod_int Tryd.underlying3 g2
      obtain ⟨v3, k3, m3, _⟩ := DataW.trod_string Tryd.underlying9 g3
      obtain ⟨A, c, k4, hn⟩ := nums_of g4
      obtain ⟨v5, k5, m5, _⟩ := DataW.trod_string Tryd.underlying9 g5
      obtain ⟨v6, k6, m6⟩ := DataW.trod_bool Tryd.underlying4 g6
      simp at k0 k1 k2 k3 k4 k5 k6
      simp only [Prod.mk.injEq, DataW.lit.injEq, Lit.int.injEq, Lit.string.injEq, Lit.bool.injEq, true_and] at m0 m1 m2 m3 m5 m6
      refine ⟨A, c, ?_, hn⟩
      unfold roC
      rw [k0, k1, k2, k3, k4, k5, k6, m0.1, m1.1, m2.1, m6.1, str_of m3.1, str_of m5.1]
end
theorem rows_datum : (Rows.laid_clavier_keys_rows : DataW Unit) = .slice (roL.map roD) [] := rfl
set_option maxRecDepth 100000 in
theorem rows_of {W : World} {x : String × DataW Unit} {rest : List (String × DataW Unit)} (h : laidMet Tryd.prog (x :: ("clavier/keys.rows", Rows.laid_clavier_keys_rows) :: rest) W) : Rws W := by
  obtain ⟨ps, ⟨g, t, cs, fuel, p, q, hg, ht, hvar, hd, _, _⟩, _⟩ := (show laidMet _ _ _ from h).tail
  obtain rfl := Option.some.inj ((show Tryd.prog.globalNamed "clavier/keys.rows" = some 0 by kernel_rfl).symm.trans hg)
  obtain rfl := Option.some.inj ((show (Tryd.prog.globals[0]?).map (·.type) = some 59 by kernel_rfl).symm.trans ht)
  rw [rows_datum] at hd
  rcases DataW.trod_slice Tryd.underlying59 hd with ⟨_, hx⟩ | ⟨a, len, cap, elems, rest', n, _, hcs, hx, _, hl, _, hlen, hel, _⟩
  · simp at hx
  · rw [show Tryd.prog.cellsOf 62 = 7 by kernel_rfl] at hel
    simp only [Prod.mk.injEq, DataW.slice.injEq] at hx
    obtain ⟨⟨hx, _⟩, _⟩ := hx
    obtain rfl : len = 22 := by rw [← hlen, ← List.length_map (f := (·.1)), ← hx]; rfl
    have each : ∀ k (hk : k < 22), ∃ A c, Rd W A (is_ (roL[k]'hk).nums) ∧ ∀ i u, (roC (roL[k]'hk) A c)[i]? = some u → W.cell? (a.add (k * 7 + i)) = some u := fun k hk => by
      have h1 := hel k hk
      have h2 : elems[k]? = some (elems[k]'(by omega)) := List.getElem?_eq_getElem _
      rw [h2] at h1
      simp only [Option.bind_eq_some_iff] at h1
      obtain ⟨cs7, h3, h4⟩ := h1
      obtain ⟨_, hcl, hat⟩ := World.cells?_some h3
      have h5 : (elems[k]'(by omega)).1 = roD (roL[k]'hk) := by
        have e1 : (elems.map (·.1))[k]? = some (elems[k]'(by omega)).1 := by rw [List.getElem?_map, h2]; rfl
        rw [← hx, List.getElem?_map, List.getElem?_eq_getElem hk] at e1
        simpa using e1.symm
      obtain ⟨A, c, h6, h7⟩ := ro_in (p := (elems[k]'(by omega)).2) (r := roL[k]'hk) (by rw [h4, ← h5])
      refine ⟨A, c, h7, fun i u hu => ?_⟩
      have hi : i < 7 := (List.getElem?_eq_some_iff.1 hu).1
      rw [← Go.Deep.add_add, hat i hi, h6, hu]
    obtain ⟨b, o, s⟩ := a
    obtain ⟨A0, c0, _, h00⟩ := each 0 (by omega)
    have h01 := h00 0 _ rfl
    obtain rfl : s = none := by simpa [Addr.add] using World.cell?_spot h01
    rw [addr_add_at] at h01
    have e : cs = #[.slice (some ⟨b, o, none⟩) 22 cap] := Array.ext' hcs
    subst e
    simp only [World.var?, hg, Option.bind_some] at hvar
    split at hvar
    · rename_i c t' fr hb
      cases hvar
      refine ⟨b, o, cap, t', fr, hb, (Array.getElem?_eq_some_iff.1 hb).1, World.block_lt_of_cell? W _ h01, fun k hk => ?_⟩
      obtain ⟨A, c, h1, h2⟩ := each k hk
      refine ⟨A, c, h1, fun i u hu => ?_⟩
      have := h2 i u hu
      rw [addr_add_at] at this
      rw [Nat.add_assoc]
      exact this
    · cases hvar
end Go.Proofs.YtbjmfhcgkpjcfaaDoor
namespace Go.Proofs.YtbjmfhcgkpjcfaaDoor
open Go.RowKit

theorem Rows.box {w w' : World} {B g : Nat} {A : Option Addr} {c : Nat} {l r : List UInt8} {x0 x1 x2 x3 x4 x5 : Value} {e : TypeId} {xs : List Value} {ps : List (List Int)} (h : Rows w B e xs ps) (hR : Rdr w g A c l x0 x1 x2 x3 x4 x5 r) (hne : e ≠ 66) (hg : w.grownBy w' (some g)) : Rows w' B e xs ps := by
  obtain ⟨_, _, _, _, hb⟩ := hR
  exact h.keep (Nat.le_refl _) fun k _ ⟨cur, fz, hh⟩ => hg.block k (Array.getElem?_eq_some_iff.1 hh).1 (fun e => tag_ne hb hh hne (by injection e))
/-- What params tells. -/
def ParamsPost (g : Nat) (A : Option Addr) (c : Nat) (l r' : List UInt8) (ps : List (List Int)) (x0 x1 x2 x3 x4 x5 : Value) (w : World) (e : Ending) (w' : World) : Prop :=
  (∃ A' c', e = .returned (.slice A' ps.length c') ∧ RdPN g w' A' ps) ∧ Rdr w' g A c l x0 x1 x2 x3 x4 x5 r' ∧ w.grownBy w' (some g)
theorem params_post {g : Nat} {A : Option Addr} {c n c2 : Nat} {l r' : List UInt8} {p : List (List Int)} {x0 x1 x2 x3 x4 x5 : Value} {w w' : World} {A2 : Option Addr} (hn : p.length = n) (h1 : RdPN g w' A2 p) (h2 : Rdr w' g A c l x0 x1 x2 x3 x4 x5 r') (h3 : w.grownBy w' (some g)) :
    ParamsPost g A c l r' p x0 x1 x2 x3 x4 x5 w (.returned (.slice A2 n c2)) w' := ⟨⟨A2, c2, by rw [hn], h1⟩, h2, h3⟩

set_option maxRecDepth 100000 in
set_option maxHeartbeats 8000000 in
theorem params2_any (g : Nat) (A : Option Addr) (c : Nat) (l r r' : List UInt8) (ps : List (List Int)) (x0 x1 x2 x3 x4 x5 : Value) (w : World) (hn : paramsF r = (ps, r')) (hlc : l.length ≤ c) (hl : l.length ≤ 4294967296) (ht : TabIn g w) (h : Rdr w g A c l x0 x1 x2 x3 x4 x5 r) :
    Calls Tryd.prog 47 #[.pointer (some ⟨g, 0, none⟩)] w (ParamsPost g A c l r' ps x0 x1 x2 x3 x4 x5 w) := by
  obtain ⟨j0, hj, hy0, hy1, hy2⟩ : ∃ i, Tryd.prog.info? 60 = some i ∧ i.zero = some (.slice none 0 0) ∧ i.size = 1 ∧ i.bytes = 24 := ⟨_, rfl, rfl, rfl, rfl⟩
  have hlt := h.lt
  obtain ⟨p1, hp1⟩ : ∃ p1, (partsF r).1 = p1 := ⟨_, rfl⟩
  obtain ⟨r1, hr1⟩ : ∃ r1, (partsF r).2 = r1 := ⟨_, rfl⟩
  have HF := Lib.hid (show partsF r = (p1, r1) by rw [← hp1, ← hr1])
  obtain ⟨qs, hqs⟩ : ∃ qs, (paramsGo 15 [p1] r1).1 = qs := ⟨_, rfl⟩
  have HP := Lib.hid (show paramsGo 15 [p1] r1 = (qs, r') by
    have : (paramsF r).2 = r' := by rw [hn]
    rw [← this, ← hqs, ← hp1, ← hr1]; rfl)
  have HQ := Lib.hid (show noneL qs = ps by
    have : (paramsF r).1 = ps := by rw [hn]
    rw [← this, ← hqs, ← hp1, ← hr1]; rfl)
  clear hn hp1 hr1 hqs
  go_enter Tryd.func47, Tryd.ntmps47
  go_wp2_with fail
  refine (parts2_any g A c l r r1 p1 x0 x1 x2 x3 x4 x5 _ HF.out hlc hl ht h).mono ?_
  rintro e w1 ⟨⟨A1, c1, rfl, hri1⟩, h1, hg1⟩
  have ht1 := ht.grown hg1 hlt
  obtain ⟨n1, hn1⟩ : ∃ n1, p1.length = n1 := ⟨_, rfl⟩
  have HN1 := Lib.hid hn1
  rw [hn1]
  clear h ht hn1
  go_wp2_with fail
  have ho1 := own_lit (w1.alloc (.cells #[.slice A1 n1 c1] 60)) w1.heap.size 60 w1.heap.size (.slice A1 n1 c1) (Nat.le_refl _) (heap_alloc_new w1 _)
  have h1' := h1.below ((Below.refl _ w1).alloc (Nat.le_refl _) (.cells #[.slice A1 n1 c1] 60)) h1.lt
  have hg1' : w.grownBy (w1.alloc (.cells #[.slice A1 n1 c1] 60)) (some g) := grown_trans hg1 (World.grownBy_alloc w1 _ _)
  have ht1' := ht1.below (((Below.refl g w1).alloc (Nat.le_of_lt h1.lt) (.cells #[.slice A1 n1 c1] 60)))
  have hws : w.heap.size ≤ w1.heap.size := hg1.size
  have hrs1 : Rows (w1.alloc (.cells #[.slice A1 n1 c1] 60)) w1.heap.size 3 ([] ++ [.slice A1 n1 c1]) ([] ++ [p1]) :=
    Rows.snoc2 ⟨rfl, fun k hk => absurd hk (by simp)⟩ HN1.out.symm (hri1.keep (Nat.le_refl _) (fun q hq _ => Below.heap_alloc w1 _ q hq))
  rw [List.nil_append, List.nil_append] at hrs1
  clear h1 hg1 ht1 hri1 HN1
  go_loopw [3] (fun v wr => ∃ (acc : List (List Int)) (rr : List UInt8) (f B : Nat) (xs : List Value), acc.length + f = 16 ∧ Own wr B 60 1 v acc.length xs ∧ (∃ B2, B2 ≤ wr.heap.size ∧ Rows wr B2 3 xs acc) ∧ Rdr wr g A c l x0 x1 x2 x3 x4 x5 rr ∧ TabIn g wr ∧ w.grownBy wr (some g) ∧ (w.heap.size ≤ B ∧ B ≤ wr.heap.size) ∧ Hid (paramsGo f acc rr = (qs, r'))) (fun v _ => match v with | .slice _ n _ => 16 - n | _ => 0)
  case atStart => exact ⟨[p1], r1, 15, w1.heap.size, _, rfl, ho1, ⟨w1.heap.size, by simp, hrs1⟩, h1', ht1', hg1', ⟨hws, by simp⟩, HP⟩
  case round =>
    obtain ⟨acc, rr, f, B, xs, hf, ho, ⟨B2, hB3, hrs⟩, hR, hT, hG, ⟨hB, hB2⟩, HE⟩ := hrel
    clear ho1 h1' hg1' ht1' HP hrs1
    obtain ⟨n, hn⟩ : ∃ n, acc.length = n := ⟨_, rfl⟩
    rw [hn] at ho hf
    have HN := Lib.hid hn
    clear hn
    obtain ⟨A2, c2, rfl, _⟩ := ho.form
    by_cases h8 : n < 16
    · obtain ⟨f', rfl⟩ : ∃ f', f = f' + 1 := ⟨f - 1, by omega⟩
      cases hs : skipB [59] rr with
      | true =>
        have HS := Lib.hid hs
        clear hs
        obtain ⟨p2, hp2⟩ : ∃ p2, (partsF (rr.drop 1)).1 = p2 := ⟨_, rfl⟩
        obtain ⟨r2, hr2⟩ : ∃ r2, (partsF (rr.drop 1)).2 = r2 := ⟨_, rfl⟩
        have HF2 := Lib.hid (show partsF (rr.drop 1) = (p2, r2) by rw [← hp2, ← hr2])
        have HE2 := Lib.hid (show paramsGo f' (acc ++ [p2]) r2 = (qs, r') by
          have := HE.out
          unfold paramsGo at this
          rw [if_pos HS.out, hp2, hr2] at this
          exact this)
        clear hp2 hr2 HE
        go_wp2_with fail
        refine (skip_yes g A c l [59] rr x0 x1 x2 x3 x4 x5 _ HS.out hlc hl (by simp) hR).mono ?_
        rintro e w2 ⟨rfl, hR2, hG2⟩
        have hT2 := hT.grown hG2 hR.lt
        have ho2 := ho.kept hG2 (.inr (rdr_apart hR ho (by decide)))
        have hrs2 := hrs.box hR (by decide) hG2
        have hG2' := grown_trans hG hG2
        have hs2 := Nat.le_trans hB2 hG2.size
        have hb2s := Nat.le_trans hB3 hG2.size
        clear hR hT ho hG2 hG hrs
        go_wp2_with fail
        refine (parts2_any g A c l (rr.drop 1) r2 p2 x0 x1 x2 x3 x4 x5 _ HF2.out hlc hl hT2 hR2).mono ?_
        rintro e w3 ⟨⟨A3, c3, rfl, hri3⟩, hR3, hG3⟩
        obtain ⟨n3, hn3⟩ : ∃ n3, p2.length = n3 := ⟨_, rfl⟩
        have HN3 := Lib.hid hn3
        rw [hn3]
        clear hn3
        have hT3 := hT2.grown hG3 hR2.lt
        have ho3 := ho2.kept hG3 (.inr (rdr_apart hR2 ho2 (by decide)))
        have hrs3 := hrs2.box hR2 (by decide) hG3
        have hG3' := grown_trans hG2' hG3
        have hs3 := Nat.le_trans hs2 hG3.size
        have hb3s := Nat.le_trans hb2s hG3.size
        clear hR2 hT2 ho2 hG3 hG2' hrs2
        have hown4 := ho3.alloc (.cells #[.slice A3 n3 c3] 60)
        have hR4 := hR3.below ((Below.refl _ w3).alloc (Nat.le_refl _) (.cells #[.slice A3 n3 c3] 60)) hR3.lt
        have hT4 := hT3.below (((Below.refl g w3).alloc (Nat.le_of_lt hR3.lt) (.cells #[.slice A3 n3 c3] 60)))
        have hG4 : w.grownBy (w3.alloc (.cells #[.slice A3 n3 c3] 60)) (some g) := grown_trans hG3' (World.grownBy_alloc w3 _ _)
        have hrd4 : Rd (w3.alloc (.cells #[.slice A3 n3 c3] 60)) (some ⟨w3.heap.size, 0, none⟩) [.slice A3 n3 c3] := Rd.block (heap_alloc_new w3 _) (by simp)
        have hrs4 := ((hrs3.keep (Nat.le_refl B2) (fun q hq _ => Below.heap_alloc w3 (.cells #[.slice A3 n3 c3] 60) q (by omega))).keep (B' := w3.heap.size) hb3s (fun _ _ _ => rfl)).snoc2 HN3.out.symm (c := c3) (hri3.keep (Nat.le_refl _) (fun q hq _ => Below.heap_alloc w3 (.cells #[.slice A3 n3 c3] 60) q hq))
        have h63 : n + 1 ≤ maxLen := by simp only [maxLen]; omega
        have hlim : (n + 1) * 24 ≤ 140737488355328 := by omega
        have hbs4 : B ≤ (w3.alloc (.cells #[.slice A3 n3 c3] 60)).heap.size := by simp; omega
        have hws3 : w3.heap.size ≤ (w3.alloc (.cells #[.slice A3 n3 c3] 60)).heap.size := by simp
        clear hR3 hT3 ho3 hG3' hrs3 hri3
        go_wp2_with (first | (at_builtin; refine list_app _ rfl (.tmp 16) (.tmp 19) 34 rfl B 60 j0 _ 1 24 Tryd.underlying34 hj hy0 hy1 hy2 rfl Nat.one_pos _ _ _ rfl hown4 _ 1 1 [.slice A3 n3 c3] rfl rfl hrd4 (sl_one _ _ _) h63 hlim hbs4 ?_; intro v5 w5 hown5 hg5))
        have hR5 := hR4.app hown4 (by omega) (by decide) hg5
        have hT5 := hT4.app hown4 (by omega) (Nat.le_of_lt hR4.lt) hg5
        have hG5 := grown_own hG4 hown4 hB hg5
        have hrs5 := hrs4.keep (B' := w3.heap.size) (Nat.le_refl _) (keep_out hown4 (by decide) hg5)
        have hnn := HN.out
        obtain ⟨A5, c5, rfl, _⟩ := hown5.form
        have HL5 := Lib.hid (show (acc ++ [p2]).length = n + 1 by rw [List.length_append, hnn]; rfl)
        have hs5 : B ≤ w5.heap.size := Nat.le_trans hbs4 hg5.size
        have hs6 : w3.heap.size ≤ w5.heap.size := Nat.le_trans hws3 hg5.size
        clear hnn hg5 hown4 hR4 hT4 hG4 hrd4 hrs4
        go_wp2_with fail
        go_roundw
        case rel => exact ⟨acc ++ [p2], r2, f', B, _, by rw [HL5.out]; omega, by rw [HL5.out]; exact hown5, ⟨w3.heap.size, hs6, hrs5⟩, hR5, hT5, hG5, ⟨hB, hs5⟩, HE2⟩
        case measure => simp; omega
      | false =>
        have HS := Lib.hid hs
        clear hs
        have hE := HE.out
        unfold paramsGo at hE
        rw [if_neg (by rw [HS.out]; simp)] at hE
        injection hE with e1 e2
        subst e1
        subst e2
        clear HE
        go_wp2_with fail
        refine (skip_no g A c l [59] rr x0 x1 x2 x3 x4 x5 _ HS.out hlc hl (by simp) hR).mono ?_
        rintro e w2 ⟨rfl, hR2, hG2⟩
        have ho2 := ho.kept hG2 (.inr (rdr_apart hR ho (by decide)))
        have hrs2 := hrs.box hR (by decide) hG2
        have hG2' := grown_trans hG hG2
        have hR2b := hR2
        obtain ⟨_, _, _, _, hblk2⟩ := hR2b
        obtain ⟨A3, c3, h3, hrow⟩ := hrs2.rdpn ho2 hblk2 (by decide) (by decide)
        cases h3
        clear hblk2
        cases hq : decide (acc = [[-1]]) with
        | true =>
          have HQQ := Lib.hid hq
          have hps := HQ.out
          unfold noneL at hps
          rw [if_pos (of_decide_eq_true hq)] at hps
          subst hps
          clear hq
          go_wp2_with fail
          refine (isNone_any A2 n c2 acc true _ HN.out HQQ.out (by omega) hrow.rdp).mono ?_
          rintro e w3 ⟨rfl, rfl⟩
          go_wp2_with fail
          go_ret
          exact params_post rfl (RdPN.nil _ _ _) hR2 hG2'
        | false =>
          have HQQ := Lib.hid hq
          have hps := HQ.out
          unfold noneL at hps
          rw [if_neg (of_decide_eq_false hq)] at hps
          subst hps
          clear hq
          go_wp2_with fail
          refine (isNone_any A2 n c2 acc false _ HN.out HQQ.out (by omega) hrow.rdp).mono ?_
          rintro e w3 ⟨rfl, rfl⟩
          go_wp2_with fail
          go_ret
          exact params_post HN.out hrow hR2 hG2'
    · have h8' : 16 ≤ n := by omega
      obtain rfl : f = 0 := by omega
      have hE := HE.out
      unfold paramsGo at hE
      injection hE with e1 e2
      subst e1
      subst e2
      clear HE h8
      have hR2b := hR
      obtain ⟨_, _, _, _, hblk2⟩ := hR2b
      obtain ⟨A3, c3, h3, hrow⟩ := hrs.rdpn ho hblk2 (by decide) (by decide)
      cases h3
      clear hblk2
      cases hq : decide (acc = [[-1]]) with
      | true =>
        exfalso
        have := congrArg List.length (of_decide_eq_true hq)
        rw [HN.out] at this
        simp at this
        omega
      | false =>
        have HQQ := Lib.hid hq
        have hps := HQ.out
        unfold noneL at hps
        rw [if_neg (of_decide_eq_false hq)] at hps
        subst hps
        clear hq
        go_wp2_with fail
        refine (isNone_any A2 n c2 acc false _ HN.out HQQ.out (by omega) hrow.rdp).mono ?_
        rintro e w3 ⟨rfl, rfl⟩
        go_wp2_with fail
        go_ret
        exact params_post HN.out hrow hR hG
end Go.Proofs.YtbjmfhcgkpjcfaaDoor
namespace Go.Proofs.YtbjmfhcgkpjcfaaDoor
open Go.RowKit

set_option maxRecDepth 100000 in
set_option maxHeartbeats 4000000 in
theorem rfold_any (c : Int) (w : World) : Calls Tryd.prog 13 #[.int .i64 c] w fun e w' => e = .returned (.tuple #[.int .i64 (foldN c).1, .bool (foldN c).2]) ∧ Below w.heap.size w w' := by
  have hcut : (c ≤ 31) ∨ (32 ≤ c ∧ c ≤ 32) ∨ (33 ≤ c ∧ c ≤ 46) ∨ (47 ≤ c ∧ c ≤ 47) ∨ (48 ≤ c ∧ c ≤ 49) ∨ (50 ≤ c ∧ c ≤ 50) ∨ (51 ≤ c ∧ c ≤ 55) ∨ (56 ≤ c ∧ c ≤ 56) ∨ (57 ≤ c ∧ c ≤ 62) ∨ (63 ≤ c ∧ c ≤ 63) ∨ (64 ≤ c ∧ c ≤ 64) ∨ (65 ≤ c ∧ c ≤ 95) ∨ (96 ≤ c ∧ c ≤ 96) ∨ (97 ≤ c ∧ c ≤ 122) ∨ (123 ≤ c) := by omega
  rcases hcut with h | h | h | h | h | h | h | h | h | h | h | h | h | h | h
  · have HE := Lib.hid (show foldN c = (0, false) by unfold foldN; (repeat' split) <;> first | rfl | (exfalso; omega))
    rw [HE.out]
    have e32 : (c == 32) = false := by simp; omega
    have e50 : (c == 50) = false := by simp; omega
    have e64 : (c == 64) = false := by simp; omega
    have e47 : (c == 47) = false := by simp; omega
    have e56 : (c == 56) = false := by simp; omega
    have e63 : (c == 63) = false := by simp; omega
    have l97 : c < 97 := by omega
    have l122 : c ≤ 122 := by omega
    have l65 : c < 65 := by omega
    have l95 : c ≤ 95 := by omega
    have l51 : c < 51 := by omega
    have l55 : c ≤ 55 := by omega
    clear HE h
    go_enter Tryd.func13, Tryd.ntmps13
    go_wp2
    go_ret2
    exact ⟨rfl, by first | exact Below.refl _ _ | exact below_drewN (Below.refl _ _) _⟩
  · have HE := Lib.hid (show foldN c = (0, true) by unfold foldN; (repeat' split) <;> first | rfl | (exfalso; omega))
    rw [HE.out]
    obtain rfl : c = 32 := by omega
    clear HE h
    go_enter Tryd.func13, Tryd.ntmps13
    go_wp2
    go_ret2
    exact ⟨rfl, by first | exact Below.refl _ _ | exact below_drewN (Below.refl _ _) _⟩
  · have HE := Lib.hid (show foldN c = (0, false) by unfold foldN; (repeat' split) <;> first | rfl | (exfalso; omega))
    rw [HE.out]
    have e32 : (c == 32) = false := by simp; omega
    have e50 : (c == 50) = false := by simp; omega
    have e64 : (c == 64) = false := by simp; omega
    have e47 : (c == 47) = false := by simp; omega
    have e56 : (c == 56) = false := by simp; omega
    have e63 : (c == 63) = false := by simp; omega
    have l97 : c < 97 := by omega
    have l122 : c ≤ 122 := by omega
    have l65 : c < 65 := by omega
    have l95 : c ≤ 95 := by omega
    have l51 : c < 51 := by omega
    have l55 : c ≤ 55 := by omega
    clear HE h
    go_enter Tryd.func13, Tryd.ntmps13
    go_wp2
    go_ret2
    exact ⟨rfl, by first | exact Below.refl _ _ | exact below_drewN (Below.refl _ _) _⟩
  · have HE := Lib.hid (show foldN c = (31, true) by unfold foldN; (repeat' split) <;> first | rfl | (exfalso; omega))
    rw [HE.out]
    obtain rfl : c = 47 := by omega
    clear HE h
    go_enter Tryd.func13, Tryd.ntmps13
    go_wp2
    go_ret2
    exact ⟨rfl, by first | exact Below.refl _ _ | exact below_drewN (Below.refl _ _) _⟩
  · have HE := Lib.hid (show foldN c = (0, false) by unfold foldN; (repeat' split) <;> first | rfl | (exfalso; omega))
    rw [HE.out]
    have e32 : (c == 32) = false := by simp; omega
    have e50 : (c == 50) = false := by simp; omega
    have e64 : (c == 64) = false := by simp; omega
    have e47 : (c == 47) = false := by simp; omega
    have e56 : (c == 56) = false := by simp; omega
    have e63 : (c == 63) = false := by simp; omega
    have l97 : c < 97 := by omega
    have l122 : c ≤ 122 := by omega
    have l65 : c < 65 := by omega
    have l95 : c ≤ 95 := by omega
    have l51 : c < 51 := by omega
    have l55 : c ≤ 55 := by omega
    clear HE h
    go_enter Tryd.func13, Tryd.ntmps13
    go_wp2
    go_ret2
    exact ⟨rfl, by first | exact Below.refl _ _ | exact below_drewN (Below.refl _ _) _⟩
  · have HE := Lib.hid (show foldN c = (0, true) by unfold foldN; (repeat' split) <;> first | rfl | (exfalso; omega))
    rw [HE.out]
    obtain rfl : c = 50 := by omega
    clear HE h
    go_enter Tryd.func13, Tryd.ntmps13
    go_wp2
    go_ret2
    exact ⟨rfl, by first | exact Below.refl _ _ | exact below_drewN (Below.refl _ _) _⟩
  · have HE := Lib.hid (show foldN c = (27 + c - 51, true) by unfold foldN; (repeat' split) <;> first | rfl | (exfalso; omega))
    rw [HE.out]
    have e32 : (c == 32) = false := by simp; omega
    have e50 : (c == 50) = false := by simp; omega
    have e64 : (c == 64) = false := by simp; omega
    have e47 : (c == 47) = false := by simp; omega
    have e56 : (c == 56) = false := by simp; omega
    have e63 : (c == 63) = false := by simp; omega
    have l97 : c < 97 := by omega
    have l122 : c ≤ 122 := by omega
    have l65 : c < 65 := by omega
    have l95 : c ≤ 95 := by omega
    have l51 : 51 ≤ c := by omega
    have l55 : c ≤ 55 := by omega
    clear HE h
    go_enter Tryd.func13, Tryd.ntmps13
    go_wp2
    go_ret2
    exact ⟨rfl, by first | exact Below.refl _ _ | exact below_drewN (Below.refl _ _) _⟩
  · have HE := Lib.hid (show foldN c = (127, true) by unfold foldN; (repeat' split) <;> first | rfl | (exfalso; omega))
    rw [HE.out]
    obtain rfl : c = 56 := by omega
    clear HE h
    go_enter Tryd.func13, Tryd.ntmps13
    go_wp2
    go_ret2
    exact ⟨rfl, by first | exact Below.refl _ _ | exact below_drewN (Below.refl _ _) _⟩
  · have HE := Lib.hid (show foldN c = (0, false) by unfold foldN; (repeat' split) <;> first | rfl | (exfalso; omega))
    rw [HE.out]
    have e32 : (c == 32) = false := by simp; omega
    have e50 : (c == 50) = false := by simp; omega
    have e64 : (c == 64) = false := by simp; omega
    have e47 : (c == 47) = false := by simp; omega
    have e56 : (c == 56) = false := by simp; omega
    have e63 : (c == 63) = false := by simp; omega
    have l97 : c < 97 := by omega
    have l122 : c ≤ 122 := by omega
    have l65 : c < 65 := by omega
    have l95 : c ≤ 95 := by omega
    have l51 : 51 ≤ c := by omega
    have l55 : 55 < c := by omega
    clear HE h
    go_enter Tryd.func13, Tryd.ntmps13
    go_wp2
    go_ret2
    exact ⟨rfl, by first | exact Below.refl _ _ | exact below_drewN (Below.refl _ _) _⟩
  · have HE := Lib.hid (show foldN c = (127, true) by unfold foldN; (repeat' split) <;> first | rfl | (exfalso; omega))
    rw [HE.out]
    obtain rfl : c = 63 := by omega
    clear HE h
    go_enter Tryd.func13, Tryd.ntmps13
    go_wp2
    go_ret2
    exact ⟨rfl, by first | exact Below.refl _ _ | exact below_drewN (Below.refl _ _) _⟩
  · have HE := Lib.hid (show foldN c = (0, true) by unfold foldN; (repeat' split) <;> first | rfl | (exfalso; omega))
    rw [HE.out]
    obtain rfl : c = 64 := by omega
    clear HE h
    go_enter Tryd.func13, Tryd.ntmps13
    go_wp2
    go_ret2
    exact ⟨rfl, by first | exact Below.refl _ _ | exact below_drewN (Below.refl _ _) _⟩
  · have HE := Lib.hid (show foldN c = (c - 64, true) by unfold foldN; (repeat' split) <;> first | rfl | (exfalso; omega))
    rw [HE.out]
    have e32 : (c == 32) = false := by simp; omega
    have e50 : (c == 50) = false := by simp; omega
    have e64 : (c == 64) = false := by simp; omega
    have e47 : (c == 47) = false := by simp; omega
    have e56 : (c == 56) = false := by simp; omega
    have e63 : (c == 63) = false := by simp; omega
    have l97 : c < 97 := by omega
    have l122 : c ≤ 122 := by omega
    have l65 : 65 ≤ c := by omega
    have l95 : c ≤ 95 := by omega
    have l51 : 51 ≤ c := by omega
    have l55 : 55 < c := by omega
    clear HE h
    go_enter Tryd.func13, Tryd.ntmps13
    go_wp2
    go_ret2
    exact ⟨rfl, by first | exact Below.refl _ _ | exact below_drewN (Below.refl _ _) _⟩
  · have HE := Lib.hid (show foldN c = (0, false) by unfold foldN; (repeat' split) <;> first | rfl | (exfalso; omega))
    rw [HE.out]
    obtain rfl : c = 96 := by omega
    clear HE h
    go_enter Tryd.func13, Tryd.ntmps13
    go_wp2
    go_ret2
    exact ⟨rfl, by first | exact Below.refl _ _ | exact below_drewN (Below.refl _ _) _⟩
  · have HE := Lib.hid (show foldN c = (c - 96, true) by unfold foldN; (repeat' split) <;> first | rfl | (exfalso; omega))
    rw [HE.out]
    have e32 : (c == 32) = false := by simp; omega
    have e50 : (c == 50) = false := by simp; omega
    have e64 : (c == 64) = false := by simp; omega
    have e47 : (c == 47) = false := by simp; omega
    have e56 : (c == 56) = false := by simp; omega
    have e63 : (c == 63) = false := by simp; omega
    have l97 : 97 ≤ c := by omega
    have l122 : c ≤ 122 := by omega
    have l65 : 65 ≤ c := by omega
    have l95 : 95 < c := by omega
    have l51 : 51 ≤ c := by omega
    have l55 : 55 < c := by omega
    clear HE h
    go_enter Tryd.func13, Tryd.ntmps13
    go_wp2
    go_ret2
    exact ⟨rfl, by first | exact Below.refl _ _ | exact below_drewN (Below.refl _ _) _⟩
  · have HE := Lib.hid (show foldN c = (0, false) by unfold foldN; (repeat' split) <;> first | rfl | (exfalso; omega))
    rw [HE.out]
    have e32 : (c == 32) = false := by simp; omega
    have e50 : (c == 50) = false := by simp; omega
    have e64 : (c == 64) = false := by simp; omega
    have e47 : (c == 47) = false := by simp; omega
    have e56 : (c == 56) = false := by simp; omega
    have e63 : (c == 63) = false := by simp; omega
    have l97 : 97 ≤ c := by omega
    have l122 : 122 < c := by omega
    have l65 : 65 ≤ c := by omega
    have l95 : 95 < c := by omega
    have l51 : 51 ≤ c := by omega
    have l55 : 55 < c := by omega
    clear HE h
    go_enter Tryd.func13, Tryd.ntmps13
    go_wp2
    go_ret2
    exact ⟨rfl, by first | exact Below.refl _ _ | exact below_drewN (Below.refl _ _) _⟩
end Go.Proofs.YtbjmfhcgkpjcfaaDoor
