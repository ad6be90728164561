/-
  From what a row lists to memory: the table of keys' rows.
-/
import Derived.Test.YtdhpbihooeckoaaDoorSizL
import Derived.Test.YtdhpbihooeckoaaDoorKoR
import Derived.LaidMore
import Derived.Stop.LaidErr
import Derived.Deep.Slices
namespace Go.Proofs.YtdhpbihooeckoaaDoor
open Go.RowKit Go.WideShapes Go.ChangeShapes Go.ChangeAt Go.ChangeMaps Go.Deep

/-- A row as what is listed has it. -/
def roD {H : Type} (r : Ro) : DataW H := .agg [.lit (.int .i64 r.first), .lit (.int .i64 r.last), .lit (.int .i64 r.kind), .lit (.string r.finals), (if r.nums = [] then .nil else .slice (r.nums.map fun n => .lit (.int .i64 n)) []), .lit (.string r.chars), .lit (.bool r.keys)]
section
variable {H : Type} {enc : TypeId × Value → H}
theorem nums_of {W : World} {sp : Nat → Bool} {held : Bool} {fuel : Nat} {cs : List Value} {l : List Int} {p : List MemPlace} (h : DataW.trod enc Tryd.prog W 0 sp held fuel 43 cs = some ((if l = [] then .nil else .slice (l.map fun n => .lit (.int .i64 n)) []), p)) :
    ∃ A c, cs = [.slice A l.length c] ∧ Rd W A (is_ l) := by
  by_cases hl : l = []
  · subst hl
    rcases DataW.trod_slice Tryd.underlying43 h with ⟨hc, _⟩ | ⟨a, len, cap, elems, rest, n, _, _, hx, _⟩
    · exact ⟨none, 0, hc, Rd.nil _ _⟩
    · simp at hx
  · rw [if_neg hl] at h
    obtain ⟨a, cap, hcs, _, hd⟩ := open_row Tryd.underlying43 (by kernel_rfl) h
    rw [List.length_map] at hcs
    refine ⟨some a, cap, hcs, fun hp => ?_⟩
    rw [is_length] at hp
    have each : ∀ i (hi : i < l.length), W.cell? (a.add i) = some (.int .i64 l[i]) := fun i hi => by
      obtain ⟨v, n, q, h1, h2⟩ := hd i (.lit (.int .i64 l[i])) (by simp [hi])
      obtain ⟨z, k1, k2, _⟩ := DataW.trod_int Tryd.underlying3 h2
      simp only [List.cons.injEq, and_true] at k1
      simp only [Prod.mk.injEq, DataW.lit.injEq, Lit.int.injEq, true_and] at k2
      rw [h1, k1, k2.1]
    obtain ⟨b, o, s⟩ := a
    have h0 := each 0 hp
    obtain rfl : s = none := by simpa [Addr.add] using World.cell?_spot h0
    rw [addr_add_at, Nat.add_zero] at h0
    refine ⟨b, o, rfl, World.block_lt_of_cell? W _ h0, fun k u hu => ?_⟩
    have hk : k < l.length := by
      have := (List.getElem?_eq_some_iff.1 hu).1
      rwa [is_length] at this
    have := each k hk
    rw [addr_add_at] at this
    rw [this, ← hu]
    simp [is_, hk]
theorem str_of {s : ByteArray} {l : List UInt8} (h : l = s.data.toList) : Value.string s = .string ⟨l.toArray⟩ := by subst h; simp
set_option maxRecDepth 100000 in
theorem ro_in {W : World} {sp : Nat → Bool} {held : Bool} {fuel : Nat} {cs : List Value} {r : Ro} {p : List MemPlace} (h : DataW.trod enc Tryd.prog W 0 sp held fuel 45 cs = some (roD r, p)) :
    ∃ A c, cs = roC r A c ∧ Rd W A (is_ r.nums) := by
  obtain ⟨xs, n, _, hx, hlen, hxl, hf⟩ := DataW.trod_struct Tryd.underlying45 h
  rw [show Tryd.prog.cellsOf 45 = 7 by kernel_rfl] at hlen
  simp only [roD, Prod.mk.injEq, DataW.agg.injEq] at hx
  match cs, hlen with
  | [u0, u1, u2, u3, u4, u5, u6], _ =>
    match xs, hxl with
    | [(y0, z0), (y1, z1), (y2, z2), (y3, z3), (y4, z4), (y5, z5), (y6, z6)], _ =>
      simp only [List.map_cons, List.map_nil, List.cons.injEq, and_true] at hx
      obtain ⟨⟨e0, e1, e2, e3, e4, e5, e6⟩, _⟩ := hx
      subst e0 e1 e2 e3 e4 e5 e6
      have ci : Tryd.prog.cellsOf 3 = 1 := by kernel_rfl
      have cb : Tryd.prog.cellsOf 4 = 1 := by kernel_rfl
      have cp : Tryd.prog.cellsOf 43 = 1 := by kernel_rfl
      have cs : Tryd.prog.cellsOf 9 = 1 := by kernel_rfl
      have g0 : DataW.trod enc Tryd.prog W 0 sp held n 3 (List.take (Tryd.prog.cellsOf 3) (List.drop 0 [u0, u1, u2, u3, u4, u5, u6])) = some (_, z0) := hf 0 _ rfl
      have g1 : DataW.trod enc Tryd.prog W 0 sp held n 3 (List.take (Tryd.prog.cellsOf 3) (List.drop 1 [u0, u1, u2, u3, u4, u5, u6])) = some (_, z1) := hf 1 _ rfl
      have g2 : DataW.trod enc Tryd.prog W 0 sp held n 3 (List.take (Tryd.prog.cellsOf 3) (List.drop 2 [u0, u1, u2, u3, u4, u5, u6])) = some (_, z2) := hf 2 _ rfl
      have g3 : DataW.trod enc Tryd.prog W 0 sp held n 9 (List.take (Tryd.prog.cellsOf 9) (List.drop 3 [u0, u1, u2, u3, u4, u5, u6])) = some (_, z3) := hf 3 _ rfl
      have g4 : DataW.trod enc Tryd.prog W 0 sp held n 43 (List.take (Tryd.prog.cellsOf 43) (List.drop 4 [u0, u1, u2, u3, u4, u5, u6])) = some (_, z4) := hf 4 _ rfl
      have g5 : DataW.trod enc Tryd.prog W 0 sp held n 9 (List.take (Tryd.prog.cellsOf 9) (List.drop 5 [u0, u1, u2, u3, u4, u5, u6])) = some (_, z5) := hf 5 _ rfl
      have g6 : DataW.trod enc Tryd.prog W 0 sp held n 4 (List.take (Tryd.prog.cellsOf 4) (List.drop 6 [u0, u1, u2, u3, u4, u5, u6])) = some (_, z6) := hf 6 _ rfl
      rw [ci] at g0 g1 g2
      rw [cs] at g3 g5
      rw [cp] at g4
      rw [cb] at g6
      obtain ⟨v0, k0, m0, _⟩ := DataW.trod_int Tryd.underlying3 g0
      obtain ⟨v1, k1, m1, _⟩ := DataW.trod_int Tryd.underlying3 g1
      obtain ⟨v2, k2, m2, _⟩ := DataW.trod_int Tryd.underlying3 g2
      obtain ⟨v3, k3, m3, _⟩ := DataW.trod_string Tryd.underlying9 g3
      obtain ⟨A, c, k4, hn⟩ := nums_of g4
      obtain ⟨v5, k5, m5, _⟩ := DataW.trod_string Tryd.underlying9 g5
      obtain ⟨v6, k6, m6⟩ := DataW.trod_bool Tryd.underlying4 g6
      simp at k0 k1 k2 k3 k4 k5 k6
      simp only [Prod.mk.injEq, DataW.lit.injEq, Lit.int.injEq, Lit.string.injEq, Lit.bool.injEq, true_and] at m0 m1 m2 m3 m5 m6
      refine ⟨A, c, ?_, hn⟩
      unfold roC
      rw [k0, k1, k2, k3, k4, k5, k6, m0.1, m1.1, m2.1, m6.1, str_of m3.1, str_of m5.1]
end
theorem rows_datum : (Rows.laid_clavier_keys_rows : DataW Unit) = .slice (roL.map roD) [] := rfl
set_option maxRecDepth 100000 in
theorem rows_of {W : World} {x : String × DataW Unit} {rest : List (String × DataW Unit)} (h : laidMet Tryd.prog (x :: ("clavier/keys.rows", Rows.laid_clavier_keys_rows) :: rest) W) : Rws W := by
  obtain ⟨ps, ⟨g, t, cs, fuel, p, q, hg, ht, hvar, hd, _, _⟩, _⟩ := (show laidMet _ _ _ from h).tail
  obtain rfl := Option.some.inj ((show Tryd.prog.globalNamed "clavier/keys.rows" = some 0 by kernel_rfl).symm.trans hg)
  obtain rfl := Option.some.inj ((show (Tryd.prog.globals[0]?).map (·.type) = some 42 by kernel_rfl).symm.trans ht)
  rw [rows_datum] at hd
  rcases DataW.trod_slice Tryd.underlying42 hd with ⟨_, hx⟩ | ⟨a, len, cap, elems, rest', n, _, hcs, hx, _, hl, _, hlen, hel, _⟩
  · simp at hx
  · rw [show Tryd.prog.cellsOf 45 = 7 by kernel_rfl] at hel
    simp only [Prod.mk.injEq, DataW.slice.injEq] at hx
    obtain ⟨⟨hx, _⟩, _⟩ := hx
    obtain rfl : len = 22 := by rw [← hlen, ← List.length_map (f := (·.1)), ← hx]; rfl
    have each : ∀ k (hk : k < 22), ∃ A c, Rd W A (is_ (roL[k]'hk).nums) ∧ ∀ i u, (roC (roL[k]'hk) A c)[i]? = some u → W.cell? (a.add (k * 7 + i)) = some u := fun k hk => by
      have h1 := hel k hk
      have h2 : elems[k]? = some (elems[k]'(by omega)) := List.getElem?_eq_getElem _
      rw [h2] at h1
      simp only [Option.bind_eq_some_iff] at h1
      obtain ⟨cs7, h3, h4⟩ := h1
      obtain ⟨_, hcl, hat⟩ := World.cells?_some h3
      have h5 : (elems[k]'(by omega)).1 = roD (roL[k]'hk) := by
        have e1 : (elems.map (·.1))[k]? = some (elems[k]'(by omega)).1 := by rw [List.getElem?_map, h2]; rfl
        rw [← hx, List.getElem?_map, List.getElem?_eq_getElem hk] at e1
        simpa using e1.symm
      obtain ⟨A, c, h6, h7⟩ := ro_in (p := (elems[k]'(by omega)).2) (r := roL[k]'hk) (by rw [h4, ← h5])
      refine ⟨A, c, h7, fun i u hu => ?_⟩
      have hi : i < 7 := (List.getElem?_eq_some_iff.1 hu).1
      rw [← Go.Deep.add_add, hat i hi, h6, hu]
    obtain ⟨b, o, s⟩ := a
    obtain ⟨A0, c0, _, h00⟩ := each 0 (by omega)
    have h01 := h00 0 _ rfl
    obtain rfl : s = none := by simpa [Addr.add] using World.cell?_spot h01
    rw [addr_add_at] at h01
    have e : cs = #[.slice (some ⟨b, o, none⟩) 22 cap] := Array.ext' hcs
    subst e
    simp only [World.var?, hg, Option.bind_some] at hvar
    split at hvar
    · rename_i c t' fr hb
      cases hvar
      refine ⟨b, o, cap, t', fr, hb, (Array.getElem?_eq_some_iff.1 hb).1, World.block_lt_of_cell? W _ h01, fun k hk => ?_⟩
      obtain ⟨A, c, h1, h2⟩ := each k hk
      refine ⟨A, c, h1, fun i u hu => ?_⟩
      have := h2 i u hu
      rw [addr_add_at] at this
      rw [Nat.add_assoc]
      exact this
    · cases hvar
end Go.Proofs.YtdhpbihooeckoaaDoor
