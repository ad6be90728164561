/-
  Stage 20, the landed caps, walked: names, Look.
-/
import Derived.Test.YtkkjahhilcjpgaaDoorG04
import Derived.Test.YtkkjahhilcjpgaaDoorG13
import Derived.Test.YtkkjahhilcjpgaaDoorG18
import Derived.StringKeys
namespace Go.Proofs.YtkkjahhilcjpgaaDoor
open Go.RowKit Go.Maps
def capsD : DataW Value := (((((((((((((((((((((((((.map [] : DataW Value)).put (.string [84, 78]) (.held (.agg #[.string ⟨#[99, 108, 97, 118, 105, 101, 114]⟩])))).put (.string [110, 97, 109, 101]) (.held (.agg #[.string ⟨#[99, 108, 97, 118, 105, 101, 114]⟩])))).put (.string [67, 111]) (.held (.agg #[.string ⟨#[50, 53, 54]⟩])))).put (.string [99, 111, 108, 111, 114, 115]) (.held (.agg #[.string ⟨#[50, 53, 54]⟩])))).put (.string [82, 71, 66]) (.held (.agg #[.string ⟨#[56]⟩])))).put (.string [107, 99, 117, 117, 49]) (.held (.agg #[.string ⟨#[27, 79, 65]⟩])))).put (.string [107, 99, 117, 100, 49]) (.held (.agg #[.string ⟨#[27, 79, 66]⟩])))).put (.string [107, 99, 117, 102, 49]) (.held (.agg #[.string ⟨#[27, 79, 67]⟩])))).put (.string [107, 99, 117, 98, 49]) (.held (.agg #[.string ⟨#[27, 79, 68]⟩])))).put (.string [107, 98, 115]) (.held (.agg #[.string ⟨#[127]⟩])))).put (.string [107, 102, 49]) (.held (.agg #[.string ⟨#[27, 79, 80]⟩])))).put (.string [107, 100, 99, 104, 49]) (.held (.agg #[.string ⟨#[27, 91, 51, 126]⟩])))
def capV (n : List UInt8) : List UInt8 := (lookC n).getD []
theorem capsD_at (n : List UInt8) : capsD.atKey (.string n) (.held (.agg #[.string ⟨#[]⟩])) = .held (.agg #[.string ⟨(capV n).toArray⟩]) ∧ Maps.has capsD (.string n) = (lookC n).isSome := by
 have hne : ∀ {l : List UInt8}, n ≠ l → (Lit.string n) ≠ .string l := fun h e => h (by injection e)
 by_cases h0 : n = [84, 78]
 ·subst h0
  exact ⟨by kernel_rfl, by kernel_rfl⟩
 by_cases h1 : n = [110, 97, 109, 101]
 ·subst h1
  exact ⟨by kernel_rfl, by kernel_rfl⟩
 by_cases h2 : n = [67, 111]
 ·subst h2
  exact ⟨by kernel_rfl, by kernel_rfl⟩
 by_cases h3 : n = [99, 111, 108, 111, 114, 115]
 ·subst h3
  exact ⟨by kernel_rfl, by kernel_rfl⟩
 by_cases h4 : n = [82, 71, 66]
 ·subst h4
  exact ⟨by kernel_rfl, by kernel_rfl⟩
 by_cases h5 : n = [107, 99, 117, 117, 49]
 ·subst h5
  exact ⟨by kernel_rfl, by kernel_rfl⟩
 by_cases h6 : n = [107, 99, 117, 100, 49]
 ·subst h6
  exact ⟨by kernel_rfl, by kernel_rfl⟩
 by_cases h7 : n = [107, 99, 117, 102, 49]
 ·subst h7
  exact ⟨by kernel_rfl, by kernel_rfl⟩
 by_cases h8 : n = [107, 99, 117, 98, 49]
 ·subst h8
  exact ⟨by kernel_rfl, by kernel_rfl⟩
 by_cases h9 : n = [107, 98, 115]
 ·subst h9
  exact ⟨by kernel_rfl, by kernel_rfl⟩
 by_cases h10 : n = [107, 102, 49]
 ·subst h10
  exact ⟨by kernel_rfl, by kernel_rfl⟩
 by_cases h11 : n = [107, 100, 99, 104, 49]
 ·subst h11
  exact ⟨by kernel_rfl, by kernel_rfl⟩
 have hl : lookC n = none := by
  have := look_in n
  rw [show (namesC.any fun q => q.1 == n) = false by
   simp only [namesC, List.any_cons, List.any_nil, Bool.or_false, Bool.or_eq_false_iff, beq_eq_false_iff_ne]
   exact ⟨Ne.symm h2, Ne.symm h4, Ne.symm h0, Ne.symm h3, Ne.symm h9, Ne.symm h8, Ne.symm h6, Ne.symm h7, Ne.symm h5, Ne.symm h11, Ne.symm h10, Ne.symm h1⟩] at this
  simpa using this
 unfold capV
 rw [hl]
 unfold capsD
 rw [atKey_put_other (hne h11), atKey_put_other (hne h10), atKey_put_other (hne h9), atKey_put_other (hne h8), atKey_put_other (hne h7), atKey_put_other (hne h6), atKey_put_other (hne h5), atKey_put_other (hne h4), atKey_put_other (hne h3), atKey_put_other (hne h2), atKey_put_other (hne h1), atKey_put_other (hne h0), has_put_other (hne h11), has_put_other (hne h10), has_put_other (hne h9), has_put_other (hne h8), has_put_other (hne h7), has_put_other (hne h6), has_put_other (hne h5), has_put_other (hne h4), has_put_other (hne h3), has_put_other (hne h2), has_put_other (hne h1), has_put_other (hne h0)]
 exact ⟨rfl, rfl⟩
theorem zeroC20 (w : World) : (zeroValue 47).run Tryd.prog w = .ok (.agg #[.string ⟨#[]⟩]) w := by kernel_rfl
theorem caps_look {w : World} {b k : Nat} {n : List UInt8} (h : w.ownsMap Tryd.prog 9 hel b k capsD) (hl : n.length ≤ maxLen) :
 (Instr.lookup 49 (.map (some b)) (.string ⟨n.toArray⟩) true).run Tryd.prog w = .ok (.tuple #[.agg #[.string ⟨(capV n).toArray⟩], .bool (lookC n).isSome]) w := by
 obtain ⟨ha, hq⟩ := capsD_at n
 have hk : keyOf Tryd.prog 9 (.string ⟨n.toArray⟩) = some (.string n) := Go.WideMaps.keyOf_string_mk Tryd.underlying9 (s := ⟨n.toArray⟩) (by simpa [ByteArray.size] using hl)
 obtain ⟨v1, p1, r1, e1⟩ := h.look_ok (string_keyed Tryd.underlying9) Tryd.underlying49 (zeroC20 w) (show hel (.agg #[.string ⟨#[]⟩]) = some (.held (.agg #[.string ⟨#[]⟩]), []) from rfl) hk
 rw [ha] at e1
 have e1' : v1 = .agg #[.string ⟨(capV n).toArray⟩] := by simpa [hel] using congrArg (Option.map Prod.fst) e1
 rw [e1', hq] at r1
 exact r1
def CapsE (w : World) (v : Value) (w' : World) : Prop := ∃ b, v = .map (some b) ∧ w'.ownsMap Tryd.prog 9 hel b 12 capsD ∧ w.heap.size ≤ b
theorem below_but20 {B b : Nat} {a w w' : World} (h : Below B a w) (hg : w.grownBy w' (some b)) (hB : B ≤ w.heap.size) (hb : B ≤ b) : Below B a w' :=
 ⟨hg.os.trans h.os, hg.tape.trans h.tape, hg.output.trans h.output, Nat.le_trans h.size hg.size, fun k hk => (hg.block k (Nat.lt_of_lt_of_le hk hB) (fun e => by injection e with e; omega)).trans (h.block k hk)⟩
set_option maxRecDepth 100000 in
set_option maxHeartbeats 16000000 in
theorem pnames20_any (w : World) : Calls Tryd.prog 19 #[] w fun e w' => ∃ v, e = .returned v ∧ CapsE w v w' ∧ Below w.heap.size w w' := by
 go_enter Tryd.func19, Tryd.ntmps19
 go_wp2_with fail
 rename_i K hK
 rw [run_makeMap, Result.andThen_ok, Oper.upon_value]
 refine hK _ _ ?_
 have hown0 := World.ownsMap_made w Tryd.prog 9 hel
 have hb0 : Below w.heap.size w (w.alloc (.map #[] 0)) := (Below.refl _ w).alloc (Nat.le_refl _) _
 obtain ⟨b, hb⟩ : ∃ b, w.heap.size = b := ⟨_, rfl⟩
 have hsz : b ≤ (w.alloc (.map #[] 0)).heap.size := by simp; omega
 rw [hb] at hown0 hb0 ⊢
 obtain ⟨w0, hw0⟩ : ∃ w0, w.alloc (.map #[] 0) = w0 := ⟨_, rfl⟩
 rw [hw0] at hown0 hb0 hsz ⊢
 clear hw0 hK
 go_wp2_with (first
  | (refine wpList_ins1 (T := 49) (K := 9) (E := 47) (b := b) (k := .string [84, 78]) (key := .string ⟨#[84, 78]⟩) (v := .agg #[.string ⟨#[99, 108, 97, 118, 105, 101, 114]⟩]) (string_keyed Tryd.underlying9) Tryd.underlying49 rfl rfl rfl (by kernel_rfl) rfl (Go.WideMaps.keyOf_string_mk Tryd.underlying9 (s := ⟨#[84, 78]⟩) (by decide)) (by kernel_rfl) hown0 (by decide) ?_; intro w1 hown1 hg1)
  | (refine wpList_ins1 (T := 49) (K := 9) (E := 47) (b := b) (k := .string [110, 97, 109, 101]) (key := .string ⟨#[110, 97, 109, 101]⟩) (v := .agg #[.string ⟨#[99, 108, 97, 118, 105, 101, 114]⟩]) (string_keyed Tryd.underlying9) Tryd.underlying49 rfl rfl rfl (by kernel_rfl) rfl (Go.WideMaps.keyOf_string_mk Tryd.underlying9 (s := ⟨#[110, 97, 109, 101]⟩) (by decide)) (by kernel_rfl) hown1 (by decide) ?_; intro w2 hown2 hg2)
  | (refine wpList_ins1 (T := 49) (K := 9) (E := 47) (b := b) (k := .string [67, 111]) (key := .string ⟨#[67, 111]⟩) (v := .agg #[.string ⟨#[50, 53, 54]⟩]) (string_keyed Tryd.underlying9) Tryd.underlying49 rfl rfl rfl (by kernel_rfl) rfl (Go.WideMaps.keyOf_string_mk Tryd.underlying9 (s := ⟨#[67, 111]⟩) (by decide)) (by kernel_rfl) hown2 (by decide) ?_; intro w3 hown3 hg3)
  | (refine wpList_ins1 (T := 49) (K := 9) (E := 47) (b := b) (k := .string [99, 111, 108, 111, 114, 115]) (key := .string ⟨#[99, 111, 108, 111, 114, 115]⟩) (v := .agg #[.string ⟨#[50, 53, 54]⟩]) (string_keyed Tryd.underlying9) Tryd.underlying49 rfl rfl rfl (by kernel_rfl) rfl (Go.WideMaps.keyOf_string_mk Tryd.underlying9 (s := ⟨#[99, 111, 108, 111, 114, 115]⟩) (by decide)) (by kernel_rfl) hown3 (by decide) ?_; intro w4 hown4 hg4)
  | (refine wpList_ins1 (T := 49) (K := 9) (E := 47) (b := b) (k := .string [82, 71, 66]) (key := .string ⟨#[82, 71, 66]⟩) (v := .agg #[.string ⟨#[56]⟩]) (string_keyed Tryd.underlying9) Tryd.underlying49 rfl rfl rfl (by kernel_rfl) rfl (Go.WideMaps.keyOf_string_mk Tryd.underlying9 (s := ⟨#[82, 71, 66]⟩) (by decide)) (by kernel_rfl) hown4 (by decide) ?_; intro w5 hown5 hg5)
  | (refine wpList_ins1 (T := 49) (K := 9) (E := 47) (b := b) (k := .string [107, 99, 117, 117, 49]) (key := .string ⟨#[107, 99, 117, 117, 49]⟩) (v := .agg #[.string ⟨#[27, 79, 65]⟩]) (string_keyed Tryd.underlying9) Tryd.underlying49 rfl rfl rfl (by kernel_rfl) rfl (Go.WideMaps.keyOf_string_mk Tryd.underlying9 (s := ⟨#[107, 99, 117, 117, 49]⟩) (by decide)) (by kernel_rfl) hown5 (by decide) ?_; intro w6 hown6 hg6)
  | (refine wpList_ins1 (T := 49) (K := 9) (E := 47) (b := b) (k := .string [107, 99, 117, 100, 49]) (key := .string ⟨#[107, 99, 117, 100, 49]⟩) (v := .agg #[.string ⟨#[27, 79, 66]⟩]) (string_keyed Tryd.underlying9) Tryd.underlying49 rfl rfl rfl (by kernel_rfl) rfl (Go.WideMaps.keyOf_string_mk Tryd.underlying9 (s := ⟨#[107, 99, 117, 100, 49]⟩) (by decide)) (by kernel_rfl) hown6 (by decide) ?_; intro w7 hown7 hg7)
  | (refine wpList_ins1 (T := 49) (K := 9) (E := 47) (b := b) (k := .string [107, 99, 117, 102, 49]) (key := .string ⟨#[107, 99, 117, 102, 49]⟩) (v := .agg #[.string ⟨#[27, 79, 67]⟩]) (string_keyed Tryd.underlying9) Tryd.underlying49 rfl rfl rfl (by kernel_rfl) rfl (Go.WideMaps.keyOf_string_mk Tryd.underlying9 (s := ⟨#[107, 99, 117, 102, 49]⟩) (by decide)) (by kernel_rfl) hown7 (by decide) ?_; intro w8 hown8 hg8)
  | (refine wpList_ins1 (T := 49) (K := 9) (E := 47) (b := b) (k := .string [107, 99, 117, 98, 49]) (key := .string ⟨#[107, 99, 117, 98, 49]⟩) (v := .agg #[.string ⟨#[27, 79, 68]⟩]) (string_keyed Tryd.underlying9) Tryd.underlying49 rfl rfl rfl (by kernel_rfl) rfl (Go.WideMaps.keyOf_string_mk Tryd.underlying9 (s := ⟨#[107, 99, 117, 98, 49]⟩) (by decide)) (by kernel_rfl) hown8 (by decide) ?_; intro w9 hown9 hg9)
  | (refine wpList_ins1 (T := 49) (K := 9) (E := 47) (b := b) (k := .string [107, 98, 115]) (key := .string ⟨#[107, 98, 115]⟩) (v := .agg #[.string ⟨#[127]⟩]) (string_keyed Tryd.underlying9) Tryd.underlying49 rfl rfl rfl (by kernel_rfl) rfl (Go.WideMaps.keyOf_string_mk Tryd.underlying9 (s := ⟨#[107, 98, 115]⟩) (by decide)) (by kernel_rfl) hown9 (by decide) ?_; intro w10 hown10 hg10)
  | (refine wpList_ins1 (T := 49) (K := 9) (E := 47) (b := b) (k := .string [107, 102, 49]) (key := .string ⟨#[107, 102, 49]⟩) (v := .agg #[.string ⟨#[27, 79, 80]⟩]) (string_keyed Tryd.underlying9) Tryd.underlying49 rfl rfl rfl (by kernel_rfl) rfl (Go.WideMaps.keyOf_string_mk Tryd.underlying9 (s := ⟨#[107, 102, 49]⟩) (by decide)) (by kernel_rfl) hown10 (by decide) ?_; intro w11 hown11 hg11)
  | (refine wpList_ins1 (T := 49) (K := 9) (E := 47) (b := b) (k := .string [107, 100, 99, 104, 49]) (key := .string ⟨#[107, 100, 99, 104, 49]⟩) (v := .agg #[.string ⟨#[27, 91, 51, 126]⟩]) (string_keyed Tryd.underlying9) Tryd.underlying49 rfl rfl rfl (by kernel_rfl) rfl (Go.WideMaps.keyOf_string_mk Tryd.underlying9 (s := ⟨#[107, 100, 99, 104, 49]⟩) (by decide)) (by kernel_rfl) hown11 (by decide) ?_; intro w12 hown12 hg12))
 have hB := below_but20 hb0 (((((((((((hg1.trans hg2).trans hg3).trans hg4).trans hg5).trans hg6).trans hg7).trans hg8).trans hg9).trans hg10).trans hg11).trans hg12) hsz (Nat.le_refl _)
 go_ret
 exact ⟨_, rfl, ⟨b, rfl, hown12, by omega⟩, hb ▸ hB⟩
theorem own_below20 {w w' : World} {b n : Nat} {D : DataW Value} (h : w.ownsMap Tryd.prog 9 hel b n D) (hb : Below w.heap.size w w') : w'.ownsMap Tryd.prog 9 hel b n D := by
 obtain ⟨es, clock, hh, r⟩ := h
 exact ⟨es, clock, (hb.block b (Array.getElem?_eq_some_iff.1 hh).1).trans hh, r⟩
set_option maxRecDepth 100000 in
set_option maxHeartbeats 16000000 in
theorem pLook20_any (n : List UInt8) (hn : n.length ≤ maxLen) (w : World) : Calls Tryd.prog 9 #[.string ⟨n.toArray⟩] w fun e w' => e = .returned (.tuple #[.string ⟨(capV n).toArray⟩, .bool (lookC n).isSome]) ∧ Below w.heap.size w w' := by
 have HL := Lib.hid hn
 clear hn
 go_enter Tryd.func9, Tryd.ntmps9
 go_wp2_with fail
 refine (pnames20_any _).mono ?_
 rintro e w1 ⟨v, rfl, ⟨b, rfl, hown, _⟩, hb1⟩
 have hlk := caps_look (n := n) hown HL.out
 have hfl : ∀ W : World, (Instr.field 47 (.agg #[.string ⟨(capV n).toArray⟩]) 0).run Tryd.prog W = .ok (.string ⟨(capV n).toArray⟩) W := fun W => by kernel_rfl
 have hB1 := hb1.alloc hb1.size (.cells #[.string ⟨(capV n).toArray⟩] 47)
 clear hown hb1
 go_wp2_with fail
 refine bodyPost_ret (v := .tuple #[.string ⟨(capV n).toArray⟩, .bool (lookC n).isSome]) (by simp [results, Tryd.results9, go_sem]) rfl ⟨rfl, hB1⟩
end Go.Proofs.YtkkjahhilcjpgaaDoor
