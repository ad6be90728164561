/-
  Layer 2, walked: Text, the program's and the document's.
-/
import Derived.Test.YtcijdbklapidnaaDoorUtfQ
namespace Go.Proofs.YtcijdbklapidnaaDoor
open Go.RowKit

/-- Numbers as values. -/
def is_ (l : List Int) : List Value := l.map (Value.int .i64)
theorem is_length (l : List Int) : (is_ l).length = l.length := by simp [is_]
theorem Rd.int_at {w : World} {A : Option Addr} {l : List Int} (h : Rd w A (is_ l)) (hp : 0 < l.length) :
    ∃ b o, A = some ⟨b, o, none⟩ ∧ b < w.heap.size ∧ ∀ k (hk : k < l.length), w.cell? ⟨b, o + k, none⟩ = some (.int .i64 l[k]) := by
  obtain ⟨b, o, rfl, hb, hc⟩ := h (by rw [is_length]; exact hp)
  exact ⟨b, o, rfl, hb, fun k hk => hc k _ (by simp [is_, hk])⟩
/-- What Text answers. -/
def Tx (o : Option (List UInt8)) (w : World) (e : Ending) (w' : World) : Prop :=
  match o with
  | some t => ∃ A c, e = .returned (.tuple #[.slice A t.length c, .bool true]) ∧ t.length ≤ c ∧ Rd w' A (bs t) ∧ Below w.heap.size w w'
  | none => e = .returned (.tuple #[.slice none 0 0, .bool false]) ∧ Below w.heap.size w w'
theorem Own.cap {w : World} {base : Nat} {e : TypeId} {sz n : Nat} {v : Value} {xs : List Value} (h : Own w base e sz v n xs) : ∃ A c, v = .slice A n c ∧ n ≤ c ∧ Rd w A xs := by
  obtain ⟨A, c, rfl, hr⟩ := h.form
  refine ⟨A, c, rfl, ?_, hr⟩
  rcases h.2 with ⟨h1, h0⟩ | ⟨g, cap, hv, hb, _, hnc, _⟩
  · omega
  · injection hv with _ _ h3
    omega
theorem tx_yes {l : List Int} (h : l.all isPt = true) : textL l = some (catL l) := by unfold textL; rw [if_pos h]
theorem tx_no {l : List Int} {k : Nat} (hk : k < l.length) (h : isPt l[k] = false) : textL l = none := by
  unfold textL
  rw [if_neg]
  intro ha
  rw [List.all_eq_true] at ha
  have := ha _ (List.getElem_mem hk)
  rw [h] at this; cases this
theorem take_all {l : List Int} {k : Nat} (hk : k < l.length) (h : (l.take k).all isPt = true) (h' : isPt l[k] = true) : (l.take (k + 1)).all isPt = true := by
  rw [List.take_succ_eq_append_getElem hk, List.all_append, h]; simp [h']
theorem cat_step (l : List Int) (k : Nat) (hk : k < l.length) : bs (catL (l.take (k + 1))) = bs (catL (l.take k)) ++ bs (putL l[k]) := by
  rw [List.take_succ_eq_append_getElem hk, catL_snoc, bs_append]
theorem cat_len (l : List Int) (k : Nat) (hk : k < l.length) (h : isPt l[k] = true) : (catL (l.take (k + 1))).length = (catL (l.take k)).length + cnt l[k] := by
  rw [List.take_succ_eq_append_getElem hk, catL_snoc, List.length_append, putL_length h]

theorem Tx.yes {o : Option (List UInt8)} {t : List UInt8} (h : o = some t) {w w' : World} {A : Option Addr} {c : Nat} (hc : t.length ≤ c) (hr : Rd w' A (bs t)) (hb : Below w.heap.size w w') : Tx o w (.returned (.tuple #[.slice A t.length c, .bool true])) w' := by
  subst h
  exact ⟨A, c, rfl, hc, hr, hb⟩
theorem Tx.no {o : Option (List UInt8)} (h : o = none) {w w' : World} (hb : Below w.heap.size w w') : Tx o w (.returned (.tuple #[.slice none 0 0, .bool false])) w' := by
  subst h
  exact ⟨rfl, hb⟩

set_option maxRecDepth 100000 in
set_option maxHeartbeats 2000000 in
theorem text_any (A : Option Addr) (c : Nat) (l : List Int) (w : World) (hs : Siz w) (hl : l.length ≤ 268435456) (hr : Rd w A (is_ l)) :
    Calls Tryd.prog 16 #[.slice A l.length c] w (Tx (textL l) w) := by
  go_enter Tryd.func16, Tryd.ntmps16
  go_wp2
  go_loopw [4, 9] (fun v i wr => ∃ k : Nat, k ≤ l.length ∧ i = .int .i64 k ∧ (l.take k).all isPt = true ∧ Own wr w.heap.size 5 1 v (catL (l.take k)).length (bs (catL (l.take k))) ∧ Below w.heap.size w wr) (fun _ i _ => l.length - (intOf i).toNat)
  case atStart => exact ⟨0, Nat.zero_le _, rfl, rfl, Own.nil_ _ _ _ _, Below.refl _ _⟩
  case round =>
    obtain ⟨k, hk, rfl, hall, hown, hbw⟩ := hrel
    have HA := Lib.hid hall
    clear hall
    by_cases hlt : k < l.length
    · obtain ⟨b, o, rfl, hb, hc⟩ := hr.int_at (by omega)
      have hck := (hbw.cell (p := ⟨b, o + k, none⟩) hb).trans (hc k hlt)
      have hs1 := hs.below' hbw
      have hcl := catL_length (l.take k)
      have hlk : (l.take k).length ≤ k := List.length_take_le _ _
      clear hc
      cases hp : isPt (l[k]'hlt) with
      | false =>
        have E := Lib.hid (tx_no hlt hp)
        have HP := Lib.hid hp
        clear hp
        go_wp2_with fail
        refine (isPt_any _ _).mono ?_
        rw [HP.out]
        rintro e w1 ⟨rfl, rfl⟩
        go_wp2_with fail
        go_ret2
        exact Tx.no E.out hbw
      | true =>
        have HP := Lib.hid hp
        have HL := Lib.hid (cat_len l k hlt hp)
        have HS := Lib.hid (cat_step l k hlt)
        clear hp
        go_wp2_with fail
        refine (isPt_any _ _).mono ?_
        rw [HP.out]
        rintro e w1 ⟨rfl, rfl⟩
        go_wp2_with fail
        refine (put_any _ HP.out w.heap.size _ _ _ _ hs1 hown hbw.size (by omega)).mono ?_
        rintro e w2 ⟨v, rfl, ho, hb2⟩
        rw [← HL.out, ← HS.out] at ho
        go_wp2_with fail
        go_roundw
        case rel => exact ⟨k + 1, by omega, by go_num, take_all hlt HA.out HP.out, ho, hbw.trans hb2⟩
        case measure => simp [intOf]; omega
    · have hkl : l.take k = l := List.take_of_length_le (by omega)
      rw [hkl] at hown HA
      have E := Lib.hid (tx_yes HA.out)
      clear hkl
      obtain ⟨A2, c2, rfl, hc2, hr2⟩ := hown.cap
      go_wp2
      go_ret2
      exact Tx.yes E.out hc2 hr2 hbw
end Go.Proofs.YtcijdbklapidnaaDoor
