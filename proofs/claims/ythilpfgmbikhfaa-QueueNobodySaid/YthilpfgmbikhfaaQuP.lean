/-
  Layer 4, walked: Push.
-/
import Derived.Test.YthilpfgmbikhfaaQuA
namespace Go.Proofs.Ythilpfgmbikhfaa
open Go.RowKit

/-- What Push tells, and what waits then. -/
def PushE (S : Nat → Prop) (g room base : Nat) (l' : List UInt8) (d' : Nat) (b : Bool) (w : World) (e : Ending) (w' : World) : Prop :=
  e = .returned (.bool b) ∧ (∃ S' v', QB w' S' g room base v' l' d' ∧ Wid w S S') ∧ Fr w w' S
/-- A queue's bytes, and how many items it dropped, behind an item that comes. -/
def hasRoom (room : Nat) (l x : List UInt8) : Bool := decide (l.length + x.length ≤ room)
theorem hasRoom_iff {room : Nat} {l x : List UInt8} : hasRoom room l x = true ↔ l.length + x.length ≤ room := by simp [hasRoom]
def pushL (room : Nat) (l x : List UInt8) : List UInt8 := if hasRoom room l x = true then l ++ x else l
def pushD (room : Nat) (l x : List UInt8) (d : Nat) : Nat := if hasRoom room l x = true then d else d + 1

section
variable {w : World} {S : Nat → Prop} {g room base : Nat} {v : Value} {l : List UInt8} {d : Nat}
theorem push_nil (A : Option Addr) (n c : Nat) (w : World) : Calls Try.prog 13 #[.pointer none, .slice A n c] w fun e w' => e = .returned (.bool false) ∧ w = w' := by
  go_enter Try.func13, Try.ntmps13
  go_wp2
  go_ret
  exact ⟨rfl, rfl⟩
theorem Try.u8info : (Try.prog.info? 5).map (fun i => (i.zero, i.size, i.bytes)) = some (some (.int .u8 0), 1, 1) := by kernel_rfl
theorem u8_parts : ∃ i, Try.prog.info? 5 = some i ∧ i.zero = some (.int .u8 0) ∧ i.size = 1 ∧ i.bytes = 1 := ⟨_, rfl, rfl, rfl, rfl⟩
set_option maxRecDepth 100000 in
set_option maxHeartbeats 4000000 in
theorem push_no (h : QB w S g room base v l d) (A : Option Addr) (n c : Nat) (x : List UInt8) (hn : x.length = n) (hx : n ≤ 140737488351232) (hd : d ≤ 4294967296) (hno : hasRoom room l x = false) :
    Calls Try.prog 13 #[.pointer (some ⟨g, 0, none⟩), .slice A n c] w (PushE S g room base l (d + 1) false w) := by
  obtain ⟨c0, c1, c2⟩ := h.cells
  have hfit := h.fit
  have hroom := h.room_
  obtain ⟨A0, cv, rfl, _⟩ := h.row.form
  have hno' : room < l.length + n := by
    have : ¬ (l.length + x.length ≤ room) := fun hh => by rw [hasRoom_iff.2 hh] at hno; cases hno
    omega
  obtain ⟨m, hm⟩ : ∃ m, l.length = m := ⟨_, rfl⟩
  rw [hm] at c1 hfit hno'
  have z2 := h.box.frozen 2
  have HH := Lib.hid h
  have HM := Lib.hid hm
  have HN := Lib.hid hn
  clear h hm hn hno
  have t1 : decide ((room : Int) - (m : Int) < (n : Int)) = true := by simp; omega
  go_enter Try.func13, Try.ntmps13
  go_wp2_with fail
  go_quiet (fail)
  go_wp2_with fail
  refine (add_any (w := w.drewN nq) (x := (d : Int)) (s := (d : Int) + 1) (b := g) (o := 2) c2 z2 rfl (by omega)).mono ?_
  rintro e w1 ⟨rfl, rfl⟩
  go_wp2
  go_ret
  refine ⟨rfl, ⟨S, _, ⟨?_, ?_, HH.out.sg, HH.out.sv, HH.out.lo, fun k hk => ?_, HH.out.fit, HH.out.room_⟩, Wid.refl _ _⟩, (Fr.drewN w nq S).trans (Fr.setCell _ g 2 _ S HH.out.sg) (fun k hk => .inl hk)⟩
  · exact (HH.out.box.drewN nq).set 2 _
  · exact (HH.out.row.drewN nq).fr (Fr.setCell _ g 2 _ (fun k => k = g) rfl) (fun k hk e => HH.out.no_box (by rw [hk, e]))
  · have := HH.out.hi k hk
    simpa [World.setCell] using this
set_option maxRecDepth 100000 in
set_option maxHeartbeats 4000000 in
theorem push_yes (h : QB w S g room base v l d) (A : Option Addr) (n c : Nat) (x : List UInt8) (hn : x.length = n) (hr : Rd w A (bs x)) (hyes : hasRoom room l x = true) :
    Calls Try.prog 13 #[.pointer (some ⟨g, 0, none⟩), .slice A n c] w (PushE S g room base (l ++ x) d true w) := by
  obtain ⟨i0, hi, hz0, hz1, hz2⟩ := u8_parts
  obtain ⟨c0, c1, c2⟩ := h.cells
  have hfit := h.fit
  have hroom := h.room_
  have hbase : base ≤ w.heap.size := Nat.le_trans (h.lo _ h.sg) (Nat.le_of_lt (h.hi _ h.sg))
  have hyes' : l.length + n ≤ room := by rw [← hn]; exact hasRoom_iff.1 hyes
  have hown := h.row
  obtain ⟨A0, cv, rfl, hf⟩ := h.row.form
  clear hf
  have hsv := h.sv
  have hlo := h.lo
  have hnb := h.no_box
  have hbox := h.box
  obtain ⟨m, hm⟩ : ∃ m, l.length = m := ⟨_, rfl⟩
  rw [hm] at c1 hfit hyes' hown hsv hnb hbox
  have HH := Lib.hid h
  have HM := Lib.hid hm
  have HN := Lib.hid hn
  have HS := Lib.hid hsv
  have HO := Lib.hid hlo
  have HB := Lib.hid hnb
  clear h hm hn hyes hsv hlo hnb
  have t1 : decide ((room : Int) - (m : Int) < (n : Int)) = false := by simp; omega
  have h63 : m + n ≤ maxLen := by simp only [maxLen]; omega
  have hlim : (m + n) * 1 ≤ 140737488355328 := by omega
  go_enter Try.func13, Try.ntmps13
  go_wp2_with fail
  go_quiet (fail)
  have hown1 := hown.drewN nq
  have hr1 := hr.drewN nq
  go_wp2_with (at_builtin; refine list_appB _ rfl (.tmp 28) (.tmp 29) 28 rfl base 5 i0 _ 1 1 Try.underlying28 hi hz0 hz1 hz2 rfl Nat.one_pos (.slice A0 m cv) m (bs l) rfl hown1 A n c (bs x) rfl (by rw [bs_length, HN.out]; omega) hr1 (bs_one x) h63 hlim hbase ?_; intro v2 w2 hown2 hg2 hk2; obtain ⟨A2, cc2, rfl, hf2⟩ := hown2.form; clear hf2; have hbx := (hbox.drewN nq).grown hg2 HB.out; have e1 := hbx.cell 1; have z2 := hbx.frozen 1)
  have hl2 : (l ++ x).length = m + n := by rw [List.length_append, HM.out, HN.out]
  have hnb2 := hown2.no_cells hbx (by decide)
  have hsz := hg2.size
  go_ret
  refine ⟨rfl, ⟨fun k => S k ∨ (Value.slice A2 (m + n) cc2).ownBlock = some k, .slice A2 (m + n) cc2, ⟨hbx.set 1 _, ?_, .inl HH.out.sg, fun k hk => .inr hk, fun k hk => ?_, fun k hk => ?_, by omega, hroom⟩, fun k hk => ?_⟩, ?_⟩
  · rw [hl2, bs_append]
    exact hown2.fr (Fr.setCell w2 g 1 _ (fun k => k = g) rfl) (fun k hk e => hnb2 (by rw [hk, e]))
  · rcases hk with hk | hk
    · exact HO.out k hk
    · exact (hown2.lt k hk).1
  · show k < (w2.setCell _ _).heap.size
    have e : (w2.setCell ⟨g, 1, none⟩ (.slice A2 (m + n) cc2)).heap.size = w2.heap.size := by simp [World.setCell]
    rw [e]
    rcases hk with hk | hk
    · exact Nat.lt_of_lt_of_le (HH.out.hi k hk) hsz
    · exact (hown2.lt k hk).2
  · rcases hk with hk | hk
    · exact .inl hk
    · rcases hk2 k hk with h1 | h1
      · exact .inl (HS.out k h1)
      · exact .inr h1
  · exact ((Fr.drewN w nq S).trans ((Fr.of_grown hg2).mono (fun k hk => HS.out k hk)) (fun k hk => .inl hk)).trans (Fr.setCell w2 g 1 _ S HH.out.sg) (fun k hk => .inl hk)
/-- Push, whatever comes. -/
theorem push_any (h : QB w S g room base v l d) (A : Option Addr) (n c : Nat) (x : List UInt8) (b : Bool) (l' : List UInt8) (d' : Nat) (hn : x.length = n) (hx : n ≤ 140737488351232) (hd : d ≤ 4294967296) (hr : Rd w A (bs x)) (hb : hasRoom room l x = b) (hl : pushL room l x = l') (hd' : pushD room l x d = d') :
    Calls Try.prog 13 #[.pointer (some ⟨g, 0, none⟩), .slice A n c] w (PushE S g room base l' d' b w) := by
  subst hl hd'
  cases b with
  | true =>
    unfold pushL pushD
    rw [if_pos hb, if_pos hb]
    exact push_yes h A n c x hn hr hb
  | false =>
    unfold pushL pushD
    rw [if_neg (by rw [hb]; decide), if_neg (by rw [hb]; decide)]
    exact push_no h A n c x hn hx hd hb
end
end Go.Proofs.Ythilpfgmbikhfaa
