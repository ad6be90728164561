/-
  Layer 2's mathematics: how the program reckons the code point with which bytes begin.
-/
import Derived.Test.YtdhpbihooeckoaaDoorUtfA
import Derived.Test.YtdhpbihooeckoaaDoorUtdN
namespace Go.Proofs.YtdhpbihooeckoaaDoor

/-- What the program reckons is what is told. -/
structure Fst (a : UInt8) (j : Nat) (lead : Int) : Prop where
  short : ∀ l : List UInt8, l.length < j → takeL (a :: l) = (0, 0)
  none_ : ∀ l : List UInt8, j ≤ l.length → accL ((a.toNat : Int) - lead) (l.take j) = none → takeL (a :: l) = (0, 0)
  no : ∀ (l : List UInt8) (x : Int), j ≤ l.length → accL ((a.toNat : Int) - lead) (l.take j) = some x → ¬ (isPt x = true ∧ ixP x 4 = j) → takeL (a :: l) = (0, 0)
  yes : ∀ (l : List UInt8) (x : Int), j ≤ l.length → accL ((a.toNat : Int) - lead) (l.take j) = some x → isPt x = true → ixP x 4 = j → takeL (a :: l) = (x, j + 1)

theorem ix0 (x : Int) : ixP x 4 = 0 ↔ x < 128 := by unfold ixP; (repeat' split) <;> omega
theorem ix1 (x : Int) : ixP x 4 = 1 ↔ 128 ≤ x ∧ x < 2048 := by unfold ixP; (repeat' split) <;> omega
theorem ix2 (x : Int) : ixP x 4 = 2 ↔ 2048 ≤ x ∧ x < 65536 := by unfold ixP; (repeat' split) <;> omega
theorem ix3 (x : Int) : ixP x 4 = 3 ↔ 65536 ≤ x := by unfold ixP; (repeat' split) <;> omega

theorem fst_split (a : UInt8) : ∃ (j : Nat) (least lead : Int), j ≤ 3 ∧ ixF a.toNat 4 = j ∧ szA (ixF a.toNat 4) = #[.int .i64 ((j : Int) + 1), .int .i64 least, .int .i64 lead] ∧ 0 ≤ lead ∧ lead ≤ a.toNat ∧ Fst a j lead := by
  have ha := a.toNat_lt
  by_cases a1 : a.toNat < 192
  · have e : ixF a.toNat 4 = 0 := by unfold ixF; (repeat' split) <;> omega
    refine ⟨0, 0, 0, by omega, e, by rw [e]; rfl, by omega, by omega, ⟨fun l h => absurd h (by omega), fun l _ h => ?_, fun l x _ h hn => ?_, fun l x _ h hp hi => ?_⟩⟩
    · cases h
    · obtain rfl : (a.toNat : Int) = x := by have := Option.some.inj h; omega
      simp only [takeL]
      rw [if_pos a1]
      by_cases a2 : a.toNat < 128
      · exact absurd ⟨(isPt_iff _).2 (by omega), (ix0 _).2 (by omega)⟩ hn
      · rw [if_neg a2]
    · obtain rfl : (a.toNat : Int) = x := by have := Option.some.inj h; omega
      have := (ix0 _).1 hi
      simp only [takeL]
      rw [if_pos a1, if_pos (by omega)]
      rfl
  · by_cases a2 : a.toNat < 224
    · have e : ixF a.toNat 4 = 1 := by unfold ixF; (repeat' split) <;> omega
      refine ⟨1, 128, 192, by omega, e, by rw [e]; rfl, by omega, by omega, ⟨fun l h => ?_, fun l hl h => ?_, fun l x hl h hn => ?_, fun l x hl h hp hi => ?_⟩⟩
      · match l, h with
        | [], _ => simp only [takeL]; rw [if_neg a1, if_pos a2]
      · match l, hl with
        | b :: l, _ =>
          simp only [takeL]; rw [if_neg a1, if_pos a2]
          by_cases f1 : fol b = true
          · simp [accL, f1] at h
          · rw [if_neg (fun hh => f1 hh.1)]
      · match l, hl with
        | b :: l, _ =>
          simp only [takeL]; rw [if_neg a1, if_pos a2]
          by_cases f1 : fol b = true
          · have hx : num2 a b = x := by simpa [accL, f1, num2] using h
            have e0 : num2 a b = ((a.toNat : Int) - 192) * 64 + ((b.toNat : Int) - 128) := rfl
            have := (fol_iff b).1 f1
            rw [hx]
            rw [if_neg (fun hh => hn ⟨hh.2.1, (ix1 x).2 (by omega)⟩)]
          · rw [if_neg (fun hh => f1 hh.1)]
      · match l, hl with
        | b :: l, _ =>
          simp only [takeL]; rw [if_neg a1, if_pos a2]
          by_cases f1 : fol b = true
          · have hx : num2 a b = x := by simpa [accL, f1, num2] using h
            rw [hx, if_pos ⟨f1, hp, ((ix1 x).1 hi).1⟩]
          · simp [accL, f1] at h
    · by_cases a3 : a.toNat < 240
      · have e : ixF a.toNat 4 = 2 := by unfold ixF; (repeat' split) <;> omega
        refine ⟨2, 2048, 224, by omega, e, by rw [e]; rfl, by omega, by omega, ⟨fun l h => ?_, fun l hl h => ?_, fun l x hl h hn => ?_, fun l x hl h hp hi => ?_⟩⟩
        · match l, h with
          | [], _ => simp only [takeL]; rw [if_neg a1, if_neg a2, if_pos a3]
          | [_], _ => simp only [takeL]; rw [if_neg a1, if_neg a2, if_pos a3]
        · match l, hl with
          | b :: c :: l, _ =>
            simp only [takeL]; rw [if_neg a1, if_neg a2, if_pos a3]
            by_cases f1 : fol b = true
            · by_cases f2 : fol c = true
              · simp [accL, f1, f2] at h
              · rw [if_neg (fun hh => f2 hh.2.1)]
            · rw [if_neg (fun hh => f1 hh.1)]
        · match l, hl with
          | b :: c :: l, _ =>
            simp only [takeL]; rw [if_neg a1, if_neg a2, if_pos a3]
            by_cases f1 : fol b = true
            · by_cases f2 : fol c = true
              · have hx : num3 a b c = x := by simpa [accL, f1, f2, num3] using h
                have e0 : num3 a b c = (((a.toNat : Int) - 224) * 64 + ((b.toNat : Int) - 128)) * 64 + ((c.toNat : Int) - 128) := rfl
                have := (fol_iff b).1 f1
                have := (fol_iff c).1 f2
                rw [hx]
                rw [if_neg (fun hh => hn ⟨hh.2.2.1, (ix2 x).2 (by omega)⟩)]
              · rw [if_neg (fun hh => f2 hh.2.1)]
            · rw [if_neg (fun hh => f1 hh.1)]
        · match l, hl with
          | b :: c :: l, _ =>
            simp only [takeL]; rw [if_neg a1, if_neg a2, if_pos a3]
            by_cases f1 : fol b = true
            · by_cases f2 : fol c = true
              · have hx : num3 a b c = x := by simpa [accL, f1, f2, num3] using h
                rw [hx, if_pos ⟨f1, f2, hp, ((ix2 x).1 hi).1⟩]
              · simp [accL, f1, f2] at h
            · simp [accL, f1] at h
      · have e : ixF a.toNat 4 = 3 := by unfold ixF; (repeat' split) <;> omega
        refine ⟨3, 65536, 240, by omega, e, by rw [e]; rfl, by omega, by omega, ⟨fun l h => ?_, fun l hl h => ?_, fun l x hl h hn => ?_, fun l x hl h hp hi => ?_⟩⟩
        · match l, h with
          | [], _ => simp only [takeL]; rw [if_neg a1, if_neg a2, if_neg a3]
          | [_], _ => simp only [takeL]; rw [if_neg a1, if_neg a2, if_neg a3]
          | [_, _], _ => simp only [takeL]; rw [if_neg a1, if_neg a2, if_neg a3]
        · match l, hl with
          | b :: c :: d :: l, _ =>
            simp only [takeL]; rw [if_neg a1, if_neg a2, if_neg a3]
            by_cases f1 : fol b = true
            · by_cases f2 : fol c = true
              · by_cases f3 : fol d = true
                · simp [accL, f1, f2, f3] at h
                · rw [if_neg (fun hh => f3 hh.2.2.1)]
              · rw [if_neg (fun hh => f2 hh.2.1)]
            · rw [if_neg (fun hh => f1 hh.1)]
        · match l, hl with
          | b :: c :: d :: l, _ =>
            simp only [takeL]; rw [if_neg a1, if_neg a2, if_neg a3]
            by_cases f1 : fol b = true
            · by_cases f2 : fol c = true
              · by_cases f3 : fol d = true
                · have hx : num4 a b c d = x := by simpa [accL, f1, f2, f3, num4] using h
                  rw [hx]
                  rw [if_neg (fun hh => hn ⟨hh.2.2.2.1, (ix3 x).2 hh.2.2.2.2⟩)]
                · rw [if_neg (fun hh => f3 hh.2.2.1)]
              · rw [if_neg (fun hh => f2 hh.2.1)]
            · rw [if_neg (fun hh => f1 hh.1)]
        · match l, hl with
          | b :: c :: d :: l, _ =>
            simp only [takeL]; rw [if_neg a1, if_neg a2, if_neg a3]
            by_cases f1 : fol b = true
            · by_cases f2 : fol c = true
              · by_cases f3 : fol d = true
                · have hx : num4 a b c d = x := by simpa [accL, f1, f2, f3, num4] using h
                  rw [hx, if_pos ⟨f1, f2, f3, hp, ((ix3 x).1 hi)⟩]
                · simp [accL, f1, f2, f3] at h
              · simp [accL, f1, f2] at h
            · simp [accL, f1] at h
end Go.Proofs.YtdhpbihooeckoaaDoor
