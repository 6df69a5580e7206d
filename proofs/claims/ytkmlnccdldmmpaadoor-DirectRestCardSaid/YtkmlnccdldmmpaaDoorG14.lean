/-
  Texts of the proof, put together: LxMid, LxLines.
-/
import Derived.Test.YtkmlnccdldmmpaaDoorG13
import Derived.Deep.LoopGhost

/-
  From step to step the run over the characters stays what it is.
-/
namespace Go.Proofs.YtkmlnccdldmmpaaDoor
open Go.RowKit

def Lim (a : Acc) (j : Nat) : Prop := a.toks.length ≤ j ∧ a.lines.length ≤ j ∧ a.diags.length ≤ j

theorem Lim.up {a : Acc} {j k : Nat} (h : Lim a j) (hk : j ≤ k) : Lim a k := ⟨Nat.le_trans h.1 hk, Nat.le_trans h.2.1 hk, Nat.le_trans h.2.2 hk⟩

theorem Lim.step {L : List Rn} {sz i : Nat} {a : Acc} (h : Lim a i) (it : It) : Lim (stepA L sz i a it) (i + 1) := by
  obtain ⟨h1, h2, h3⟩ := h
  cases it with
  | nl => exact ⟨by simp [stepA, endA], by simp [stepA, endA]; omega, by simp [stepA, endA]; omega⟩
  | gap n => exact ⟨by simp [stepA]; omega, by simp [stepA]; omega, by simp [stepA]; omega⟩
  | opn => exact ⟨by simp [stepA, endA, tellA], by simp [stepA, endA, tellA]; omega, by simp [stepA, endA, tellA]; omega⟩
  | tk k n =>
    simp only [stepA, takeA, pushA]
    split
    · exact ⟨by simp [tellA]; omega, by simp [tellA]; omega, by simp [tellA]; omega⟩
    · exact ⟨by simp; omega, by simp; omega, by simp; omega⟩

/-- The walk in a state, on its way to R. -/
def Mid (L : List Rn) (sz : Nat) (R : Acc) (i st bg : Nat) (a : Acc) : Prop :=
  i ≤ L.length ∧ ((st = 0 ∧ fromA L sz i a = R ∧ Lim a i) ∨
    (bg < L.length ∧ st = begN ((bytesOf L).drop bg) ∧ fromA L sz bg a = R ∧ Lim a bg ∧
      (((st = 1 ∨ st = 2 ∨ st = 3) ∧ i = bg) ∨ (st = 4 ∧ bg ≤ i ∧ ∀ j, bg ≤ j → j < i → (bytesOf L).getD j 0 ≠ 10) ∨
        (st = 5 ∧ bg ≤ i ∧ (bg + 2 ≤ i → comN ((bytesOf L).drop (bg + 2)) = (comN ((bytesOf L).drop i)).map (· + (i - (bg + 2))))))))

def mu (L : List Rn) (i st : Nat) : Nat := 4 * (L.length - i) + (if st = 0 then 2 else if st = 4 ∧ (bytesOf L).getD i 0 = 10 then 3 else 1)

theorem mu_le (L : List Rn) (i st : Nat) : mu L i st ≤ 4 * (L.length - i) + 3 := by
  unfold mu
  split
  · omega
  · split <;> omega
theorem mu_ge (L : List Rn) (i st : Nat) : 4 * (L.length - i) + 1 ≤ mu L i st := by
  unfold mu
  split
  · omega
  · split <;> omega
theorem mu_next {L : List Rn} {i j s t : Nat} (h : i < j) (hi : i < L.length) : mu L j t < mu L i s := by
  have h1 := mu_le L j t
  have h2 := mu_ge L i s
  omega

theorem remN_at {l : List UInt8} {b : Nat} : ∀ (k : Nat), b + k < l.length → (∀ j, b ≤ j → j < b + k → l.getD j 0 ≠ 10) → l.getD (b + k) 0 = 10 → remN (l.drop b) = k
  | k, hk, hj, h10 => by
    induction k generalizing b with
    | zero =>
      rw [drop_cons (by omega)]
      unfold remN
      rw [if_pos (by simpa using h10)]
    | succ k ih =>
      rw [drop_cons (by omega)]
      unfold remN
      rw [if_neg (hj b (Nat.le_refl _) (by omega)), ih (b := b + 1) (by omega) (fun j h1 h2 => hj j (by omega) (by omega)) (by rw [show b + 1 + k = b + (k + 1) from by omega]; exact h10)]

theorem comN_step {l : List UInt8} {i : Nat} (hi : i < l.length) : comN (l.drop i) = if l.getD i 0 = 42 ∧ l.getD (i + 1) 0 = 47 then some 2 else (comN (l.drop (i + 1))).map (· + 1) := by
  rw [drop_cons hi]
  show (if _ ∧ (l.drop (i + 1)).getD 0 0 = 47 then _ else _) = _
  rw [getD_drop, Nat.add_zero]

theorem tok_kind (l : List UInt8) : (tok l).1 ≤ 100 := by
  unfold tok
  split
  · rename_i x h
    have := (conN_in h).2.2.1
    omega
  · repeat' split
    all_goals simp

end Go.Proofs.YtkmlnccdldmmpaaDoor

/-
  Lines of the project, walked.
-/
namespace Go.Proofs.YtkmlnccdldmmpaaDoor
open Go.RowKit

/-- Lines in memory, of a type T that is the project's or the document's. -/
def LRow (W : World) (F : ByteArray) (T : TypeId) (v : Value) (lines : List Ln) (w : World) : Prop :=
  ∃ P : List (Value × Ln), P.map Prod.snd = lines ∧ Up W T 4 v P.length (lcells P) w ∧ ∀ p ∈ P, Up W 36 8 p.1 p.2.toks.length (tcells F p.2.toks) w
def DRow (W : World) (F : ByteArray) (v : Value) (D : List Dg) (w : World) : Prop := Up W 63 4 v D.length (dcells F D) w
def LinesPost (W : World) (F : ByteArray) (T : TypeId) (R : Acc) (e : Ending) (w' : World) : Prop :=
  ∃ la n lc da m dc, e = .returned (.tuple #[.slice la n lc, .slice da m dc]) ∧ n = R.lines.length ∧ m = R.diags.length ∧ LRow W F T (.slice la n lc) R.lines w' ∧ DRow W F (.slice da m dc) R.diags w'

theorem LRow.over {W : World} {F : ByteArray} {T : TypeId} {v : Value} {l : List Ln} {w w' : World} (h : LRow W F T v l w) (b : Below w.heap.size w w') : LRow W F T v l w' := by
  obtain ⟨P, h1, h2, h3⟩ := h
  exact ⟨P, h1, Up.over h2 b, fun p hp => Up.over (h3 p hp) b⟩
theorem DRow.over {W : World} {F : ByteArray} {v : Value} {l : List Dg} {w w' : World} (h : DRow W F v l w) (b : Below w.heap.size w w') : DRow W F v l w' := Up.over h b
theorem LRow.low {W : World} {F : ByteArray} {T : TypeId} {v : Value} {l : List Ln} {w : World} (h : LRow W F T v l w) : Below W.heap.size W w := by
  obtain ⟨P, h1, h2, h3⟩ := h
  exact h2.2

theorem mid_zero (L : List Rn) (sz : Nat) : Mid L sz (linesA L sz) 0 0 0 acc0 := by
  refine ⟨Nat.zero_le _, .inl ⟨rfl, rfl, ?_⟩⟩
  exact ⟨Nat.le_refl _, Nat.le_refl _, Nat.le_refl _⟩

/-- All characters have been walked over. -/
theorem mid_end {L : List Rn} {sz : Nat} {R : Acc} {i st bg : Nat} {a : Acc} (h : Mid L sz R i st bg a) (hi : ¬ i < L.length) (hN : L = [] ∨ Nl (bytesOf L)) : i = L.length ∧ ((st = 0 ∧ a = R) ∨ (st = 5 ∧ bg + 1 < L.length ∧ Lim a bg ∧ R = endA (tellA L a 1 bg (bg + 2)) sz true)) := by
  have hlen := bytesOf_len L
  obtain ⟨h0, ⟨h1, h2, -⟩ | ⟨hbL, hst, hR, hlim, hcase⟩⟩ := h
  · refine ⟨by omega, .inl ⟨h1, ?_⟩⟩
    rw [fromA_end (by omega)] at h2
    exact h2
  · have hil : i = L.length := by omega
    refine ⟨hil, ?_⟩
    have hNl : Nl (bytesOf L) := by
      rcases hN with rfl | h
      · simp at hbL
      · exact h
    rcases hcase with ⟨-, h4⟩ | ⟨-, h5, h6⟩ | ⟨h4, h5, h6⟩
    · omega
    · have := h6 (L.length - 1) (by omega) (by omega)
      have h7 := hNl.2
      rw [hlen] at h7
      exact absurd h7 this
    · refine .inr ⟨h4, ?_, hlim, ?_⟩
      · have h7 := (begN_fiveC (hst.symm.trans h4)).2
        rw [getD_drop] at h7
        have := getD_lt (l := bytesOf L) (i := bg + 1) (by rw [h7]; decide)
        omega
      · have hb1 : bg + 1 < L.length := by
          have h7 := (begN_fiveC (hst.symm.trans h4)).2
          rw [getD_drop] at h7
          have := getD_lt (l := bytesOf L) (i := bg + 1) (by rw [h7]; decide)
          omega
        have hc := h6 (by omega)
        rw [hil, show (bytesOf L).drop L.length = [] from List.drop_eq_nil_of_le (by omega)] at hc
        have hit : item ((bytesOf L).drop bg) = .opn := item_opn (hst.symm.trans h4) (by rw [List.drop_drop]; exact hc)
        have hfr := fromA_step (L := L) (sz := sz) (a := a) hbL
        rw [hit, hR] at hfr
        simp only [lenA] at hfr
        rw [fromA_end (by omega)] at hfr
        exact hfr

theorem charsL_nl (l : List UInt8) : charsL l = [] ∨ Nl (bytesOf (charsL l)) := by
  unfold charsL
  split
  · exact .inl rfl
  · refine .inr ?_
    unfold withNl
    split
    · rename_i h
      unfold endsNl at h
      cases hg : (chs l 0).getLast? with
      | none => rw [hg] at h; cases h
      | some r =>
        rw [hg] at h
        rw [List.getLast?_eq_getElem?] at hg
        have hlt := (List.getElem?_eq_some_iff.1 hg).1
        refine ⟨by rw [bytesOf_len]; omega, ?_⟩
        rw [bytesOf_len]
        simp only [bytesOf, List.getD, List.getElem?_map, hg]
        simpa using h
    · refine ⟨by simp [bytesOf], ?_⟩
      simp [bytesOf, List.getD]

theorem quiet_two {w : World} {n : Nat} {g : Nat} {u : Value} {k : Nat} (h : w.cell? ⟨g, k, none⟩ = some u) : (w.drewN n).cell? ⟨g, k, none⟩ = some u := h

end Go.Proofs.YtkmlnccdldmmpaaDoor
