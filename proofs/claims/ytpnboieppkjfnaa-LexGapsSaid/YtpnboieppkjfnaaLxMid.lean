/-
  From step to step the run over the characters stays what it is.
-/
import Derived.Test.YtpnboieppkjfnaaLxOver
namespace Go.Proofs.Ytpnboieppkjfnaa
open Go.RowKit

def Lim (a : Acc) (j : Nat) : Prop := a.toks.length ≤ j ∧ a.lines.length ≤ j ∧ a.diags.length ≤ j

theorem Lim.up {a : Acc} {j k : Nat} (h : Lim a j) (hk : j ≤ k) : Lim a k := ⟨Nat.le_trans h.1 hk, Nat.le_trans h.2.1 hk, Nat.le_trans h.2.2 hk⟩

theorem Lim.step {L : List Rn} {sz i : Nat} {a : Acc} (h : Lim a i) (it : It) : Lim (stepA L sz i a it) (i + 1) := by
  obtain ⟨h1, h2, h3⟩ := h
  cases it with
  | nl => exact ⟨by simp [stepA, endA], by simp [stepA, endA]; omega, by simp [stepA, endA]; omega⟩
  | gap n => exact ⟨by simp [stepA]; omega, by simp [stepA]; omega, by simp [stepA]; omega⟩
  | opn => exact ⟨by simp [stepA, endA, tellA], by simp [stepA, endA, tellA]; omega, by simp [stepA, endA, tellA]; omega⟩
  | tk k n =>
    simp only [stepA, takeA, pushA]
    split
    · exact ⟨by simp [tellA]; omega, by simp [tellA]; omega, by simp [tellA]; omega⟩
    · exact ⟨by simp; omega, by simp; omega, by simp; omega⟩

/-- The walk in a state, on its way to R. -/
def Mid (L : List Rn) (sz : Nat) (R : Acc) (i st bg : Nat) (a : Acc) : Prop :=
  i ≤ L.length ∧ ((st = 0 ∧ fromA L sz i a = R ∧ Lim a i) ∨
    (bg < L.length ∧ st = begN ((bytesOf L).drop bg) ∧ fromA L sz bg a = R ∧ Lim a bg ∧
      (((st = 1 ∨ st = 2 ∨ st = 3) ∧ i = bg) ∨ (st = 4 ∧ bg ≤ i ∧ ∀ j, bg ≤ j → j < i → (bytesOf L).getD j 0 ≠ 10) ∨
        (st = 5 ∧ bg ≤ i ∧ (bg + 2 ≤ i → comN ((bytesOf L).drop (bg + 2)) = (comN ((bytesOf L).drop i)).map (· + (i - (bg + 2))))))))

def mu (L : List Rn) (i st : Nat) : Nat := 4 * (L.length - i) + (if st = 0 then 2 else if st = 4 ∧ (bytesOf L).getD i 0 = 10 then 3 else 1)

theorem mu_le (L : List Rn) (i st : Nat) : mu L i st ≤ 4 * (L.length - i) + 3 := by
  unfold mu
  split
  · omega
  · split <;> omega
theorem mu_ge (L : List Rn) (i st : Nat) : 4 * (L.length - i) + 1 ≤ mu L i st := by
  unfold mu
  split
  · omega
  · split <;> omega
theorem mu_next {L : List Rn} {i j s t : Nat} (h : i < j) (hi : i < L.length) : mu L j t < mu L i s := by
  have h1 := mu_le L j t
  have h2 := mu_ge L i s
  omega

theorem remN_at {l : List UInt8} {b : Nat} : ∀ (k : Nat), b + k < l.length → (∀ j, b ≤ j → j < b + k → l.getD j 0 ≠ 10) → l.getD (b + k) 0 = 10 → remN (l.drop b) = k
  | k, hk, hj, h10 => by
    induction k generalizing b with
    | zero =>
      rw [drop_cons (by omega)]
      unfold remN
      rw [if_pos (by simpa using h10)]
    | succ k ih =>
      rw [drop_cons (by omega)]
      unfold remN
      rw [if_neg (hj b (Nat.le_refl _) (by omega)), ih (b := b + 1) (by omega) (fun j h1 h2 => hj j (by omega) (by omega)) (by rw [show b + 1 + k = b + (k + 1) from by omega]; exact h10)]

theorem comN_step {l : List UInt8} {i : Nat} (hi : i < l.length) : comN (l.drop i) = if l.getD i 0 = 42 ∧ l.getD (i + 1) 0 = 47 then some 2 else (comN (l.drop (i + 1))).map (· + 1) := by
  rw [drop_cons hi]
  show (if _ ∧ (l.drop (i + 1)).getD 0 0 = 47 then _ else _) = _
  rw [getD_drop, Nat.add_zero]

theorem tok_kind (l : List UInt8) : (tok l).1 ≤ 100 := by
  unfold tok
  split
  · rename_i x h
    have := (conN_in h).2.2.1
    omega
  · repeat' split
    all_goals simp

def StepPost (E : Env) (R : Acc) (i st : Nat) (e : Ending) (w' : World) : Prop :=
  e = .returned (.tuple #[]) ∧ ∃ i' st' bg' a', Was E i' st' bg' a' w' ∧ Mid E.L E.sz R i' st' bg' a' ∧ mu E.L i' st' < mu E.L i st

theorem step_any {E : Env} {R : Acc} {i st bg : Nat} {a : Acc} {w : World} (h : Was E i st bg a w) (hm : Mid E.L E.sz R i st bg a) (hL : E.L.length ≤ 400000) (hN : Nl (bytesOf E.L)) (hi : i < E.L.length) :
    Calls Try.prog 18 #[.pointer (some ⟨E.g, 0, none⟩)] w (StepPost E R i st) := by
  have hlen := bytesOf_len E.L
  obtain ⟨-, ⟨rfl, hR, hlim⟩ | ⟨hbL, hst, hR, hlim, hcase⟩⟩ := hm
  · refine (step_begin h hL hi).mono ?_
    rintro e w' ⟨rfl, hw⟩
    refine ⟨rfl, _, _, _, _, hw, ⟨by omega, .inr ⟨hi, rfl, hR, hlim, ?_⟩⟩, ?_⟩
    · rcases begN_five ((bytesOf E.L).drop i) with h1 | h1 | h1 | h1 | h1
      · exact .inl ⟨.inl h1, rfl⟩
      · exact .inl ⟨.inr (.inl h1), rfl⟩
      · exact .inl ⟨.inr (.inr h1), rfl⟩
      · exact .inr (.inl ⟨h1, Nat.le_refl _, fun j h2 h3 => by omega⟩)
      · exact .inr (.inr ⟨h1, Nat.le_refl _, fun h2 => by omega⟩)
    · unfold mu
      rw [if_pos rfl]
      rcases begN_five ((bytesOf E.L).drop i) with h1 | h1 | h1 | h1 | h1
      all_goals (rw [h1, if_neg (by omega)])
      all_goals first
        | (rw [if_neg (by omega)]; omega)
        | skip
      have h2 := (begN_four h1).1
      rw [getD_drop, Nat.add_zero] at h2
      rw [if_neg (by rw [h2]; rintro ⟨-, h3⟩; revert h3; decide)]
      omega
  · have hfr := fromA_step (L := E.L) (sz := E.sz) (a := a) hbL
    have hin := lenA_in (L := E.L) hbL
    obtain ⟨it, hit⟩ : ∃ it, item ((bytesOf E.L).drop bg) = it := ⟨_, rfl⟩
    have hls := hlim.step (L := E.L) (sz := E.sz) it
    rw [hit, hR] at hfr
    rw [hit] at hin
    rcases hcase with ⟨h3, rfl⟩ | ⟨rfl, hbi, hno⟩ | ⟨rfl, hbi, hcom⟩
    · rcases h3 with rfl | rfl | rfl
      · have h10 : (bytesOf E.L).getD i 0 ≠ 10 := fun e => by
          rw [begN_two' (by rw [getD_drop]; exact e)] at hst
          cases hst
        obtain ⟨k, n, ht⟩ : ∃ k n, tok ((bytesOf E.L).drop i) = (k, n) := ⟨_, _, rfl⟩
        have hk : k ≤ 100 := by
          have := tok_kind ((bytesOf E.L).drop i)
          rw [ht] at this
          exact this
        rw [item_tk hst.symm, ht] at hit
        subst hit
        refine (step_take h hL hi hN h10 ht hk (by have := hlim.1; omega) (by have := hlim.2.2; omega)).mono ?_
        rintro e w' ⟨rfl, hw⟩
        simp only [lenA] at hin hfr
        exact ⟨rfl, _, _, _, _, hw, ⟨hin.2, .inl ⟨rfl, hfr.symm, hls.up (by omega)⟩⟩, mu_next (by omega) hi⟩
      · rw [item_nl hst.symm] at hit
        subst hit
        refine (step_end h hL hi (by have := hlim.2.1; omega)).mono ?_
        rintro e w' ⟨rfl, hw⟩
        simp only [lenA] at hin hfr
        exact ⟨rfl, _, _, _, _, hw, ⟨hin.2, .inl ⟨rfl, hfr.symm, hls.up (by omega)⟩⟩, mu_next (by omega) hi⟩
      · rw [item_sp hst.symm] at hit
        subst hit
        refine (step_blank h hL hi).mono ?_
        rintro e w' ⟨rfl, hw⟩
        simp only [lenA] at hin hfr
        exact ⟨rfl, _, _, _, _, hw, ⟨hin.2, .inl ⟨rfl, hfr.symm, hls.up (by omega)⟩⟩, mu_next (by omega) hi⟩
    · by_cases h10 : (bytesOf E.L).getD i 0 = 10
      · have hb4 := (begN_four hst.symm).1
        rw [getD_drop, Nat.add_zero] at hb4
        have hne : bg ≠ i := fun e => by
          rw [e, h10] at hb4
          revert hb4
          decide
        have hrem : remN ((bytesOf E.L).drop bg) = i - bg := remN_at (i - bg) (by omega) (fun j h1 h2 => hno j h1 (by omega)) (by rw [show bg + (i - bg) = i from by omega]; exact h10)
        rw [item_rem hst.symm, hrem] at hit
        subst hit
        refine (step_remEnd h hL hi h10).mono ?_
        rintro e w' ⟨rfl, hw⟩
        simp only [lenA] at hin hfr
        rw [show bg + (i - bg) = i from by omega] at hfr
        refine ⟨rfl, _, _, _, _, hw, ⟨by omega, .inl ⟨rfl, hfr.symm, hls.up (by omega)⟩⟩, ?_⟩
        unfold mu
        rw [if_pos rfl, if_neg (by omega), if_pos ⟨rfl, h10⟩]
        omega
      · refine (step_remOn h hL hi h10).mono ?_
        rintro e w' ⟨rfl, hw⟩
        refine ⟨rfl, _, _, _, _, hw, ⟨by omega, .inr ⟨hbL, hst, hR, hlim, .inr (.inl ⟨rfl, by omega, fun j h1 h2 => ?_⟩)⟩⟩, mu_next (by omega) hi⟩
        by_cases e : j = i
        · rw [e]; exact h10
        · exact hno j h1 (by omega)
    · by_cases hb2 : bg + 2 ≤ i
      · have hcs := comN_step (l := bytesOf E.L) (i := i) (by omega)
        have hc0 := hcom hb2
        by_cases hc : (bytesOf E.L).getD i 0 = 42 ∧ (bytesOf E.L).getD (i + 1) 0 = 47
        · rw [if_pos hc] at hcs
          rw [hcs] at hc0
          have hd : comN (((bytesOf E.L).drop bg).drop 2) = some (2 + (i - (bg + 2))) := by rw [List.drop_drop]; exact hc0
          rw [item_com hst.symm hd] at hit
          subst hit
          refine (step_comEnd h hL hi hb2 hc).mono ?_
          rintro e w' ⟨rfl, hw⟩
          simp only [lenA] at hin hfr
          rw [show bg + (2 + (i - (bg + 2)) + 2) = i + 2 from by omega] at hfr hin
          exact ⟨rfl, _, _, _, _, hw, ⟨hin.2, .inl ⟨rfl, hfr.symm, hls.up (by omega)⟩⟩, mu_next (by omega) hi⟩
        · rw [if_neg hc] at hcs
          refine (step_comOn h hL hi hb2 hc).mono ?_
          rintro e w' ⟨rfl, hw⟩
          refine ⟨rfl, _, _, _, _, hw, ⟨by omega, .inr ⟨hbL, hst, hR, hlim, .inr (.inr ⟨rfl, by omega, fun _ => ?_⟩)⟩⟩, mu_next (by omega) hi⟩
          rw [hc0, hcs, Option.map_map]
          congr 1
          funext n
          simp
          omega
      · refine (step_comIn h hL hi hb2 hbL).mono ?_
        rintro e w' ⟨rfl, hw⟩
        refine ⟨rfl, _, _, _, _, hw, ⟨by omega, .inr ⟨hbL, hst, hR, hlim, .inr (.inr ⟨rfl, by omega, fun h2 => ?_⟩)⟩⟩, mu_next (by omega) hi⟩
        rw [show i + 1 = bg + 2 from by omega, Nat.sub_self]
        simp

end Go.Proofs.Ytpnboieppkjfnaa
