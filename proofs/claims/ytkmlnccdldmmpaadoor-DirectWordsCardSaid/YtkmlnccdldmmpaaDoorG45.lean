/-
  Texts of the proof, put together: DwL.
-/
import Derived.Test.YtkmlnccdldmmpaaDoorG38
import Derived.Test.YtkmlnccdldmmpaaDoorG43
import Derived.Test.YtkmlnccdldmmpaaDoorG44

/-
  A directive's line, lexed: over lists.
-/
namespace Go.Proofs.YtkmlnccdldmmpaaDoor
open Go.RowKit

/-- How many tokens are left up to a line's end. -/
def tkN : Nat → List UInt8 → Nat
  | 0, _ => 0
  | m + 1, l => match item l with
    | .nl => 0
    | .opn => 0
    | .gap n => tkN m (l.drop n)
    | .tk _ n => tkN m (l.drop n) + 1

theorem takeA_is (L : List Rn) (a : Acc) (k i n : Nat) : (takeA L a k i n).lines = a.lines ∧ ∃ u : Tk, (takeA L a k i n).toks = a.toks ++ [u] ∧ u.k = k ∧ u.x = ((bytesOf L).drop i).take n := by
  unfold takeA pushA
  split
  · exact ⟨rfl, _, rfl, rfl, rfl⟩
  · exact ⟨rfl, _, rfl, rfl, rfl⟩

theorem lines_more (L : List Rn) (sz : Nat) : ∀ (m i : Nat) (a : Acc), ∃ r, (runA L sz m i a).lines = a.lines ++ r
  | 0, i, a => ⟨[], by simp [runA]⟩
  | m + 1, i, a => by
    unfold runA
    split
    · obtain ⟨r, hr⟩ := lines_more L sz m (i + lenA L i (item ((bytesOf L).drop i))) (stepA L sz i a (item ((bytesOf L).drop i)))
      have hs : ∃ r', (stepA L sz i a (item ((bytesOf L).drop i))).lines = a.lines ++ r' := by
        cases item ((bytesOf L).drop i) with
        | nl => exact ⟨_, rfl⟩
        | gap n => exact ⟨[], by simp [stepA]⟩
        | opn => exact ⟨_, rfl⟩
        | tk k n => exact ⟨[], by simp [stepA, (takeA_is L a k i n).1]⟩
      obtain ⟨r', hr'⟩ := hs
      exact ⟨r' ++ r, by rw [hr, hr', List.append_assoc]⟩
    · exact ⟨[], by simp⟩

/-- The line that is under way, to its end. -/
theorem line_from {L : List Rn} {sz : Nat} (hE : E10 (bytesOf L)) : ∀ (m i : Nat) (a : Acc), L.length - i ≤ m → i < L.length → a.lines = [] →
    ∃ U ln r, (fromA L sz i a).lines = ln :: r ∧ ln.toks = a.toks ++ U ∧ U.length = tkN m ((bytesOf L).drop i)
  | 0, i, a, hm, hi, _ => by omega
  | m + 1, i, a, hm, hi, ha => by
    have hl := lenA_in hi
    rw [fromA_step hi]
    have hfin : ∀ (j : Nat) (b : Acc) (ln : Ln), b.lines = [ln] → ∃ r, (fromA L sz j b).lines = ln :: r := fun j b ln hb => by
      obtain ⟨r, hr⟩ := lines_more L sz (L.length - j) j b
      exact ⟨r, by unfold fromA; rw [hr, hb]; rfl⟩
    cases hit : item ((bytesOf L).drop i) with
    | nl =>
      obtain ⟨r, hr⟩ := hfin (i + lenA L i .nl) (stepA L sz i a .nl) ⟨a.toks, a.fr, toA L sz (i + 1), false⟩ (by simp [stepA, endA, ha])
      exact ⟨[], _, r, hr, by simp, by simp [tkN, hit]⟩
    | opn =>
      obtain ⟨r, hr⟩ := hfin (i + lenA L i .opn) (stepA L sz i a .opn) ⟨a.toks, a.fr, sz, true⟩ (by simp [stepA, endA, tellA, ha])
      exact ⟨[], _, r, hr, by simp, by simp [tkN, hit]⟩
    | gap n =>
      rw [hit] at hl
      have hlt : i + lenA L i (.gap n) < L.length := by
        rcases Nat.lt_or_ge (i + lenA L i (.gap n)) L.length with h | h
        · exact h
        · have := item_last hE hi (by rw [hit]; simp) (by rw [hit]; omega)
          rw [hit] at this
          cases this
      simp only [lenA] at hl hlt
      obtain ⟨U, ln, r, h1, h2, h3⟩ := line_from hE m (i + n) (stepA L sz i a (.gap n)) (by omega) hlt ha
      refine ⟨U, ln, r, h1, h2, ?_⟩
      rw [h3]
      simp [tkN, hit]
    | tk k n =>
      rw [hit] at hl
      have hlt : i + lenA L i (.tk k n) < L.length := by
        rcases Nat.lt_or_ge (i + lenA L i (.tk k n)) L.length with h | h
        · exact h
        · have := item_last hE hi (by rw [hit]; simp) (by rw [hit]; omega)
          rw [hit] at this
          cases this
      simp only [lenA] at hl hlt
      obtain ⟨t1, u, t2, -, -⟩ := takeA_is L a k i n
      obtain ⟨U, ln, r, h1, h2, h3⟩ := line_from hE m (i + n) (stepA L sz i a (.tk k n)) (by omega) hlt (t1.trans ha)
      refine ⟨u :: U, ln, r, h1, ?_, ?_⟩
      · rw [h2]
        show (takeA L a k i n).toks ++ U = _
        rw [t2]
        simp
      · simp [tkN, hit, h3]

/-- Blanks ahead. -/
theorem run_blanks {L : List Rn} {sz : Nat} (t : List UInt8) : ∀ (b : List UInt8) (i : Nat) (a : Acc), (∀ c ∈ b, c = 32 ∨ c = 9) → (bytesOf L).drop i = b ++ t →
    ∃ a', fromA L sz i a = fromA L sz (i + b.length) a' ∧ a'.toks = a.toks ∧ a'.lines = a.lines ∧ (bytesOf L).drop (i + b.length) = t
  | [], i, a, _, hd => ⟨a, rfl, rfl, rfl, hd⟩
  | c :: b, i, a, hb, hd => by
    have hi : i < L.length := by
      rw [← bytesOf_len]
      rcases Nat.lt_or_ge i (bytesOf L).length with h | h
      · exact h
      · rw [List.drop_eq_nil_of_le h] at hd
        cases hd
    have hit : item ((bytesOf L).drop i) = .gap 1 := by
      rw [hd]
      rcases hb c List.mem_cons_self with rfl | rfl
      · rfl
      · rfl
    have hd1 : (bytesOf L).drop (i + 1) = b ++ t := by
      rw [← List.drop_drop, hd]
      rfl
    obtain ⟨a', h1, h2, h3, h4⟩ := run_blanks t b (i + 1) (stepA L sz i a (.gap 1)) (fun c hc => hb c (List.mem_cons_of_mem _ hc)) hd1
    refine ⟨a', ?_, h2, h3, ?_⟩
    · rw [fromA_step hi, hit]
      simp only [lenA]
      rw [h1, List.length_cons, show i + 1 + b.length = i + (b.length + 1) from by omega]
    · rw [List.length_cons, show i + (b.length + 1) = i + 1 + b.length from by omega]
      exact h4

/-- A token ahead. -/
theorem run_tk {L : List Rn} {sz k i : Nat} {x t : List UInt8} {a : Acc} (hd : (bytesOf L).drop i = x ++ t) (hx : x ≠ []) (hit : item (x ++ t) = .tk k x.length) :
    ∃ a' u, fromA L sz i a = fromA L sz (i + x.length) a' ∧ a'.lines = a.lines ∧ a'.toks = a.toks ++ [u] ∧ u.k = k ∧ u.x = x ∧ (bytesOf L).drop (i + x.length) = t := by
  have hi : i < L.length := by
    rw [← bytesOf_len]
    rcases Nat.lt_or_ge i (bytesOf L).length with h | h
    · exact h
    · rw [List.drop_eq_nil_of_le h] at hd
      exact absurd (List.append_eq_nil_iff.1 hd.symm).1 hx
  obtain ⟨t1, u, t2, t3, t4⟩ := takeA_is L a k i x.length
  refine ⟨takeA L a k i x.length, u, ?_, t1, t2, t3, ?_, ?_⟩
  · rw [fromA_step hi, hd, hit]
    rfl
  · rw [t4, hd]
    simp
  · rw [← List.drop_drop, hd]
    simp

def kxT (u : Tk) : Nat × List UInt8 := (u.k, u.x)

/-- What begins there, of a text that was put together. -/
theorem hash_item {c : UInt8} (hc : c ∈ ([32, 9, 10, 105, 101, 100, 117, 108, 112] : List UInt8)) (r : List UInt8) : item ([35] ++ c :: r) = .tk 5 1 ∧ item ([37, 58] ++ c :: r) = .tk 5 2 := by
  simp only [List.mem_cons, List.not_mem_nil, or_false] at hc
  rcases hc with rfl | rfl | rfl | rfl | rfl | rfl | rfl | rfl | rfl <;> exact ⟨rfl, rfl⟩
theorem word_item {k : Nat} (h1 : 2 ≤ k) (h2 : k < 14) (r : List UInt8) : item ((wB k).data.toList ++ 32 :: r) = .tk 1 (wB k).data.toList.length ∧ item (((wB k).data.toList ++ [120]) ++ 10 :: r) = .tk 1 ((wB k).data.toList ++ [120]).length ∧ ∃ c q, (wB k).data.toList = c :: q ∧ c ∈ ([32, 9, 10, 105, 101, 100, 117, 108, 112] : List UInt8) := by
  have : k = 2 ∨ k = 3 ∨ k = 4 ∨ k = 5 ∨ k = 6 ∨ k = 7 ∨ k = 8 ∨ k = 9 ∨ k = 10 ∨ k = 11 ∨ k = 12 ∨ k = 13 := by omega
  rcases this with rfl | rfl | rfl | rfl | rfl | rfl | rfl | rfl | rfl | rfl | rfl | rfl <;> exact ⟨rfl, rfl, _, _, rfl, by decide⟩
theorem word_no {k : Nat} (h1 : 2 ≤ k) (h2 : k < 14) : wKind ⟨((wB k).data.toList ++ [120]).toArray⟩ = 14 := by
  have : k = 2 ∨ k = 3 ∨ k = 4 ∨ k = 5 ∨ k = 6 ∨ k = 7 ∨ k = 8 ∨ k = 9 ∨ k = 10 ∨ k = 11 ∨ k = 12 ∨ k = 13 := by omega
  rcases this with rfl | rfl | rfl | rfl | rfl | rfl | rfl | rfl | rfl | rfl | rfl | rfl <;> decide

end Go.Proofs.YtkmlnccdldmmpaaDoor
