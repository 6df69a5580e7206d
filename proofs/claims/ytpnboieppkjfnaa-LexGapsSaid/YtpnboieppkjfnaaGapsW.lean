/-
  LexGaps: what its walk needs.
-/
import Derived.Test.YtpnboieppkjfnaaGapsL
import Derived.Test.YtpnboieppkjfnaaLLong
namespace Go.Proofs.Ytpnboieppkjfnaa
open Go.RowKit

/-- A row of texts that came in. -/
def StrsAt (a : Option Addr) (xs : List (List UInt8)) (w : World) : Prop := ∀ i x, xs[i]? = some x → ∃ ad, a = some ad ∧ ad.block < w.heap.size ∧ w.cell? (ad.add i) = some (.string ⟨x.toArray⟩)
theorem StrsAt.later {a : Option Addr} {xs : List (List UInt8)} {w w' : World} (h : StrsAt a xs w) (hb : Below w.heap.size w w') : StrsAt a xs w' := by
  intro i x hx
  obtain ⟨ad, h1, h2, h3⟩ := h i x hx
  exact ⟨ad, h1, Nat.lt_of_lt_of_le h2 hb.size, (hb.cell (by rw [add_block3]; exact h2)).trans h3⟩

/-- The gaps and words so far. -/
def sText : List (List UInt8 × List UInt8) → List UInt8
  | [] => []
  | p :: r => p.1 ++ (p.2 ++ sText r)
theorem sText_snoc (P : List (List UInt8 × List UInt8)) (p : List UInt8 × List UInt8) : sText (P ++ [p]) = sText P ++ p.1 ++ p.2 := by
  induction P with
  | nil => simp [sText]
  | cons q r ih =>
    show q.1 ++ (q.2 ++ sText (r ++ [p])) = _
    rw [ih]
    simp [sText]
theorem gText_is (P : List (List UInt8 × List UInt8)) : gText P = sText P ++ tailG := by
  induction P with
  | nil => rfl
  | cons q r ih =>
    show q.1 ++ (q.2 ++ gText r) = _
    rw [ih]
    simp [sText]

/-- The first k words, each with a gap. -/
def GapRel (ws : List (List UInt8)) (k : Nat) (s : ByteArray) : Prop := ∃ P : List (List UInt8 × List UInt8), P.map Prod.snd = ws.take k ∧ (∀ p ∈ P, p.1 ∈ GK ∧ LowW p.2) ∧ s.data.toList = sText P
theorem GapRel.zero (ws : List (List UInt8)) : GapRel ws 0 ⟨#[]⟩ := ⟨[], rfl, (by intro p hp; cases hp), rfl⟩
theorem GapRel.on {ws : List (List UInt8)} {k : Nat} {s g x : ByteArray} (h : GapRel ws k s) (hx : ws[k]? = some x.data.toList) (hg : g.data.toList ∈ GK) (hw : LowW x.data.toList) : GapRel ws (k + 1) (s ++ g ++ x) := by
  obtain ⟨P, h1, h2, h3⟩ := h
  refine ⟨P ++ [(g.data.toList, x.data.toList)], ?_, fun p hp => ?_, ?_⟩
  · rw [List.map_append, h1, List.take_add_one, hx]
    rfl
  · rcases List.mem_append.1 hp with hp | hp
    · exact h2 p hp
    · simp only [List.mem_cons, List.not_mem_nil, or_false] at hp
      subst hp
      exact ⟨hg, hw⟩
  · rw [append_data, append_data, h3, sText_snoc]

theorem GapT.get : ∀ {P : List (List UInt8 × List UInt8)} {T : List Tk}, GapT P T → T.length = P.length ∧ ∀ (j : Nat) (t : Tk), T[j]? = some t → t.k = 1 ∧ t.sp = true ∧ (P.map Prod.snd)[j]? = some t.x
  | [], T, h => by
    have : T = [] := h
    subst this
    exact ⟨rfl, fun j t h => by simp at h⟩
  | p :: r, T, h => by
    obtain ⟨t, T', rfl, h1, h2, h3, h4⟩ := h
    obtain ⟨hl, hg⟩ := GapT.get h4
    refine ⟨by simp [hl], fun j u hu => ?_⟩
    cases j with
    | zero =>
      simp only [List.getElem?_cons_zero, Option.some.injEq] at hu
      subst hu
      exact ⟨h1, h2, by simp [h3]⟩
    | succ j => exact hg j u (by simpa using hu)

end Go.Proofs.Ytpnboieppkjfnaa
