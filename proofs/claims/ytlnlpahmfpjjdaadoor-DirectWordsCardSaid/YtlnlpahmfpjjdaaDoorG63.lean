/-
  Texts of the proof, put together: DwB.
-/
import Derived.Test.YtlnlpahmfpjjdaaDoorG62
import Derived.Test.YtlnlpahmfpjjdaaDoorG32

/-
  What the calls of DirectWords answer, at once.
-/
namespace Go.Proofs.YtlnlpahmfpjjdaaDoor
open Go.RowKit

theorem lexT_F {s : ByteArray} {l : List UInt8} (h : s.data.toList = l) : lexT s = (lexF l).map (xtOf fB) := by
  unfold lexT lexF
  rw [h, ← h, len_byte]
theorem tkN_le : ∀ (m : Nat) (l : List UInt8), tkN m l ≤ m
  | 0, _ => Nat.le_refl _
  | m + 1, l => by
    unfold tkN
    cases item l with
    | nl => exact Nat.zero_le _
    | opn => exact Nat.zero_le _
    | gap n => have := tkN_le m (l.drop n); simp only; omega
    | tk k n => have := tkN_le m (l.drop n); simp only; omega
theorem hash_tk {u : Tk} {h : List UInt8} (h1 : u.k = 5) (h2 : u.x = h) (hh : IsH h) : hashX (xtOf fB u) = true := by
  apply hash_is
  show (decide ((u.k : Int) = 5) && (u.x.toArray.toList == [35] || u.x.toArray.toList == [37, 58])) = true
  rw [h1, h2]
  rcases hh with rfl | rfl <;> decide
theorem hash_not {u : Tk} (h1 : u.k = 1) : hashX (xtOf fB u) = false := by
  apply hash_is
  show (decide ((u.k : Int) = 5) && _) = false
  rw [h1]
  rfl

def LenNew (n : Nat) (w : World) (e : Ending) (w' : World) : Prop := ∃ a c, e = .returned (.slice a n c) ∧ Below w.heap.size w w'

/-- What is asked of the words, a kind and a spelling of the hash at hand. -/
structure Bun (W : World) (bl re H : ByteArray) (Z : Int) (wv : ByteArray) (nb : Nat) : Prop where
  sz : wv.size ≤ 7
  ne : (wv.toList == []) = false
  word : ∀ X : World, Below W.heap.size W X → Calls Tryd.prog 17 #[.int .i64 Z] X (StrIs wv X)
  a : ∀ X : World, Below W.heap.size W X → Calls Tryd.prog 20 #[.string (bl ++ H ++ bl ++ wv ++ ⟨#[32]⟩ ++ re ++ ⟨#[10]⟩)] X (fun e Y => ∃ v n c, e = .returned (.slice v n c) ∧ Below X.heap.size X Y ∧
    (∀ V : World, Below Y.heap.size Y V → Below W.heap.size W V → Calls Tryd.prog 12 #[.slice v n c] V (IntNew Z V)) ∧ ∀ V : World, Below Y.heap.size Y V → Below W.heap.size W V → Calls Tryd.prog 15 #[.slice v n c] V (LenNew nb V))
  b : ∀ X : World, Calls Tryd.prog 20 #[.string re] X (LenNew nb X)
  c : ∀ X : World, Below W.heap.size W X → Calls Tryd.prog 20 #[.string (wv ++ ⟨#[32]⟩ ++ re)] X (fun e Y => ∃ v n c, e = .returned (.slice v n c) ∧ Below X.heap.size X Y ∧ Calls Tryd.prog 12 #[.slice v n c] Y (IntNew 0 Y))
  d : ∀ X : World, Below W.heap.size W X → Calls Tryd.prog 20 #[.string (⟨#[120, 32]⟩ ++ H ++ wv)] X (fun e Y => ∃ v n c, e = .returned (.slice v n c) ∧ Below X.heap.size X Y ∧ Calls Tryd.prog 12 #[.slice v n c] Y (IntNew 0 Y))
  e : ∀ X : World, Below W.heap.size W X → Calls Tryd.prog 20 #[.string (H ++ wv ++ ⟨#[120]⟩)] X (fun e Y => ∃ v n c, e = .returned (.slice v n c) ∧ Below X.heap.size X Y ∧ Calls Tryd.prog 12 #[.slice v n c] Y (IntNew 14 Y))
  f : ∀ X : World, Below W.heap.size W X → Calls Tryd.prog 20 #[.string (bl ++ H ++ bl)] X (fun e Y => ∃ v n c, e = .returned (.slice v n c) ∧ Below X.heap.size X Y ∧ Calls Tryd.prog 12 #[.slice v n c] Y (IntNew 1 Y))

theorem wB_size {k : Nat} (h1 : 2 ≤ k) (h2 : k < 14) : (wB k).size ≤ 7 := by
  have : k = 2 ∨ k = 3 ∨ k = 4 ∨ k = 5 ∨ k = 6 ∨ k = 7 ∨ k = 8 ∨ k = 9 ∨ k = 10 ∨ k = 11 ∨ k = 12 ∨ k = 13 := by omega
  rcases this with rfl | rfl | rfl | rfl | rfl | rfl | rfl | rfl | rfl | rfl | rfl | rfl <;> decide

/-- A text that was lexed, and the kind of its line. -/
theorem lex_kind {W : World} (hW : WordsAt 0 W) (h0 : 0 < W.heap.size) {s : ByteArray} {l : List UInt8} {K : Nat} (hs : s.data.toList = l) (hz : s.size ≤ 100000) (hk : kindL ((lexF l).map (xtOf fB)) = K) {Z : Int} (hZ : (K : Int) = Z) :
    ∀ X : World, Below W.heap.size W X → Calls Tryd.prog 20 #[.string s] X (fun e Y => ∃ v n c, e = .returned (.slice v n c) ∧ Below X.heap.size X Y ∧ Calls Tryd.prog 12 #[.slice v n c] Y (IntNew Z Y)) := by
  intro X hX
  refine (lexed_any s X hz).mono ?_
  rintro e Y ⟨v, n, c, rfl, -, hx, hb⟩
  have hWY := below_up hX hb
  rw [lexT_F hs] at hx
  have := kind_any hx (hW.next hWY h0) (Nat.lt_of_lt_of_le h0 hWY.size)
  rw [hk, hZ] at this
  exact ⟨v, n, c, rfl, hb, this⟩

theorem bun_of {W : World} (hW : WordsAt 0 W) (h0 : 0 < W.heap.size) {bl re H : ByteArray} (hH : IsH H.data.toList) (hb : Blk bl.data.toList) (hr : Prn re.data.toList) (hbs : bl.size ≤ 20) (hrs : re.size ≤ 100) {k0 : Nat} (hk0 : k0 < 12) :
    ∃ wv nb, Bun W bl re H (2 + (k0 : Int)) wv nb := by
  have h1 : 2 ≤ k0 + 2 := by omega
  have h2 : k0 + 2 < 14 := by omega
  have hZ : (((k0 + 2 : Nat) : Nat) : Int) = 2 + (k0 : Int) := by omega
  have hHs : H.size ≤ 2 := by rw [← len_byte]; rcases hH with h | h <;> (rw [h]; decide)
  have hws := wB_size h1 h2
  refine ⟨wB (k0 + 2), tkN (re.data.toList.length + 1) (re.data.toList ++ [10]), ?_⟩
  obtain ⟨u1, u2, U, eA, a1, a2, a3, a4, a5⟩ := lexA hH h1 h2 hb hr
  have hU := tkN_le (re.data.toList.length + 1) (re.data.toList ++ [10])
  rw [← a5, len_byte] at hU
  have hkA : kindL ((u1 :: u2 :: U).map (xtOf fB)) = k0 + 2 := by
    show kindL (xtOf fB u1 :: xtOf fB u2 :: U.map (xtOf fB)) = _
    rw [kind_two (hash_tk a1 a2 hH), if_pos (by show (u2.k : Int) = 1; rw [a3]; rfl)]
    show wKind ⟨u2.x.toArray⟩ = _
    rw [a4]
    have e : (⟨(wB (k0 + 2)).data.toList.toArray⟩ : ByteArray) = wB (k0 + 2) := by
      apply ByteArray.ext
      simp
    rw [e]
    exact wKind_word _ h1 h2
  obtain ⟨uC, UC, eC, c1⟩ := lexC h1 h2 hr
  obtain ⟨uD, UD, eD, d1⟩ := lexD hH h1 h2
  obtain ⟨uE, vE, eE, e1, e2, e3, e4⟩ := lexE hH h1 h2
  obtain ⟨uF, eF, f1, f2⟩ := lexG hH hb
  refine ⟨hws, wB_some _ h1 h2, fun X hX => ?_, fun X hX => ?_, fun X => ?_, ?_, ?_, ?_, ?_⟩
  · have := word_is (2 + (k0 : Int)) (hW.next hX h0)
    rw [← hZ] at this
    unfold wordZ at this
    rw [if_pos (by omega)] at this
    rw [← hZ]
    exact this
  · refine (lexed_any _ X (by simp only [ByteArray.size_append]; have : (⟨#[32]⟩ : ByteArray).size = 1 := rfl; have : (⟨#[10]⟩ : ByteArray).size = 1 := rfl; omega)).mono ?_
    rintro e Y ⟨v, n, c, rfl, -, hx, hb⟩
    rw [lexT_F (l := bl.data.toList ++ (H.data.toList ++ (bl.data.toList ++ ((wB (k0 + 2)).data.toList ++ 32 :: (re.data.toList ++ [10]))))) (by simp), eA] at hx
    refine ⟨v, n, c, rfl, hb, fun V hV hWV => ?_, fun V hV hWV => ?_⟩
    · have := kind_any (hx.over hV) (hW.next hWV h0) (Nat.lt_of_lt_of_le h0 hWV.size)
      rw [hkA, hZ] at this
      exact this
    · refine (rest_any (hx.over hV) (hW.next hWV h0) (Nat.lt_of_lt_of_le h0 hWV.size) (by simp; omega) (fun t ht => ?_)).mono ?_
      · obtain ⟨u, -, rfl⟩ := List.mem_map.1 ht
        exact Nat.zero_le _
      · rintro e Y' ⟨v', n', c', rfl, hn, -, hb'⟩
        rw [rest_high (by rw [hkA]; omega)] at hn
        have hn' : n' = tkN (re.data.toList.length + 1) (re.data.toList ++ [10]) := by
          rw [hn, ← a5]
          simp
        subst hn'
        exact ⟨v', c', rfl, hb'⟩
  · refine (lexed_any re X (by omega)).mono ?_
    rintro e Y ⟨v, n, c, rfl, hn, -, hb⟩
    rw [lexT_F rfl, List.length_map, lexB hr] at hn
    subst hn
    exact ⟨v, c, rfl, hb⟩
  · exact lex_kind hW h0 (l := (wB (k0 + 2)).data.toList ++ 32 :: re.data.toList) (by simp) (by simp only [ByteArray.size_append]; have : (⟨#[32]⟩ : ByteArray).size = 1 := rfl; omega) (by rw [eC]; exact kind_no (hash_not c1)) rfl
  · exact lex_kind hW h0 (l := [120, 32] ++ (H.data.toList ++ (wB (k0 + 2)).data.toList)) (by simp) (by simp only [ByteArray.size_append]; have : (⟨#[120, 32]⟩ : ByteArray).size = 2 := rfl; omega) (by rw [eD]; exact kind_no (hash_not d1)) rfl
  · exact lex_kind hW h0 (l := H.data.toList ++ ((wB (k0 + 2)).data.toList ++ [120])) (by simp) (by simp only [ByteArray.size_append]; have : (⟨#[120]⟩ : ByteArray).size = 1 := rfl; omega) (K := 14) (by
      rw [eE]
      show kindL (xtOf fB uE :: xtOf fB vE :: []) = 14
      rw [kind_two (hash_tk e1 e2 hH), if_pos (by show (vE.k : Int) = 1; rw [e3]; rfl)]
      show wKind ⟨vE.x.toArray⟩ = 14
      rw [e4]
      exact word_no h1 h2) rfl
  · exact lex_kind hW h0 (l := bl.data.toList ++ (H.data.toList ++ bl.data.toList)) (by simp) (by simp only [ByteArray.size_append]; omega) (by rw [eF]; exact kind_one (hash_tk f1 f2 hH)) rfl

end Go.Proofs.YtlnlpahmfpjjdaaDoor
