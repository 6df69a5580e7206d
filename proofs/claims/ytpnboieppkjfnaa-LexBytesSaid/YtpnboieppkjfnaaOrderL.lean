/-
  Characters stand in order; a text without questions and backslashes is itself; over lists.
-/
import Derived.Test.YtpnboieppkjfnaaPartsL
namespace Go.Proofs.Ytpnboieppkjfnaa

def Ord (n : Nat) : Nat → List Rn → Prop
  | _, [] => True
  | a, r :: q => a ≤ r.f ∧ r.f ≤ r.t ∧ r.t ≤ n ∧ r.t ≤ r.f + 3 ∧ Ord n r.t q

theorem Ord.low {n : Nat} {a b : Nat} (h : a ≤ b) : ∀ {L : List Rn}, Ord n b L → Ord n a L
  | [], _ => trivial
  | _ :: _, hL => ⟨Nat.le_trans h hL.1, hL.2⟩

theorem chs_ord (l : List UInt8) : ∀ (n i : Nat), l.length - i ≤ n → Ord l.length i (chs l i)
  | 0, i, h => by
    rw [chs_end (by omega)]
    trivial
  | n + 1, i, h => by
    by_cases hi : i < l.length
    · have ht := tk_t l i
      have hn := chs_ord l n (tk l i).1.t (by omega)
      rw [chs_step hi]
      cases hs : (tk l i).2 with
      | false => exact Ord.low (by omega) hn
      | true =>
        have h2 := tk_stands hs
        have h3 := one_t l i
        rw [if_pos rfl]
        refine ⟨by rw [tk_f]; exact Nat.le_refl _, by rw [tk_f]; omega, ht.2.2 hi, ?_, hn⟩
        rw [tk_f, h2]
        exact h3.2.1
    · rw [chs_end (by omega)]
      trivial

theorem Ord.snoc {n c : Nat} : ∀ {L : List Rn} {a : Nat}, Ord n a L → a ≤ n → Ord n a (L ++ [⟨UInt8.ofNat c, n, n⟩])
  | [], a, _, ha => ⟨ha, Nat.le_refl _, Nat.le_refl _, by simp, trivial⟩
  | _ :: _, _, h, _ => ⟨h.1, h.2.1, h.2.2.1, h.2.2.2.1, Ord.snoc h.2.2.2.2 h.2.2.1⟩

theorem charsL_ord (l : List UInt8) : Ord l.length 0 (charsL l) := by
  have h := chs_ord l _ 0 (Nat.le_refl _)
  unfold charsL withNl
  split
  · trivial
  · split
    · exact h
    · exact Ord.snoc (c := 10) h (Nat.zero_le _)

theorem Ord.step {n a k : Nat} {L : List Rn} {r : Rn} (h : Ord n a (L.drop k)) (hr : L[k]? = some r) : a ≤ r.f ∧ r.f ≤ r.t ∧ r.t ≤ n ∧ r.t ≤ r.f + 3 ∧ Ord n r.t (L.drop (k + 1)) := by
  obtain ⟨hk, rfl⟩ := List.getElem?_eq_some_iff.1 hr
  rw [List.drop_eq_getElem_cons hk] at h
  exact h

/-- No question and no backslash among the first k. -/
def plB (l : List UInt8) (k : Nat) : Bool := (l.take k).all fun c => decide (c ≠ 63) && decide (c ≠ 92)
theorem plB_zero (l : List UInt8) : plB l 0 = true := rfl
theorem plB_step {l : List UInt8} {k : Nat} (h : k < l.length) : plB l (k + 1) = (plB l k && (decide (l.getD k 0 ≠ 63) && decide (l.getD k 0 ≠ 92))) := by
  unfold plB
  rw [List.take_succ_eq_append_getElem h, List.all_append]
  simp [List.getD, List.getElem?_eq_getElem h]

theorem plB_get {l : List UInt8} (h : plB l l.length = true) {i : Nat} (hi : i < l.length) : l.getD i 0 ≠ 63 ∧ l.getD i 0 ≠ 92 := by
  unfold plB at h
  rw [List.take_length, List.all_eq_true] at h
  have := h _ (List.getElem_mem hi)
  simp only [Bool.and_eq_true, decide_eq_true_eq] at this
  simpa [List.getD, List.getElem?_eq_getElem hi] using this

theorem tk_plain {l : List UInt8} (h : plB l l.length = true) {i : Nat} (hi : i < l.length) : tk l i = (⟨l.getD i 0, i, i + 1⟩, true) :=
  tk_byte (triAt_not (plB_get h hi).1) (plB_get h hi).2

theorem chs_plain {l : List UInt8} (h : plB l l.length = true) : ∀ (n i : Nat), l.length - i ≤ n → i ≤ l.length → chs l i = (l.drop i).zipIdx.map (fun p => (⟨p.1, i + p.2, i + p.2 + 1⟩ : Rn)) 
  | 0, i, hn, hi => by
    rw [chs_end (by omega), List.drop_eq_nil_of_le (by omega)]
    rfl
  | n + 1, i, hn, hi => by
    by_cases hlt : i < l.length
    · rw [chs_step hlt, tk_plain h hlt, chs_plain h n (i + 1) (by omega) hlt, List.drop_eq_getElem_cons hlt]
      rw [if_pos rfl, List.zipIdx_cons, List.map_cons, List.singleton_append]
      congr 1
      · simp [List.getD, List.getElem?_eq_getElem hlt]
      · rw [List.zipIdx_succ, List.map_map]
        apply List.map_congr_left
        rintro ⟨c, j⟩ -
        simp
        omega
    · rw [chs_end (by omega), List.drop_eq_nil_of_le (by omega)]
      rfl

theorem chs_plain_get {l : List UInt8} (h : plB l l.length = true) {k : Nat} (hk : k < l.length) : (chs l 0)[k]? = some ⟨l.getD k 0, k, k + 1⟩ := by
  rw [chs_plain h _ 0 (Nat.le_refl _) (Nat.zero_le _), List.drop_zero, List.getElem?_map, List.getElem?_zipIdx, List.getElem?_eq_getElem hk]
  simp [List.getD, List.getElem?_eq_getElem hk]

theorem chs_plain_map {l : List UInt8} (h : plB l l.length = true) : (chs l 0).map Rn.c = l := by
  rw [chs_plain h _ 0 (Nat.le_refl _) (Nat.zero_le _), List.drop_zero, List.map_map]
  exact List.zipIdx_map_fst 0 l

theorem charsL_plain {l : List UInt8} (h : plB l l.length = true) {k : Nat} (hk : k < l.length) : (charsL l)[k]? = some ⟨l.getD k 0, k, k + 1⟩ := by
  have h1 := chs_plain_get h hk
  unfold charsL withNl
  rw [if_neg (by intro e; rw [e] at hk; simp at hk)]
  split
  · exact h1
  · obtain ⟨hlt, -⟩ := List.getElem?_eq_some_iff.1 h1
    rw [List.getElem?_append_left hlt]
    exact h1

theorem back_plain {l : List UInt8} (h : plB l l.length = true) : backL l 0 l.length = l := by
  rw [backL_whole l _ (Int.le_refl _), chs_plain_map h]

theorem charsL_count (l : List UInt8) : (charsL l).length ≤ l.length + 1 ∧ (l ≠ [] → 0 < (charsL l).length) := by
  have h := chs_len l _ 0 (Nat.le_refl _)
  unfold charsL withNl
  split
  · rename_i h0
    exact ⟨by simp, fun h1 => absurd h0 h1⟩
  · split
    · rename_i h1
      refine ⟨by omega, fun _ => ?_⟩
      cases hc : chs l 0 with
      | nil => rw [hc] at h1; cases h1
      | cons a q => simp
    · exact ⟨by simp; omega, fun _ => by simp⟩

theorem charsL_last {l : List UInt8} {m : Nat} {r : Rn} (hm : (charsL l).length = m + 1) (hr : (charsL l)[m]? = some r) : r.c = 10 := by
  have h : (charsL l).getLast? = some r := by rw [List.getLast?_eq_getElem?, hm]; exact hr
  unfold charsL at h
  split at h
  · cases h
  · unfold withNl at h
    split at h
    · rename_i h1
      unfold endsNl at h1
      rw [h] at h1
      simpa using h1
    · simp at h
      rw [← h]

end Go.Proofs.Ytpnboieppkjfnaa
