/-
  What the library's Split and Join tell, in the words of the document's own answer: plain facts, of no program.
-/
import Derived.Test.YtfjdfdpelilelaaDoorPathL
import Derived.Lib.SplitLaws
import Derived.Lib.IndexBytes
import Derived.Lib.Join
import Derived.Lib.LastIndexByte
namespace Go.Proofs.YtfjdfdpelilelaaDoor

theorem partsAux_none (acc l : List UInt8) (h : 47 ∉ l) : partsAux acc l = [acc ++ l] := by
  induction l generalizing acc with
  | nil => simp [partsAux]
  | cons c r ih =>
    rw [List.mem_cons, not_or] at h
    unfold partsAux
    rw [if_neg (fun e => h.1 e.symm), ih _ h.2]
    simp

theorem partsAux_slash (acc a r : List UInt8) (h : 47 ∉ a) : partsAux acc (a ++ 47 :: r) = (acc ++ a) :: partsAux [] r := by
  induction a generalizing acc with
  | nil => simp [partsAux]
  | cons c a ih =>
    rw [List.mem_cons, not_or] at h
    have e : partsAux acc ((c :: a) ++ 47 :: r) = if c = 47 then acc :: partsAux [] (a ++ 47 :: r) else partsAux (acc ++ [c]) (a ++ 47 :: r) := rfl
    rw [e, if_neg (fun e => h.1 e.symm), ih _ h.2]
    simp

theorem indexByte_none (l : List UInt8) (h : 47 ∉ l) : Go.Lib.indexByte l 47 = -1 := by
  induction l with
  | nil => rfl
  | cons c r ih =>
    rw [List.mem_cons, not_or] at h
    unfold Go.Lib.indexByte
    rw [ih h.2]
    have : ¬ (c == 47) = true := fun e => h.1 (beq_iff_eq.1 e).symm
    rw [if_neg this]
    rfl

theorem indexByte_cut (a r : List UInt8) (h : 47 ∉ a) : Go.Lib.indexByte (a ++ 47 :: r) 47 = (a.length : Int) := by
  induction a with
  | nil => rfl
  | cons c a ih =>
    rw [List.mem_cons, not_or] at h
    rw [List.cons_append]
    unfold Go.Lib.indexByte
    rw [ih h.2]
    have : ¬ (c == 47) = true := fun e => h.1 (beq_iff_eq.1 e).symm
    rw [if_neg this, if_neg (by rw [beq_iff_eq]; omega)]
    simp

theorem splitK_parts (n : Nat) : ∀ l : List UInt8, l.length ≤ n → Go.Lib.splitK [47] 0 (l.count 47) l = partsAux [] l := by
  induction n with
  | zero =>
    intro l hl
    have : l = [] := List.eq_nil_of_length_eq_zero (by omega)
    subst this
    rfl
  | succ n ih =>
    intro l hl
    by_cases h : (47 : UInt8) ∈ l
    · obtain ⟨a, r, rfl, ha⟩ := List.eq_append_cons_of_mem h
      have hc : (a ++ 47 :: r).count 47 = r.count 47 + 1 := by
        rw [List.count_append, List.count_eq_zero_of_not_mem ha, List.count_cons_self]
        omega
      rw [hc, partsAux_slash _ _ _ ha]
      unfold Go.Lib.splitK
      rw [Go.Lib.index_one, indexByte_cut _ _ ha, if_neg (by rw [beq_iff_eq]; omega)]
      rw [List.length_append, List.length_cons] at hl
      rw [show ((a.length : Int).toNat + 0) = a.length from by omega, List.take_left, show ((a.length : Int).toNat + [(47 : UInt8)].length) = a.length + 1 from by simp]
      rw [show a.length + 1 = (a ++ [(47 : UInt8)]).length from by simp, show a ++ 47 :: r = (a ++ [47]) ++ r from by simp, List.drop_left, ih r (by omega)]
      simp
    · rw [List.count_eq_zero_of_not_mem h, partsAux_none _ _ h]
      rfl

theorem split_parts (s : ByteArray) : (Go.Lib.splitB ⟨#[47]⟩ 0 (Go.Lib.countB s ⟨#[47]⟩) s).map (·.data.toList) = partsL s.data.toList := by
  rw [Go.Lib.splitB_data]
  show Go.Lib.splitK [47] 0 (Go.Lib.count s.data.toList [47]) s.data.toList = _
  rw [Go.Lib.count_one, splitK_parts _ _ (Nat.le_refl _)]
  rfl

theorem joinAux_tail (s : List UInt8) (r : List (List UInt8)) : joinAux s r = s ++ Go.Lib.joinTail [47] r := by
  induction r generalizing s with
  | nil => simp [joinAux, Go.Lib.joinTail]
  | cons x r ih =>
    unfold joinAux
    rw [ih]
    simp [Go.Lib.joinTail]

theorem join_joinL (xs : List (List UInt8)) : Go.Lib.join xs [47] = joinL xs := by
  cases xs with
  | nil => rfl
  | cons x r => exact (Go.Lib.join_cons x r [47]).trans (joinAux_tail x r).symm

theorem lastIdx_dir (s : ByteArray) : ∀ k, k ≤ s.size → dirGo s.data.toList k = s.data.toList.take (max (Go.Lib.lastIdx s 47 k) 0).toNat
  | 0, _ => rfl
  | k + 1, h => by
    have hk : k < s.data.toList.length := h
    have e : s.data.toList[k]? = some (s.data[k]!) := by
      have h1 : k < s.data.size := h
      rw [List.getElem?_eq_getElem hk, getElem!_pos s.data k h1, Array.getElem_toList]
    unfold dirGo
    by_cases hc : s.data[k]! = 47
    · rw [e, hc, if_pos rfl, Go.Lib.lastIdx_hit s 47 k (by rw [hc]; rfl)]
      congr 1
      omega
    · have hm : ((s.data[k]!).toNat : Int) ≠ 47 := by
        intro h2
        apply hc
        apply UInt8.toNat_inj.1
        have h3 : (s.data[k]!).toNat = 47 := by omega
        rw [h3]
        rfl
      rw [e, if_neg (by simpa using hc), Go.Lib.lastIdx_miss s 47 k hm]
      exact lastIdx_dir s k (by omega)

theorem dir_last (s : ByteArray) : dirL s.data.toList = s.data.toList.take (max (Go.Lib.lastIndexByte s 47) 0).toNat := lastIdx_dir s s.size (Nat.le_refl _)

theorem hasPrefix_slash (l : List UInt8) : Go.Lib.hasPrefix l [47] = decide (l[0]? = some 47) := by
  cases l with
  | nil => rfl
  | cons c r =>
    show ((47 : UInt8) == c && true) = decide (some c = some 47)
    rw [Bool.and_true, Bool.eq_iff_iff, beq_iff_eq, decide_eq_true_eq, Option.some_inj]
    exact eq_comm

end Go.Proofs.YtfjdfdpelilelaaDoor
