/-
  Texts of the proof, put together: LongL, LLong.
-/
import Derived.Test.YtjbgikhhdhadjaaG49
import Derived.Test.YtjbgikhhdhadjaaG41
import Derived.Test.YtjbgikhhdhadjaaG15
import Derived.ChangeSlices

/-
  Signs in a row, lexed: over lists.
-/
namespace Go.Proofs.Ytjbgikhhdhadjaa
open Go.RowKit

/-- A token of signs, cut as long as there is one. -/
def TkG (s : List UInt8) (t : Tk) : Prop := t.k = 5 ∧ t.sp = false ∧ 0 < punctN ((s ++ [10]).drop t.f) ∧ t.f + punctN ((s ++ [10]).drop t.f) ≤ s.length ∧ t.x = (s.drop t.f).take (punctN ((s ++ [10]).drop t.f))
def SgT (s : List UInt8) (i : Nat) (T : List Tk) : Prop := (∀ t ∈ T, TkG s t) ∧ (T.map Tk.x).flatten = s.take i

def sgRow (s : List UInt8) : List Rn := plRow s 0 ++ [⟨10, s.length, s.length⟩]
theorem sgRow_bytes (s : List UInt8) : bytesOf (sgRow s) = s ++ [10] := by
  have := plRow_bytes s 0
  unfold sgRow bytesOf at *
  rw [List.map_append, this]
  rfl
theorem sgRow_len (s : List UInt8) : (sgRow s).length = s.length + 1 := by simp [sgRow, plRow_len]
theorem sgRow_f {s : List UInt8} {i : Nat} (h : i < s.length) : rnF (sgRow s) i = i := by
  unfold rnF sgRow
  rw [List.getElem?_append_left (by rw [plRow_len]; exact h), plRow_get s 0 i h]
  simp
theorem sgRow_nl (s : List UInt8) : Nl (bytesOf (sgRow s)) := by
  rw [sgRow_bytes]
  exact ⟨by simp, by simp [List.getD]⟩

theorem sg_from {s : List UInt8} (h : Sg s) : ∀ (m i : Nat) (a : Acc), s.length - i ≤ m → i ≤ s.length → a.lines = [] → a.diags = [] → a.sp = false → a.fr = 0 → SgT s i a.toks →
    ∃ T, SgT s s.length T ∧ (fromA (sgRow s) s.length i a).lines = [⟨T, 0, s.length, false⟩] ∧ (fromA (sgRow s) s.length i a).diags = []
  | m, i, a, hm, hi, h1, h2, h3, h4, h5 => by
    have hlen := sgRow_len s
    by_cases hlt : i < s.length
    · obtain ⟨m, rfl⟩ : ∃ m', m = m' + 1 := ⟨m - 1, by omega⟩
      obtain ⟨hit, hp⟩ := h.item hlt
      obtain ⟨n, hn⟩ : ∃ n, punctN ((s ++ [10]).drop i) = n := ⟨_, rfl⟩
      rw [hn] at hit hp
      have hsh := item_short (L := sgRow s) (i := i) (it := .tk 5 n) (sgRow_nl s) (by omega) (by rw [sgRow_bytes]; exact hit) (by simp) (by simp)
      simp only [It.len] at hsh
      rw [fromA_step (by omega), sgRow_bytes, hit]
      simp only [lenA, stepA]
      have hbad : badN 5 ((bytesOf (sgRow s)).getD i 0) = false := by unfold badN; rfl
      have hx : ((s ++ [10]).drop i).take n = (s.drop i).take n := by
        rw [List.drop_append_of_le_length hi, List.take_append_of_le_length (by rw [List.length_drop]; omega)]
      have he : takeA (sgRow s) a 5 i n = { a with sp := false, toks := a.toks ++ [⟨5, (s.drop i).take n, false, i, rnT (sgRow s) (i + n - 1)⟩] } := by
        unfold takeA pushA
        rw [hbad, sgRow_bytes, sgRow_f hlt]
        simp only [Bool.false_eq_true, if_false]
        rw [hx, h3]
      rw [he]
      refine sg_from h m (i + n) _ (by omega) (by omega) h1 h2 rfl h4 ⟨fun t ht => ?_, ?_⟩
      · rcases List.mem_append.1 ht with ht | ht
        · exact h5.1 t ht
        · simp only [List.mem_cons, List.not_mem_nil, or_false] at ht
          subst ht
          exact ⟨rfl, rfl, by rw [hn]; exact hp, by rw [hn]; show i + n ≤ _; omega, by rw [hn]⟩
      · rw [List.map_append, List.flatten_append, h5.2]
        simp only [List.map_cons, List.map_nil, List.flatten_cons, List.flatten_nil, List.append_nil]
        rw [List.take_add]
    · have hie : i = s.length := by omega
      subst hie
      have hit : item ((bytesOf (sgRow s)).drop s.length) = .nl := item_nl (begN_two' (by rw [getD_drop, Nat.add_zero, sgRow_bytes]; exact getD_last s))
      rw [fromA_step (by omega), hit]
      simp only [lenA, stepA]
      rw [fromA_end (by omega)]
      refine ⟨a.toks, h5, ?_, h2⟩
      simp only [endA, h1, h4, toA]
      rw [if_neg (by omega)]
      rfl

theorem sg_lines {s : List UInt8} (h : Sg s) (h0 : 0 < s.length) : ∃ T, SgT s s.length T ∧ (linesA (charsL s) s.length).lines = [⟨T, 0, s.length, false⟩] ∧ (linesA (charsL s) s.length).diags = [] := by
  have hg := h.get (i := s.length - 1) (by omega)
  rw [charsL_open h.pl h0 (SG_all _ hg).1]
  have hf := sg_from h s.length 0 acc0 (by omega) (by omega) rfl rfl rfl rfl ⟨(by intro t ht; cases ht), rfl⟩
  have e : linesA (sgRow s) s.length = fromA (sgRow s) s.length 0 acc0 := rfl
  have e2 : plRow s 0 ++ [⟨10, s.length, s.length⟩] = sgRow s := rfl
  rw [e2, e]
  exact hf

/-- Each alone is itself. -/
theorem TkG.one {s : List UInt8} {t : Tk} (h : TkG s t) : oneL t.x = some 5 ∧ t.x.length = punctN ((s ++ [10]).drop t.f) := by
  obtain ⟨-, -, hp, hle, hx⟩ := h
  have ht := pun_take hp
  have hl : t.x.length = punctN ((s ++ [10]).drop t.f) := by
    rw [hx, List.length_take, List.length_drop]
    omega
  rw [List.drop_append_of_le_length (by omega), List.take_append_of_le_length (by rw [List.length_drop]; rw [List.drop_append_of_le_length (by omega)] at hle; omega)] at ht
  rw [List.drop_append_of_le_length (by omega)] at hx
  rw [← hx] at ht
  exact ⟨PL_one _ (isPun_mem ht), hl⟩

theorem tok_five {l : List UInt8} (h : (tok l).1 = 5) : 0 < punctN l ∧ (tok l).2 = punctN l := by
  unfold tok at h ⊢
  cases hc : conN l with
  | some x =>
    rw [hc] at h
    have := (conN_in hc).2.2.1
    simp only at h
    omega
  | none =>
    rw [hc] at h
    simp only at h ⊢
    split at h
    · cases h
    · rename_i h1
      rw [if_neg h1]
      split at h
      · cases h
      · rename_i h2
        rw [if_neg h2]
        split at h
        · rename_i h3
          rw [if_pos h3]
          exact ⟨h3, rfl⟩
        · cases h

/-- No longer one begins there. -/
theorem TkG.longest {s : List UInt8} {t : Tk} (h : TkG s t) {k : Nat} (hk : t.x.length < k) (hs : t.f + k ≤ s.length) : oneL ((s.drop t.f).take k) ≠ some 5 := by
  intro ho
  obtain ⟨-, hl⟩ := h.one
  obtain ⟨q, hq⟩ : ∃ q, (s.drop t.f).take k = q := ⟨_, rfl⟩
  have hql : q.length = k := by rw [← hq, List.length_take, List.length_drop]; omega
  rw [hq] at ho
  unfold oneL at ho
  split at ho
  · split at ho
    · rename_i h2
      split at ho
      · cases ho
      · simp only [Option.some.injEq] at ho
        obtain ⟨h3, h4⟩ := tok_five ho
        rw [h2, hql] at h4
        have ht := pun_take h3
        rw [← h4, ← hql, List.take_left] at ht
        have hge := pun_ge (l := (s ++ [10]).drop t.f) (n := k) (by rw [List.length_drop]; simp; omega) (by
          rw [List.drop_append_of_le_length (by omega), List.take_append_of_le_length (by rw [List.length_drop]; omega), hq]
          exact ht)
        omega
    · cases ho
  · cases ho

end Go.Proofs.Ytjbgikhhdhadjaa

/-
  LexLongest, walked.
-/
namespace Go.Proofs.Ytjbgikhhdhadjaa
open Go.RowKit

theorem sg_byte_row (w : World) (c : UInt8) : BRow w (.slice (some ⟨w.heap.size, 0, none⟩) 1 1) [c] (w.alloc (.cells #[.int .u8 (c.toNat : Int)] 5)) :=
  ⟨⟨rfl, .inr ⟨w.heap.size, 1, #[.int .u8 (c.toNat : Int)], rfl, Nat.le_refl _, heap_alloc_new _ _, Nat.le_refl _, by unfold maxLen; omega, rfl, rfl⟩⟩, (Below.refl _ _).alloc (Nat.le_refl _) _⟩
theorem sg_byte_text (w : World) (c : UInt8) : (convert 58 9 (.slice (some ⟨w.heap.size, 0, none⟩) 1 1)).run Try.prog (w.alloc (.cells #[.int .u8 (c.toNat : Int)] 5)) = .ok (.string ⟨#[c]⟩) (w.alloc (.cells #[.int .u8 (c.toNat : Int)] 5)) :=
  brow_text (bs := [c]) (sg_byte_row w c)

/-- Round: somewhere from 0 to n - 1. -/
theorem roundL_any (a : Int) (n : Nat) (h1 : 1 ≤ n) (hn : n ≤ 1000000) (w : World) :
    Calls Try.prog 26 #[.int .i64 a, .int .i64 (n : Int)] w fun e w' => (∃ k : Nat, k < n ∧ e = .returned (.int .i64 (k : Int))) ∧ w = w' := by
  obtain ⟨m, hm⟩ : ∃ m, a.tmod (n : Int) = m := ⟨_, rfl⟩
  have hm1 : m < n := by rw [← hm]; exact Int.tmod_lt_of_pos _ (by omega)
  have hm2 : -(n : Int) < m := by
    rw [← hm]
    have := Int.lt_tmod_of_pos a (b := (n : Int)) (by omega)
    omega
  have hn0 : ¬ ((n : Int) = 0) := by omega
  go_enter Try.func26, Try.ntmps26
  go_wp2
  go_ret
  have r1 := Int.emod_nonneg (m + n) hn0
  have r2 := Int.emod_lt_of_pos (m + n) (b := (n : Int)) (by omega)
  exact ⟨⟨((m + n) % (n : Int)).toNat, by omega, ret_nat (by omega)⟩, rfl⟩

/-- A row of numbers that came in. -/
def IntsAt (a : Option Addr) (ks : List Int) (w : World) : Prop := ∀ i x, ks[i]? = some x → ∃ ad, a = some ad ∧ ad.block < w.heap.size ∧ w.cell? (ad.add i) = some (.int .i64 x)

theorem mem_byte (s : ByteArray) (j : Nat) (h : j < s.size) : s[j] ∈ s.data.toList := by
  have hl : j < s.data.toList.length := by rw [len_byte]; exact h
  exact List.getElem_mem hl

theorem bytes_ext {a b : ByteArray} (h : a.data.toList = b.data.toList) : a = b := by
  obtain ⟨⟨x⟩⟩ := a
  obtain ⟨⟨y⟩⟩ := b
  simp only at h
  rw [h]

theorem sg_lit : ∀ c ∈ (⟨#[91, 93, 40, 41, 123, 125, 46, 38, 42, 43, 45, 126, 33, 47, 37, 60, 62, 61, 94, 124, 63, 58, 59, 44, 35]⟩ : ByteArray).data.toList, c ∈ SG := fun _ h => h

def PairOk (s : List UInt8) (i : Nat) : Prop := ¬ (s.getD i 0 = 47 ∧ (s.getD (i + 1) 0 = 47 ∨ s.getD (i + 1) 0 = 42)) ∧ ¬ (s.getD i 0 = 63 ∧ s.getD (i + 1) 0 = 63)
theorem pair_next {s : List UInt8} {j q : Nat} (h : ∀ q, q < j → PairOk s q) (hj : PairOk s j) (hq : q < j + 1) : PairOk s q := by
  by_cases e : q = j
  · rw [e]
    exact hj
  · exact h q (by omega)

def L1Rel (W : World) (n : Nat) (sv i : Value) (wr : World) : Prop := ∃ (k : Nat) (S : ByteArray), i = .int .i64 (k : Int) ∧ k ≤ n ∧ sv = .string S ∧ S.size = k ∧ (∀ c ∈ S.data.toList, c ∈ SG) ∧ Below W.heap.size W wr
theorem l1_on {W wr : World} {n k : Nat} {S : ByteArray} {c : UInt8} {i : Int} (hk : k < n) (hS : S.size = k) (hm : ∀ c ∈ S.data.toList, c ∈ SG) (hc : c ∈ SG) (b : Below W.heap.size W wr) (hi : i = ((k + 1 : Nat) : Int)) : L1Rel W n (.string (S ++ ⟨#[c]⟩)) (.int .i64 i) wr := by
  subst hi
  refine ⟨k + 1, _, rfl, hk, rfl, by rw [ByteArray.size_append, hS]; rfl, fun d hd => ?_, b⟩
  simp only [ByteArray.data_append, Array.toList_append, List.mem_append] at hd
  rcases hd with hd | hd
  · exact hm d hd
  · simp only [List.mem_cons, List.not_mem_nil, or_false] at hd
    rw [hd]
    exact hc

theorem add_block3 (a : Addr) (i : Nat) : (a.add i).block = a.block := by unfold Addr.add; split <;> rfl

end Go.Proofs.Ytjbgikhhdhadjaa
