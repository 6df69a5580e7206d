/-
  Signs in a row, lexed: over lists.
-/
import Derived.Test.YtpnboieppkjfnaaPlL
import Derived.Test.YtpnboieppkjfnaaRLp
namespace Go.Proofs.Ytpnboieppkjfnaa
open Go.RowKit

/-- A token of signs, cut as long as there is one. -/
def TkG (s : List UInt8) (t : Tk) : Prop := t.k = 5 ∧ t.sp = false ∧ 0 < punctN ((s ++ [10]).drop t.f) ∧ t.f + punctN ((s ++ [10]).drop t.f) ≤ s.length ∧ t.x = (s.drop t.f).take (punctN ((s ++ [10]).drop t.f))
def SgT (s : List UInt8) (i : Nat) (T : List Tk) : Prop := (∀ t ∈ T, TkG s t) ∧ (T.map Tk.x).flatten = s.take i

def sgRow (s : List UInt8) : List Rn := plRow s 0 ++ [⟨10, s.length, s.length⟩]
theorem sgRow_bytes (s : List UInt8) : bytesOf (sgRow s) = s ++ [10] := by
  have := plRow_bytes s 0
  unfold sgRow bytesOf at *
  rw [List.map_append, this]
  rfl
theorem sgRow_len (s : List UInt8) : (sgRow s).length = s.length + 1 := by simp [sgRow, plRow_len]
theorem sgRow_f {s : List UInt8} {i : Nat} (h : i < s.length) : rnF (sgRow s) i = i := by
  unfold rnF sgRow
  rw [List.getElem?_append_left (by rw [plRow_len]; exact h), plRow_get s 0 i h]
  simp
theorem sgRow_nl (s : List UInt8) : Nl (bytesOf (sgRow s)) := by
  rw [sgRow_bytes]
  exact ⟨by simp, by simp [List.getD]⟩

theorem sg_from {s : List UInt8} (h : Sg s) : ∀ (m i : Nat) (a : Acc), s.length - i ≤ m → i ≤ s.length → a.lines = [] → a.diags = [] → a.sp = false → a.fr = 0 → SgT s i a.toks →
    ∃ T, SgT s s.length T ∧ (fromA (sgRow s) s.length i a).lines = [⟨T, 0, s.length, false⟩] ∧ (fromA (sgRow s) s.length i a).diags = []
  | m, i, a, hm, hi, h1, h2, h3, h4, h5 => by
    have hlen := sgRow_len s
    by_cases hlt : i < s.length
    · obtain ⟨m, rfl⟩ : ∃ m', m = m' + 1 := ⟨m - 1, by omega⟩
      obtain ⟨hit, hp⟩ := h.item hlt
      obtain ⟨n, hn⟩ : ∃ n, punctN ((s ++ [10]).drop i) = n := ⟨_, rfl⟩
      rw [hn] at hit hp
      have hsh := item_short (L := sgRow s) (i := i) (it := .tk 5 n) (sgRow_nl s) (by omega) (by rw [sgRow_bytes]; exact hit) (by simp) (by simp)
      simp only [It.len] at hsh
      rw [fromA_step (by omega), sgRow_bytes, hit]
      simp only [lenA, stepA]
      have hbad : badN 5 ((bytesOf (sgRow s)).getD i 0) = false := by unfold badN; rfl
      have hx : ((s ++ [10]).drop i).take n = (s.drop i).take n := by
        rw [List.drop_append_of_le_length hi, List.take_append_of_le_length (by rw [List.length_drop]; omega)]
      have he : takeA (sgRow s) a 5 i n = { a with sp := false, toks := a.toks ++ [⟨5, (s.drop i).take n, false, i, rnT (sgRow s) (i + n - 1)⟩] } := by
        unfold takeA pushA
        rw [hbad, sgRow_bytes, sgRow_f hlt]
        simp only [Bool.false_eq_true, if_false]
        rw [hx, h3]
      rw [he]
      refine sg_from h m (i + n) _ (by omega) (by omega) h1 h2 rfl h4 ⟨fun t ht => ?_, ?_⟩
      · rcases List.mem_append.1 ht with ht | ht
        · exact h5.1 t ht
        · simp only [List.mem_cons, List.not_mem_nil, or_false] at ht
          subst ht
          exact ⟨rfl, rfl, by rw [hn]; exact hp, by rw [hn]; show i + n ≤ _; omega, by rw [hn]⟩
      · rw [List.map_append, List.flatten_append, h5.2]
        simp only [List.map_cons, List.map_nil, List.flatten_cons, List.flatten_nil, List.append_nil]
        rw [List.take_add]
    · have hie : i = s.length := by omega
      subst hie
      have hit : item ((bytesOf (sgRow s)).drop s.length) = .nl := item_nl (begN_two' (by rw [getD_drop, Nat.add_zero, sgRow_bytes]; exact getD_last s))
      rw [fromA_step (by omega), hit]
      simp only [lenA, stepA]
      rw [fromA_end (by omega)]
      refine ⟨a.toks, h5, ?_, h2⟩
      simp only [endA, h1, h4, toA]
      rw [if_neg (by omega)]
      rfl

theorem sg_lines {s : List UInt8} (h : Sg s) (h0 : 0 < s.length) : ∃ T, SgT s s.length T ∧ (linesA (charsL s) s.length).lines = [⟨T, 0, s.length, false⟩] ∧ (linesA (charsL s) s.length).diags = [] := by
  have hg := h.get (i := s.length - 1) (by omega)
  rw [charsL_open h.pl h0 (SG_all _ hg).1]
  have hf := sg_from h s.length 0 acc0 (by omega) (by omega) rfl rfl rfl rfl ⟨(by intro t ht; cases ht), rfl⟩
  have e : linesA (sgRow s) s.length = fromA (sgRow s) s.length 0 acc0 := rfl
  have e2 : plRow s 0 ++ [⟨10, s.length, s.length⟩] = sgRow s := rfl
  rw [e2, e]
  exact hf

/-- Each alone is itself. -/
theorem TkG.one {s : List UInt8} {t : Tk} (h : TkG s t) : oneL t.x = some 5 ∧ t.x.length = punctN ((s ++ [10]).drop t.f) := by
  obtain ⟨-, -, hp, hle, hx⟩ := h
  have ht := pun_take hp
  have hl : t.x.length = punctN ((s ++ [10]).drop t.f) := by
    rw [hx, List.length_take, List.length_drop]
    omega
  rw [List.drop_append_of_le_length (by omega), List.take_append_of_le_length (by rw [List.length_drop]; rw [List.drop_append_of_le_length (by omega)] at hle; omega)] at ht
  rw [List.drop_append_of_le_length (by omega)] at hx
  rw [← hx] at ht
  exact ⟨PL_one _ (isPun_mem ht), hl⟩

theorem tok_five {l : List UInt8} (h : (tok l).1 = 5) : 0 < punctN l ∧ (tok l).2 = punctN l := by
  unfold tok at h ⊢
  cases hc : conN l with
  | some x =>
    rw [hc] at h
    have := (conN_in hc).2.2.1
    simp only at h
    omega
  | none =>
    rw [hc] at h
    simp only at h ⊢
    split at h
    · cases h
    · rename_i h1
      rw [if_neg h1]
      split at h
      · cases h
      · rename_i h2
        rw [if_neg h2]
        split at h
        · rename_i h3
          rw [if_pos h3]
          exact ⟨h3, rfl⟩
        · cases h

/-- No longer one begins there. -/
theorem TkG.longest {s : List UInt8} {t : Tk} (h : TkG s t) {k : Nat} (hk : t.x.length < k) (hs : t.f + k ≤ s.length) : oneL ((s.drop t.f).take k) ≠ some 5 := by
  intro ho
  obtain ⟨-, hl⟩ := h.one
  obtain ⟨q, hq⟩ : ∃ q, (s.drop t.f).take k = q := ⟨_, rfl⟩
  have hql : q.length = k := by rw [← hq, List.length_take, List.length_drop]; omega
  rw [hq] at ho
  unfold oneL at ho
  split at ho
  · split at ho
    · rename_i h2
      split at ho
      · cases ho
      · simp only [Option.some.injEq] at ho
        obtain ⟨h3, h4⟩ := tok_five ho
        rw [h2, hql] at h4
        have ht := pun_take h3
        rw [← h4, ← hql, List.take_left] at ht
        have hge := pun_ge (l := (s ++ [10]).drop t.f) (n := k) (by rw [List.length_drop]; simp; omega) (by
          rw [List.drop_append_of_le_length (by omega), List.take_append_of_le_length (by rw [List.length_drop]; omega), hq]
          exact ht)
        omega
    · cases ho
  · cases ho

end Go.Proofs.Ytpnboieppkjfnaa
