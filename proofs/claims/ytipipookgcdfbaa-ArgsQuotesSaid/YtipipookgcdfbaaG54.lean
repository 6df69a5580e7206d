/-
  Texts of the proof, put together: AgQsL, LAQuo.
-/
import Derived.Test.YtipipookgcdfbaaG53
import Derived.Test.YtipipookgcdfbaaG42

/-
  What is made a string is read as it was; rows of tokens that are written out.
-/
namespace Go.Proofs.Ytipipookgcdfbaa
open Go.RowKit

theorem dqu_quoted (l : List UInt8) (h : ∀ c ∈ l, c ≠ 10) : dquL (quotedL l) = some l := by
  have hu := unq_quo l h
  have e : quotedL l = conS 34 [] (quoL l) := rfl
  have hpre : isPre [] := by unfold isPre; simp
  unfold dquL
  rw [e, ahead_con hpre (quoL l) (.inl rfl)]
  simp only
  rw [con_mid]
  exact hu
def qtX (k : Int) (x : ByteArray) (sp : Bool) : Xt := ⟨k, x, sp, ⟨#[]⟩, 0, 0, false, []⟩
theorem lit_one (k : Int) (x : ByteArray) (W : World) : ToksX [qtX k x false] (.slice (some ⟨W.heap.size, 0, none⟩) 1 1) (W.alloc (.cells #[.int .i64 k, .string x, .bool false, .string ⟨#[]⟩, .int .i64 0, .int .i64 0, .bool false, .slice none 0 0] 50)) := by
  have hh := heap_alloc_new W (.cells #[.int .i64 k, .string x, .bool false, .string ⟨#[]⟩, .int .i64 0, .int .i64 0, .bool false, .slice none 0 0] 50)
  refine ⟨some ⟨W.heap.size, 0, none⟩, 1, rfl, Nat.le_refl _, by unfold maxLen; omega, fun i t ht => ?_⟩
  match i, ht with
  | 0, ht =>
    simp only [List.getElem?_cons_zero, Option.some.injEq] at ht
    subst ht
    refine ⟨W.heap.size, 0, rfl, by simp, .slice none 0 0, ⟨?_, ?_, ?_, ?_, ?_, ?_, ?_, ?_⟩, sits_nil _⟩ <;> (rw [Lib.cell_of_heap hh]; rfl)
  | i + 1, ht => simp at ht
theorem lit_two (k k' : Int) (x x' : ByteArray) (b b' : Bool) (W : World) : ToksX [qtX k x b, qtX k' x' b'] (.slice (some ⟨W.heap.size, 0, none⟩) 2 2) (W.alloc (.cells #[.int .i64 k, .string x, .bool b, .string ⟨#[]⟩, .int .i64 0, .int .i64 0, .bool false, .slice none 0 0, .int .i64 k', .string x', .bool b', .string ⟨#[]⟩, .int .i64 0, .int .i64 0, .bool false, .slice none 0 0] 50)) := by
  have hh := heap_alloc_new W (.cells #[.int .i64 k, .string x, .bool b, .string ⟨#[]⟩, .int .i64 0, .int .i64 0, .bool false, .slice none 0 0, .int .i64 k', .string x', .bool b', .string ⟨#[]⟩, .int .i64 0, .int .i64 0, .bool false, .slice none 0 0] 50)
  refine ⟨some ⟨W.heap.size, 0, none⟩, 2, rfl, Nat.le_refl _, by unfold maxLen; omega, fun i t ht => ?_⟩
  match i, ht with
  | 0, ht =>
    simp only [List.getElem?_cons_zero, Option.some.injEq] at ht
    subst ht
    refine ⟨W.heap.size, 0, rfl, by simp, .slice none 0 0, ⟨?_, ?_, ?_, ?_, ?_, ?_, ?_, ?_⟩, sits_nil _⟩ <;> (rw [Lib.cell_of_heap hh]; rfl)
  | 1, ht =>
    simp only [List.getElem?_cons_succ, List.getElem?_cons_zero, Option.some.injEq] at ht
    subst ht
    refine ⟨W.heap.size, 0, rfl, by simp, .slice none 0 0, ⟨?_, ?_, ?_, ?_, ?_, ?_, ?_, ?_⟩, sits_nil _⟩ <;> (rw [Lib.cell_of_heap hh]; rfl)
  | i + 2, ht => simp at ht
theorem str_one (x : ByteArray) : stringL [qtX 4 x false] = quotedL x.data.toList := by
  show 34 :: (strL1 (qtX 4 x false) ++ [] ++ [34]) = _
  unfold strL1
  rw [if_pos (.inl rfl)]
  simp [quotedL, qtX]
theorem str_two : stringL [qtX 1 ⟨#[120]⟩ false, qtX 1 ⟨#[121]⟩ true] = [34, 120, 32, 121, 34] := by rfl
theorem fit_one {x : ByteArray} (h : x.size ≤ 10000) : (textT ([qtX 4 x false].map escX)).length ≤ 1000000 := by
  have h2 := textT_bound (m := 20000) (T := [qtX 4 x false].map escX) fun u hu => by
    obtain ⟨t, ht, rfl⟩ := List.mem_map.1 hu
    simp only [List.mem_cons, List.not_mem_nil, or_false] at ht
    subst ht
    have := esc_size (qtX 4 x false)
    have e : (qtX 4 x false).x = x := rfl
    rw [e] at this
    omega
  rw [List.length_map] at h2
  simp only [List.length_cons, List.length_nil] at h2
  omega
theorem fit_two : (textT ([qtX 1 ⟨#[120]⟩ false, qtX 1 ⟨#[121]⟩ true].map escX)).length ≤ 1000000 := by
  have e : (textT ([qtX 1 ⟨#[120]⟩ false, qtX 1 ⟨#[121]⟩ true].map escX)).length = 3 := by rfl
  omega

end Go.Proofs.Ytipipookgcdfbaa

/-
  ArgsQuotes, walked.
-/
namespace Go.Proofs.Ytipipookgcdfbaa
open Go.RowKit

def QsRel (s : ByteArray) (i : Value) : Prop := ∃ k : Nat, i = .int .i64 (k : Int) ∧ k ≤ s.size ∧ ∀ (j : Nat) (h : j < s.size), j < k → s[j] ≠ 10

set_option maxRecDepth 100000 in
set_option maxHeartbeats 12800000 in
theorem quotes_law (s : ByteArray) (W : World) (hs : s.size ≤ maxLen) : Calls Try.prog 6 #[.string s] W (TruePost W) := by
  unfold maxLen at hs
  have HA : Hid (∀ X : World, Calls Try.prog 10 #[] X (TruePost X)) := Lib.hid (fun X => awake10_any X)
  by_cases h3 : s.size ≤ 300
  · have h3I : ¬ (300 : Int) < (s.size : Int) := by omega
    go_enter Try.func6, Try.ntmps6
    go_wp2
    go_loop [3] (fun i => QsRel s i) (fun i => s.size - (intOf i).toNat)
    case atStart => exact ⟨0, rfl, Nat.zero_le _, fun j h hj => by omega⟩
    case round =>
      obtain ⟨k, rfl, hk, hne⟩ := hrel
      have HNE := Lib.hid hne
      clear hne
      by_cases hlt : k < s.size
      · have hkI : (k : Int) < (s.size : Int) := by omega
        by_cases hc : s[k] = 10
        · have hcb : (((s[k].toNat : Nat) : Int) == 10) = true := by rw [hc]; rfl
          clear hc
          go_wp2_with (go_at_call 10; (with_reducible refine (HA.out _).mono ?_); rintro e w9 ⟨rfl, hb⟩; have HB9 := Lib.hid hb; clear hb)
          go_ret
          exact ⟨rfl, HB9.out⟩
        · have hcb : (((s[k].toNat : Nat) : Int) == 10) = false := by
            rw [beq_eq_false_iff_ne]
            intro e
            exact hc (UInt8.toNat_inj.1 (by show s[k].toNat = 10; omega))
          have HC := Lib.hid hc
          clear hc
          go_wp2
          go_round
          case rel => exact ⟨k + 1, by go_num, hlt, fun j h hj => by
            rcases Nat.lt_or_ge j k with hjk | hjk
            · exact HNE.out j h hjk
            · obtain rfl : j = k := by omega
              exact HC.out⟩
          case measure => simp [intOf]; omega
      · have hkI : ¬ (k : Int) < (s.size : Int) := by omega
        have h10 : ∀ c ∈ s.data.toList, c ≠ 10 := fun c hc => by
          obtain ⟨j, hj, rfl⟩ := List.getElem_of_mem hc
          have hj' : j < s.size := by rw [← len_byte]; exact hj
          have e := byte_at s j hj'
          rw [List.getElem?_eq_getElem hj] at e
          simp only [Option.some.injEq] at e
          rw [e]
          exact HNE.out j hj' (by omega)
        have hsl := len_byte s
        obtain ⟨Q, hQ⟩ : ∃ Q : ByteArray, (⟨(quotedL s.data.toList).toArray⟩ : ByteArray) = Q := ⟨_, rfl⟩
        have hqd : Q.data.toList = quotedL s.data.toList := by rw [← hQ]
        have hqs : Q.size ≤ 602 := by
          rw [← len_byte, hqd]
          have := quoL_le s.data.toList
          simp [quotedL]
          omega
        obtain ⟨QQ, hQQ⟩ : ∃ QQ : ByteArray, (⟨(quotedL Q.data.toList).toArray⟩ : ByteArray) = QQ := ⟨_, rfl⟩
        have HQ : Hid (∀ X : World, Calls Try.prog 22 #[.string s] X (StrNew Q X)) := Lib.hid (fun X => hQ ▸ pquoted_any s X (by omega))
        have HQ2 : Hid (∀ X : World, Calls Try.prog 22 #[.string Q] X (StrNew QQ X)) := Lib.hid (fun X => hQQ ▸ pquoted_any Q X (by omega))
        have HO : Hid (∀ X : World, Calls Try.prog 25 #[.string Q] X (OneQ Q X)) := Lib.hid (fun X => rone_quoted Q X hqd h10 (by omega))
        have HU : Hid (∀ X : World, Calls Try.prog 18 #[.string Q] X (PairNew s true X)) := Lib.hid (fun X => by
          have h := punq_any Q X (by omega)
          rw [hqd, dqu_quoted _ h10] at h
          exact h)
        have HS1 : Hid (∀ X : World, Calls Try.prog 20 #[.slice (some ⟨X.heap.size, 0, none⟩) 1 1] (X.alloc (.cells #[.int .i64 4, .string Q, .bool false, .string ⟨#[]⟩, .int .i64 0, .int .i64 0, .bool false, .slice none 0 0] 50)) (fun e w' => e = .returned (.string QQ) ∧ Below X.heap.size X w')) := Lib.hid (fun X => by
          have h := pstr_any (lit_one 4 Q X) (by simp) (fit_one (by omega)) (fun t ht => by
            simp only [List.mem_cons, List.not_mem_nil, or_false] at ht
            subst ht
            show Q.size ≤ _
            omega)
          rw [str_one, hQQ] at h
          exact h.mono fun e w' ⟨he, hb⟩ => ⟨he, below_up ((Below.refl _ _).alloc (Nat.le_refl _) _) hb⟩)
        have HS2 : Hid (∀ X : World, Calls Try.prog 20 #[.slice (some ⟨X.heap.size, 0, none⟩) 2 2] (X.alloc (.cells #[.int .i64 1, .string ⟨#[120]⟩, .bool false, .string ⟨#[]⟩, .int .i64 0, .int .i64 0, .bool false, .slice none 0 0, .int .i64 1, .string ⟨#[121]⟩, .bool true, .string ⟨#[]⟩, .int .i64 0, .int .i64 0, .bool false, .slice none 0 0] 50)) (fun e w' => e = .returned (.string ⟨#[34, 120, 32, 121, 34]⟩) ∧ Below X.heap.size X w')) := Lib.hid (fun X => by
          have h := pstr_any (lit_two 1 1 ⟨#[120]⟩ ⟨#[121]⟩ false true X) (by simp) fit_two (fun t ht => by
            simp only [List.mem_cons, List.not_mem_nil, or_false] at ht
            rcases ht with rfl | rfl
            · exact (by decide : (1 : Nat) ≤ 1000000)
            · exact (by decide : (1 : Nat) ≤ 1000000))
          rw [str_two] at h
          exact h.mono fun e w' ⟨he, hb⟩ => ⟨he, below_up ((Below.refl _ _).alloc (Nat.le_refl _) _) hb⟩)
        have e1 : (s.toList == s.toList) = true := by simp
        have e2 : (QQ.toList == QQ.toList) = true := by simp
        have e3 : ((⟨#[34, 120, 32, 121, 34]⟩ : ByteArray).toList == (⟨#[34, 120, 32, 121, 34]⟩ : ByteArray).toList) = true := by simp
        clear h10 hsl hQ hqd hqs hQQ HNE
        go_wp2_with (first
          | (go_at_call 22; (with_reducible refine (HQ.out _).mono ?_); rintro e w1 ⟨rfl, hb⟩; have HB1 := Lib.hid hb; clear hb HQ)
          | (go_at_call 25; (with_reducible refine (HO.out _).mono ?_); rintro e w2 ⟨rfl, hb⟩; have HB2 := Lib.hid (below_up HB1.out hb); clear hb)
          | (go_at_call 18; (with_reducible refine (HU.out _).mono ?_); rintro e w3 ⟨rfl, hb⟩; have HB3 := Lib.hid (below_up (HB2.out.alloc HB2.out.size _) hb); have y0 : w3.cell? ⟨w2.heap.size, 0, none⟩ = some (.int .i64 4) := (by rw [Lib.cell_of_heap ((hb.block w2.heap.size (by simp)).trans (heap_alloc_new w2 _))]; rfl); clear hb)
          | (go_at_call 20; (with_reducible refine (HS1.out _).mono ?_); rintro e w4 ⟨rfl, hb⟩; have HB4 := Lib.hid (below_up HB3.out hb); clear hb)
          | (go_at_call 22; (with_reducible refine (HQ2.out _).mono ?_); rintro e w5 ⟨rfl, hb⟩; have HB5 := Lib.hid (below_up HB4.out hb); clear hb)
          | (go_at_call 20; (with_reducible refine (HS2.out _).mono ?_); rintro e w6 ⟨rfl, hb⟩; have HB6 := Lib.hid (below_up HB5.out hb); clear hb)
          | (go_at_call 10; (with_reducible refine (HA.out _).mono ?_); rintro e w9 ⟨rfl, hb⟩; have HB9 := Lib.hid (below_up HB6.out hb); clear hb))
        go_ret
        exact ⟨rfl, HB9.out⟩
  · have h3I : (300 : Int) < (s.size : Int) := by omega
    go_enter Try.func6, Try.ntmps6
    go_wp2_with (go_at_call 10; (with_reducible refine (HA.out _).mono ?_); rintro e w9 ⟨rfl, hb⟩; have HB9 := Lib.hid hb; clear hb)
    go_ret
    exact ⟨rfl, HB9.out⟩

end Go.Proofs.Ytipipookgcdfbaa
