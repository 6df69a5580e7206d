/-
  Texts of the proof, put together: AgAwk, LATexts, MtClone.
-/
import Derived.Test.YtipipookgcdfbaaG37
import Derived.Test.YtipipookgcdfbaaG41
import Derived.Test.YtipipookgcdfbaaG21
import Derived.Test.YtipipookgcdfbaaG20

/-
  What the document fixes of arguments, walked.
-/
namespace Go.Proofs.Ytipipookgcdfbaa
open Go.RowKit

theorem aw10_one : lexT ⟨#[40, 97, 44, 40, 98, 44, 99, 41, 41, 100]⟩ = [awX 5 ⟨#[40]⟩ false 0 1, awX 1 ⟨#[97]⟩ false 1 2, awX 5 ⟨#[44]⟩ false 2 3, awX 5 ⟨#[40]⟩ false 3 4, awX 1 ⟨#[98]⟩ false 4 5, awX 5 ⟨#[44]⟩ false 5 6, awX 1 ⟨#[99]⟩ false 6 7, awX 5 ⟨#[41]⟩ false 7 8, awX 5 ⟨#[41]⟩ false 8 9, awX 1 ⟨#[100]⟩ false 9 10] := by rfl
theorem aw10_two : lexT ⟨#[40, 97]⟩ = [awX 5 ⟨#[40]⟩ false 0 1, awX 1 ⟨#[97]⟩ false 1 2] := by rfl
theorem aw10_three : lexT ⟨#[97, 32, 32, 43, 32, 34, 98, 34]⟩ = [awX 1 ⟨#[97]⟩ false 0 1, awX 5 ⟨#[43]⟩ true 3 4, awX 4 ⟨#[34, 98, 34]⟩ true 5 8] := by rfl
theorem aw10_c1 : ∃ A C, collectL (lexT ⟨#[40, 97, 44, 40, 98, 44, 99, 41, 41, 100]⟩) = some (A, C, 9) ∧ A.length = 2 ∧ C.length = 1 ∧ ∃ T, A[1]? = some T ∧ T.length = 5 := by
  rw [aw10_one]
  simp [collectL, colL, isX_eq, awX, oB, cB, kB]
  exact ⟨_, _, ⟨rfl, rfl⟩, rfl, rfl, _, rfl, rfl⟩
theorem aw10_c2 : collectL (lexT ⟨#[40, 97]⟩) = none := by
  rw [aw10_two]
  simp [collectL, colL, isX_eq, awX, oB, cB, kB]
theorem aw10_s : stringL (lexT ⟨#[97, 32, 32, 43, 32, 34, 98, 34]⟩) = [34, 97, 32, 43, 32, 92, 34, 98, 92, 34, 34] := by
  rw [aw10_three]
  rfl
theorem col_some {W : World} {A : List (List Xt)} {C : List Xt} {k : Nat} {e : Ending} {w' : World} (h : ColPost W (some (A, C, k)) e w') : ∃ al nl cl ac nc cc, e = .returned (.tuple #[.slice al nl cl, .slice ac nc cc, .int .i64 (k : Int), .bool true]) ∧ nl = A.length ∧ nc = C.length ∧ RowsX A (.slice al nl cl) w' ∧ ToksX C (.slice ac nc cc) w' ∧ Below W.heap.size W w' := h
theorem col_none {W : World} {e : Ending} {w' : World} (h : ColPost W none e w') : e = .returned (.tuple #[.slice none 0 0, .slice none 0 0, .int .i64 0, .bool false]) ∧ Below W.heap.size W w' := h

set_option maxRecDepth 100000 in
set_option maxHeartbeats 12800000 in
theorem awake10_any (W : World) : Calls Try.prog 10 #[] W (TruePost W) := by
  obtain ⟨A, C, hc, hA, hC, T, hT1, hT5⟩ := aw10_c1
  have T1 : Hid (∀ X : World, Calls Try.prog 27 #[.string ⟨#[40, 97, 44, 40, 98, 44, 99, 41, 41, 100]⟩] X (ToksNew X (lexT ⟨#[40, 97, 44, 40, 98, 44, 99, 41, 41, 100]⟩))) := Lib.hid (fun X => lexed9_any _ X (by decide))
  have T2 : Hid (∀ X : World, Calls Try.prog 27 #[.string ⟨#[40, 97]⟩] X (ToksNew X (lexT ⟨#[40, 97]⟩))) := Lib.hid (fun X => lexed9_any _ X (by decide))
  have T3 : Hid (∀ X : World, Calls Try.prog 27 #[.string ⟨#[97, 32, 32, 43, 32, 34, 98, 34]⟩] X (ToksNew X (lexT ⟨#[97, 32, 32, 43, 32, 34, 98, 34]⟩))) := Lib.hid (fun X => lexed9_any _ X (by decide))
  have P1 : Hid (∀ (X : World) (v : Value), ToksX (lexT ⟨#[40, 97, 44, 40, 98, 44, 99, 41, 41, 100]⟩) v X → Calls Try.prog 11 #[v] X (ColPost X (some (A, C, 9)))) := Lib.hid (fun X v h => by
    have := pcol_any h (by rw [aw10_one]; decide) (by rw [aw10_one]; simp [awX])
    rw [hc] at this
    exact this)
  have P2 : Hid (∀ (X : World) (v : Value), ToksX (lexT ⟨#[40, 97]⟩) v X → Calls Try.prog 11 #[v] X (ColPost X none)) := Lib.hid (fun X v h => by
    have := pcol_any h (by rw [aw10_two]; decide) (by rw [aw10_two]; simp [awX])
    rw [aw10_c2] at this
    exact this)
  have P3 : Hid (∀ (X : World) (v : Value), ToksX (lexT ⟨#[97, 32, 32, 43, 32, 34, 98, 34]⟩) v X → Calls Try.prog 20 #[v] X (StrNew ⟨#[34, 97, 32, 43, 32, 92, 34, 98, 92, 34, 34]⟩ X)) := Lib.hid (fun X v h => by
    have := pstr_any h (by rw [aw10_three]; decide) (by rw [aw10_three]; decide) (by rw [aw10_three]; decide)
    rw [aw10_s] at this
    exact this)
  have Q1 : Hid (∀ X : World, Calls Try.prog 22 #[.string ⟨#[120, 34, 121]⟩] X (StrNew ⟨#[34, 120, 92, 34, 121, 34]⟩ X)) := Lib.hid (fun X => pquoted_any ⟨#[120, 34, 121]⟩ X (by decide))
  have U1 : Hid (∀ X : World, Calls Try.prog 18 #[.string ⟨#[34, 120, 92, 34, 121, 34]⟩] X (UnqPost X (some [120, 34, 121]))) := Lib.hid (fun X => by
    have := punq_any ⟨#[34, 120, 92, 34, 121, 34]⟩ X (by decide)
    exact this)
  have HA := Lib.hid hA
  have HC := Lib.hid hC
  have HT1 := Lib.hid hT1
  have HT5 := Lib.hid hT5
  clear hc hA hC hT1 hT5
  go_enter Try.func10, Try.ntmps10
  go_wp2_with (first
    | (go_at_call 27; first
        | ((with_reducible refine (T1.out _).mono ?_); rintro e w1 ⟨a1, n1, c1, rfl, hn, hx, hb⟩; have HX1 := Lib.hid hx; have HB1 := Lib.hid hb; clear hx hb hn)
        | ((with_reducible refine (T2.out _).mono ?_); rintro e w3 ⟨a3, n3, c3, rfl, hn, hx, hb⟩; have HX3 := Lib.hid hx; have HB3 := Lib.hid (below_up HB2.out hb); have HR3 := Lib.hid (HR2.out.over hb); clear hx hb hn)
        | ((with_reducible refine (T3.out _).mono ?_); rintro e w7 ⟨a7, n7, c7, rfl, hn, hx, hb⟩; have HX7 := Lib.hid hx; have HB7 := Lib.hid (below_up HB6.out hb); clear hx hb hn))
    | (go_at_call 11; first
        | ((with_reducible refine (P1.out _ _ HX1.out).mono ?_); rintro e w2 hq; obtain ⟨al, nl, cl, ac, nc, cc, rfl, hnl, hnc, hr, -, hb⟩ := col_some hq; (obtain rfl : nl = 2 := hnl.trans HA.out); (obtain rfl : nc = 1 := hnc.trans HC.out); have HR2 := Lib.hid hr; have HB2 := Lib.hid (below_up HB1.out hb); clear hq hr hb hnl hnc)
        | ((with_reducible refine (P2.out _ _ HX3.out).mono ?_); rintro e w4 hq; obtain ⟨rfl, hb⟩ := col_none hq; have HR4 := Lib.hid (HR3.out.over hb); have HB4 := Lib.hid (below_up HB3.out hb); clear hq hb))
    | (go_at_call 22; (with_reducible refine (Q1.out _).mono ?_); rintro e w5 ⟨rfl, hb⟩; have HR5 := Lib.hid (HR4.out.over hb); have HB5 := Lib.hid (below_up HB4.out hb); clear hb)
    | (go_at_call 18; (with_reducible refine (U1.out _).mono ?_); rintro e w6 ⟨he, hb⟩; (obtain rfl : e = .returned (.tuple #[.string ⟨#[120, 34, 121]⟩, .bool true]) := he); have HB6 := Lib.hid (below_up HB5.out hb); (obtain ⟨gr, or, br, mr, cr, rfl, -, hcr, -, hxr⟩ := (HR5.out.over hb).get HT1.out); (obtain rfl : mr = 5 := hxr.len.1.trans HT5.out); clear hb hxr)
    | (go_at_call 20; (with_reducible refine (P3.out _ _ HX7.out).mono ?_); rintro e w8 ⟨rfl, hb⟩; have HB8 := Lib.hid (below_up HB7.out hb); clear hb))
  go_ret
  exact ⟨rfl, HB8.out⟩

end Go.Proofs.Ytipipookgcdfbaa

/-
  ArgsTexts, walked.
-/
namespace Go.Proofs.Ytipipookgcdfbaa
open Go.RowKit

theorem moreT_bound {m : Nat} : ∀ T : List Xt, (∀ t ∈ T, t.x.size ≤ m) → (moreT T).length ≤ T.length * (m + 1)
  | [], _ => Nat.zero_le _
  | t :: r, h => by
    have ih := moreT_bound r fun u hu => h u (List.mem_cons_of_mem _ hu)
    have ht := h t List.mem_cons_self
    rw [← bytes_len] at ht
    show ((if t.sp then 32 :: t.x.data.toList else t.x.data.toList) ++ moreT r).length ≤ _
    rw [List.length_append, List.length_cons, Nat.add_mul, Nat.one_mul]
    split
    · rw [List.length_cons]; omega
    · omega
theorem textT_bound {m : Nat} {T : List Xt} (h : ∀ t ∈ T, t.x.size ≤ m) : (textT T).length ≤ T.length * (m + 1) := by
  cases T with
  | nil => exact Nat.zero_le _
  | cons t r =>
    have ih := moreT_bound r fun u hu => h u (List.mem_cons_of_mem _ hu)
    have ht := h t List.mem_cons_self
    rw [← bytes_len] at ht
    show (t.x.data.toList ++ moreT r).length ≤ _
    rw [List.length_append, List.length_cons, Nat.add_mul, Nat.one_mul]
    omega
theorem esc_size (t : Xt) : (escX t).x.size ≤ 2 * t.x.size := by
  unfold escX
  split
  · show (quoL t.x.data.toList).toArray.size ≤ _
    have := quoL_le t.x.data.toList
    rw [bytes_len] at this
    rw [List.size_toArray]
    exact this
  · omega
theorem few_text {T : List Xt} (hl : T.length ≤ 60) (hs : ∀ t ∈ T, t.x.size ≤ 300 ∧ t.ss.length ≤ 20) : (textT (T.map escX)).length ≤ 1000000 := by
  have h := textT_bound (m := 600) (T := T.map escX) fun u hu => by
    obtain ⟨t, ht, rfl⟩ := List.mem_map.1 hu
    have := esc_size t
    have := (hs t ht).1
    omega
  rw [List.length_map] at h
  omega
theorem unq_opaque (R : Option (List UInt8)) : ∃ (Z : ByteArray) (bz : Bool), ∀ (W : World) (e : Ending) (w' : World), UnqPost W R e w' → e = .returned (.tuple #[.string Z, .bool bz]) ∧ Below W.heap.size W w' := by
  cases R with
  | none => exact ⟨⟨#[]⟩, false, fun W e w' h => h⟩
  | some l => exact ⟨⟨l.toArray⟩, true, fun W e w' h => h⟩
def PairNew (Z : ByteArray) (bz : Bool) (W : World) (e : Ending) (w' : World) : Prop := e = .returned (.tuple #[.string Z, .bool bz]) ∧ Below W.heap.size W w'

set_option maxRecDepth 100000 in
set_option maxHeartbeats 6400000 in
theorem texts_law {T : List Xt} {v : Value} (s : ByteArray) (W : World) (h : ToksX T v W) (hs : s.size ≤ maxLen) : Calls Try.prog 4 #[v, .string s] W (TruePost W) := by
  unfold maxLen at hs
  obtain ⟨a, n, cap, rfl⟩ := h.form
  have HF : Hid (Calls Try.prog 8 #[.slice a n cap, .int .i64 60] W (BoolPost (fewB T 60) W)) := Lib.hid (few_any h 60 (by omega))
  have HA : Hid (∀ X : World, Calls Try.prog 10 #[] X (TruePost X)) := Lib.hid (fun X => awake10_any X)
  by_cases hf : fewB T 60 = true
  · rw [hf] at HF
    obtain ⟨hl, hx⟩ := few_is hf
    by_cases h3 : s.size ≤ 300
    · obtain ⟨Z, bz, hu⟩ := unq_opaque (dquL s.data.toList)
      obtain ⟨S, hS⟩ : ∃ S : ByteArray, (⟨(stringL T).toArray⟩ : ByteArray) = S := ⟨_, rfl⟩
      obtain ⟨Q, hQ⟩ : ∃ Q : ByteArray, (⟨(quotedL s.data.toList).toArray⟩ : ByteArray) = Q := ⟨_, rfl⟩
      have HU : Hid (∀ X : World, Calls Try.prog 18 #[.string s] X (PairNew Z bz X)) := Lib.hid (fun X => (punq_any s X (by omega)).mono fun e w' h => hu X e w' h)
      have HRU : Hid (∀ X : World, Calls Try.prog 19 #[.string s] X (PairNew Z bz X)) := Lib.hid (fun X => (runq_any s X (by omega)).mono fun e w' h => hu X e w' h)
      have HS : Hid (∀ X : World, Below W.heap.size W X → Calls Try.prog 20 #[.slice a n cap] X (StrNew S X)) := Lib.hid (fun X hX => hS ▸ pstr_any (h.over hX) (by omega) (few_text hl hx) (fun t ht => by have := (hx t ht).1; omega))
      have HRS : Hid (∀ X : World, Below W.heap.size W X → Calls Try.prog 21 #[.slice a n cap] X (StrNew S X)) := Lib.hid (fun X hX => hS ▸ rstr_any (h.over hX) (few_text hl hx) (fun t ht => by have := (hx t ht).1; omega))
      have HQ : Hid (∀ X : World, Calls Try.prog 22 #[.string s] X (StrNew Q X)) := Lib.hid (fun X => hQ ▸ pquoted_any s X (by omega))
      have HRQ : Hid (∀ X : World, Calls Try.prog 23 #[.string s] X (StrNew Q X)) := Lib.hid (fun X => hQ ▸ rquo_any s X (by omega))
      have e1 : (S.toList == S.toList) = true := by simp
      have e2 : (Q.toList == Q.toList) = true := by simp
      have e3 : (Z.toList == Z.toList) = true := by simp
      have e4 : (bz == bz) = true := by simp
      have h3I : ¬ (300 : Int) < (s.size : Int) := by omega
      clear h hf hl hx hS hQ hu h3
      go_enter Try.func4, Try.ntmps4
      go_wp2_with (first
        | (go_at_call 8; (with_reducible refine HF.out.mono ?_); rintro e w' ⟨rfl, rfl⟩)
        | (go_at_call 18; (with_reducible refine (HU.out _).mono ?_); rintro e w1 ⟨rfl, hb⟩; have HB1 := Lib.hid hb; clear hb)
        | (go_at_call 19; (with_reducible refine (HRU.out _).mono ?_); rintro e w2 ⟨rfl, hb⟩; have HB2 := Lib.hid (below_up HB1.out hb); clear hb)
        | (go_at_call 20; (with_reducible refine (HS.out _ HB2.out).mono ?_); rintro e w3 ⟨rfl, hb⟩; have HB3 := Lib.hid (below_up HB2.out hb); clear hb)
        | (go_at_call 21; (with_reducible refine (HRS.out _ HB3.out).mono ?_); rintro e w4 ⟨rfl, hb⟩; have HB4 := Lib.hid (below_up HB3.out hb); clear hb)
        | (go_at_call 22; (with_reducible refine (HQ.out _).mono ?_); rintro e w5 ⟨rfl, hb⟩; have HB5 := Lib.hid (below_up HB4.out hb); clear hb)
        | (go_at_call 23; (with_reducible refine (HRQ.out _).mono ?_); rintro e w6 ⟨rfl, hb⟩; have HB6 := Lib.hid (below_up HB5.out hb); clear hb)
        | (go_at_call 10; (with_reducible refine (HA.out _).mono ?_); rintro e w8 ⟨rfl, hb⟩; have HB8 := Lib.hid (below_up HB6.out hb); clear hb))
      go_ret
      exact ⟨rfl, HB8.out⟩
    · have h3I : (300 : Int) < (s.size : Int) := by omega
      clear h hf hl hx h3
      go_enter Try.func4, Try.ntmps4
      go_wp2_with (first
        | (go_at_call 8; (with_reducible refine HF.out.mono ?_); rintro e w' ⟨rfl, rfl⟩)
        | (go_at_call 10; (with_reducible refine (HA.out _).mono ?_); rintro e w8 ⟨rfl, hb⟩; have HB8 := Lib.hid hb; clear hb))
      go_ret
      exact ⟨rfl, HB8.out⟩
  · have hf' : fewB T 60 = false := by simpa using hf
    rw [hf'] at HF
    clear h hf hf'
    go_enter Try.func4, Try.ntmps4
    go_wp2_with (first
      | (go_at_call 8; (with_reducible refine HF.out.mono ?_); rintro e w' ⟨rfl, rfl⟩)
      | (go_at_call 10; (with_reducible refine (HA.out _).mono ?_); rintro e w8 ⟨rfl, hb⟩; have HB8 := Lib.hid hb; clear hb))
    go_ret
    exact ⟨rfl, HB8.out⟩

end Go.Proofs.Ytipipookgcdfbaa

/-
  A macro as new memory, its parameters' row in a block of its own.
-/
namespace Go.Proofs.Ytipipookgcdfbaa
open Go.RowKit Go.Maps

/-- A macro that was cloned: its parameters lie in a new block. -/
def MacFar (W : World) (m : Xm) (e : Ending) (w' : World) : Prop := ∃ pv bv, e = .returned (macV m pv bv) ∧ MacAt m pv bv w' ∧ Below W.heap.size W w' ∧ ∀ g, pv.ownBlock = some g → W.heap.size ≤ g

end Go.Proofs.Ytipipookgcdfbaa
