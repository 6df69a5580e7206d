/-
  Texts of the proof, put together: DkOf, DkProj, DkRest, DkFew, RxA, RxQ.
-/
import Derived.Test.YtobplffailbkbaaG11
import Derived.Test.YtobplffailbkbaaG13
import Derived.Test.YtobplffailbkbaaG09
import Derived.Test.YtobplffailbkbaaG02

/-
  A line's kind: the project's.
-/
namespace Go.Proofs.Ytobplffailbkbaa
open Go.RowKit

theorem wB_some : ∀ k, 2 ≤ k → k < 14 → ((wB k).toList == []) = false := by
  intro k h1 h2
  have : k = 2 ∨ k = 3 ∨ k = 4 ∨ k = 5 ∨ k = 6 ∨ k = 7 ∨ k = 8 ∨ k = 9 ∨ k = 10 ∨ k = 11 ∨ k = 12 ∨ k = 13 := by omega
  rcases this with rfl | rfl | rfl | rfl | rfl | rfl | rfl | rfl | rfl | rfl | rfl | rfl <;> (rw [ByteArray.toList_eq]; rfl)

end Go.Proofs.Ytobplffailbkbaa

/-
  A line's kind and a kind's word: the project's, and the document's word.
-/
namespace Go.Proofs.Ytobplffailbkbaa
open Go.RowKit

/-- A kind's word. -/
def wordZ (k : Int) : ByteArray := if 0 ≤ k ∧ k < 14 then wB k.toNat else ⟨#[]⟩
def StrNew (s : ByteArray) (w : World) (e : Ending) (w' : World) : Prop := e = .returned (.string s) ∧ Below w.heap.size w w'
def StrIs (s : ByteArray) (w : World) (e : Ending) (w' : World) : Prop := e = .returned (.string s) ∧ w = w'
theorem str_is_mk {a b : ByteArray} {w : World} (h : a = b) : StrIs b w (.returned (.string a)) w := ⟨by rw [h], rfl⟩
theorem str_new {a b : ByteArray} {w w' : World} (h : a = b) (hb : Below w.heap.size w w') : StrNew b w (.returned (.string a)) w' := ⟨by rw [h], hb⟩

end Go.Proofs.Ytobplffailbkbaa

/-
  What stands behind a directive's word: the project's and the document's.
-/
namespace Go.Proofs.Ytobplffailbkbaa
open Go.RowKit

set_option maxRecDepth 100000 in
/-- l[2:] of tokens. -/
theorem slice2_run (g o n cap : Nat) (h2 : 2 ≤ n) (h3 : n ≤ cap) : ∃ o', (n = 2 ∨ o' = o + 16) ∧ ∀ w, (Instr.slice 28 (.slice (some ⟨g, o, none⟩) n cap) (some (.int .i64 2)) none none).run Try.prog w = .ok (.slice (some ⟨g, o', none⟩) (n - 2) (cap - 2)) w := by
  refine ⟨if cap = 2 then o else o + 16, ?_, fun w => ?_⟩
  · split
    · left; omega
    · right; rfl
  · have a1 : (2 : Int) ≤ (n : Int) := by omega
    have a2 : (2 : Int) ≤ (cap : Int) := by omega
    have a3 : (n : Int) ≤ (cap : Int) := by omega
    have a5 : Try.prog.cellsOf 26 = 8 := by kernel_rfl
    by_cases hc : cap = 2
    · obtain rfl : n = 2 := by omega
      subst hc
      simp [Instr.slice, run_underlying Try.underlying28, Instr.sliceBounds, run_sliceBound, Addr.add, *]
    · have hc' : (cap == 2) = false := by simpa using hc
      simp [Instr.slice, run_underlying Try.underlying28, Instr.sliceBounds, run_sliceBound, Addr.add, *]

theorem drop2_toks {T : List Xt} {g o o' n cap : Nat} {w : World} (h : ToksX T (.slice (some ⟨g, o, none⟩) n cap) w) (h2 : 2 ≤ n) (ho : n = 2 ∨ o' = o + 16) : ToksX (T.drop 2) (.slice (some ⟨g, o', none⟩) (n - 2) (cap - 2)) w := by
  obtain ⟨hn, hc1, hc2⟩ := h.len
  refine ⟨some ⟨g, o', none⟩, cap - 2, by rw [List.length_drop, ← hn], by rw [List.length_drop]; omega, by omega, fun k t ht => ?_⟩
  rw [List.getElem?_drop] at ht
  obtain ⟨g', o2, sa, sn, sc, ha, hg, -, hx, hs⟩ := h.get ht
  obtain ⟨rfl, rfl⟩ : g = g' ∧ o = o2 := by simpa using ha
  have hk := (List.getElem?_eq_some_iff.1 ht).1
  have e : o' = o + 16 := by
    rcases ho with h | h
    · omega
    · exact h
  refine ⟨g, o', rfl, hg, _, ?_, hs⟩
  rw [e, show o + 16 + k * 8 = o + (2 + k) * 8 from by omega]
  exact hx

theorem rest_low {T : List Xt} (h : kindL T < 2) : restL T = [] := by unfold restL; rw [if_pos h]
theorem rest_high {T : List Xt} (h : ¬ kindL T < 2) : restL T = T.drop 2 := by unfold restL; rw [if_neg h]

end Go.Proofs.Ytobplffailbkbaa

/-
  Are tokens few, and short.
-/
namespace Go.Proofs.Ytobplffailbkbaa
open Go.RowKit

def okX (t : Xt) : Bool := decide (t.x.size ≤ 300) && decide (t.ss.length ≤ 20)
def fewB (T : List Xt) (m : Nat) : Bool := decide (T.length ≤ m) && T.all okX
theorem few_is {T : List Xt} {m : Nat} (h : fewB T m = true) : T.length ≤ m ∧ ∀ t ∈ T, t.x.size ≤ 300 ∧ t.ss.length ≤ 20 := by
  unfold fewB at h
  simp only [Bool.and_eq_true, decide_eq_true_eq, List.all_eq_true] at h
  refine ⟨h.1, fun t ht => ?_⟩
  have := h.2 t ht
  unfold okX at this
  simpa using this
theorem few_not {T : List Xt} {m k : Nat} {t : Xt} (ht : T[k]? = some t) (h : okX t = false) : fewB T m = false := by
  unfold fewB
  rw [Bool.and_eq_false_iff]
  right
  rw [Bool.eq_false_iff]
  intro ha
  have := List.all_eq_true.1 ha t (List.mem_of_getElem? ht)
  rw [h] at this
  cases this
theorem few_yes {T : List Xt} {m : Nat} (hm : T.length ≤ m) (h : ∀ j t, j < T.length → T[j]? = some t → okX t = true) : fewB T m = true := by
  unfold fewB
  simp only [Bool.and_eq_true, decide_eq_true_eq, List.all_eq_true]
  refine ⟨hm, fun t ht => ?_⟩
  obtain ⟨j, hj, rfl⟩ := List.getElem_of_mem ht
  exact h j _ hj (List.getElem?_eq_getElem hj)

set_option maxRecDepth 100000 in
set_option maxHeartbeats 3200000 in
theorem few_any {T : List Xt} {v : Value} {w : World} (h : ToksX T v w) (m : Nat) (hm : m ≤ 1000000) : Calls Try.prog 7 #[v, .int .i64 (m : Int)] w (BoolPost (fewB T m) w) := by
  obtain ⟨a, n, cap, rfl⟩ := h.form
  obtain ⟨hn, hc1, hc2⟩ := h.len
  unfold maxLen at hc2
  obtain ⟨b, hb⟩ : ∃ b, fewB T m = b := ⟨_, rfl⟩
  have HF := Lib.hid hb
  rw [hb]
  clear hb
  have HN := Lib.hid hn
  have HX := Lib.hid h
  clear hn h
  by_cases hl : n ≤ m
  · go_enter Try.func7, Try.ntmps7
    go_wp2
    go_loop [5] (fun i => ∃ k : Nat, i = .int .i64 (k : Int) ∧ k ≤ n ∧ ∀ j t, j < k → T[j]? = some t → okX t = true) (fun i => n - (intOf i).toNat)
    case atStart => exact ⟨0, rfl, Nat.zero_le _, fun j t hj => by omega⟩
    case round =>
      obtain ⟨k, rfl, hk, hall⟩ := hrel
      have HA := Lib.hid hall
      clear hall
      by_cases hlt : k < n
      · obtain ⟨t, ht⟩ : ∃ t, T[k]? = some t := ⟨_, List.getElem?_eq_getElem (by rw [← HN.out]; exact hlt)⟩
        obtain ⟨g, o, sa, sn, sc, rfl, hg, hsn, ⟨-, c1, -, -, -, -, -, c7⟩, -⟩ := HX.out.get ht
        have HT := Lib.hid ht
        have HSN := Lib.hid hsn
        clear ht hsn
        by_cases h1 : t.x.size ≤ 300
        · by_cases h2 : sn ≤ 20
          · have HO : Hid (∀ j u, j < k + 1 → T[j]? = some u → okX u = true) := Lib.hid (fun j u hj hu => by
              rcases Nat.lt_or_ge j k with hjk | hjk
              · exact HA.out j u hjk hu
              · obtain rfl : j = k := by omega
                rw [HT.out] at hu
                cases hu
                unfold okX
                rw [HSN.out] at h2
                simp [h1, h2])
            go_wp2
            go_round
            case rel => exact ⟨k + 1, by go_num, hlt, HO.out⟩
            case measure => simp [intOf]; omega
          · have HO : Hid (false = b) := Lib.hid (by
              rw [← HF.out, few_not HT.out]
              unfold okX
              rw [HSN.out] at h2
              simp [h2])
            go_wp2
            go_ret
            exact ⟨ret_bool HO.out, rfl⟩
        · have HO : Hid (false = b) := Lib.hid (by
            rw [← HF.out, few_not HT.out]
            unfold okX
            simp [h1])
          go_wp2
          go_ret
          exact ⟨ret_bool HO.out, rfl⟩
      · have HO : Hid (true = b) := Lib.hid (by
          rw [← HF.out, few_yes (by rw [← HN.out]; exact hl) (fun j t hj ht => HA.out j t (by have := HN.out; omega) ht)])
        go_wp2
        go_ret
        exact ⟨ret_bool HO.out, rfl⟩
  · have HO : Hid (false = b) := Lib.hid (by
      rw [← HF.out]
      unfold fewB
      rw [HN.out] at hl
      simp [hl])
    go_enter Try.func7, Try.ntmps7
    go_wp2
    go_ret
    exact ⟨ret_bool HO.out, rfl⟩

end Go.Proofs.Ytobplffailbkbaa

/-
  The document's own at, letters, quoted and text, walked.
-/
namespace Go.Proofs.Ytobplffailbkbaa
open Go.RowKit

/-- A row of the document's characters, as it is read. -/
def RsAt (L : List Rn) (v : Value) (w : World) : Prop :=
  ∃ a cap, v = .slice a L.length cap ∧ L.length ≤ cap ∧ cap ≤ maxLen ∧ ∀ i r, L[i]? = some r → ∃ g, a = some ⟨g, 0, none⟩ ∧ g < w.heap.size ∧
    w.cell? ⟨g, i * 3, none⟩ = some (.int .u8 (r.c.toNat : Int)) ∧ w.cell? ⟨g, i * 3 + 1, none⟩ = some (.int .i64 (r.f : Int)) ∧ w.cell? ⟨g, i * 3 + 2, none⟩ = some (.int .i64 (r.t : Int))

theorem RRow.at {W : World} {L : List Rn} {v : Value} {w : World} (h : RRow W v L w) : RsAt L v w := rrow_cells h
theorem RsAt.next {L : List Rn} {v : Value} {w w' : World} (h : RsAt L v w) (b : Below w.heap.size w w') : RsAt L v w' := by
  obtain ⟨a, cap, hv, h1, h2, h3⟩ := h
  refine ⟨a, cap, hv, h1, h2, fun i r hr => ?_⟩
  obtain ⟨g, hg, hlt, e0, e1, e2⟩ := h3 i r hr
  exact ⟨g, hg, Nat.lt_of_lt_of_le hlt b.size, (b.cell (p := ⟨g, i * 3, none⟩) hlt).trans e0, (b.cell (p := ⟨g, i * 3 + 1, none⟩) hlt).trans e1, (b.cell (p := ⟨g, i * 3 + 2, none⟩) hlt).trans e2⟩

def BytePost (c : UInt8) (w : World) (e : Ending) (w' : World) : Prop := e = .returned (.int .u8 (c.toNat : Int)) ∧ w = w'

theorem get_bytes {L : List Rn} {i : Nat} {r : Rn} (h : L[i]? = some r) : (bytesOf L).getD i 0 = r.c := by simp [bytesOf, List.getD, h]
theorem get_past {L : List Rn} {i : Nat} (h : L.length ≤ i) : (bytesOf L).getD i 0 = 0 := by simp [bytesOf, List.getD, List.getElem?_eq_none h]

set_option maxRecDepth 100000 in
theorem rat_any {L : List Rn} {v : Value} {w : World} (h : RsAt L v w) (i : Nat) {x : Int} (hx : x = (i : Int)) : Calls Try.prog 61 #[v, .int .i64 x] w (BytePost ((bytesOf L).getD i 0) w) := by
  subst hx
  obtain ⟨a, cap, rfl, h1, h2, h3⟩ := h
  unfold maxLen at h2
  have hi0 : ¬ (i : Int) < 0 := by omega
  by_cases hi : i < L.length
  · obtain ⟨r, hr⟩ : ∃ r, L[i]? = some r := ⟨_, List.getElem?_eq_getElem hi⟩
    obtain ⟨g, rfl, hg, e0, -, -⟩ := h3 i r hr
    have hii : ¬ (L.length : Int) ≤ (i : Int) := by omega
    have hii2 : (i : Int) < (L.length : Int) := by omega
    rw [get_bytes hr]
    clear h3 hr
    go_enter Try.func61, Try.ntmps61
    go_wp2
    go_ret
    exact ⟨rfl, rfl⟩
  · have hii : (L.length : Int) ≤ (i : Int) := by omega
    rw [get_past (by omega)]
    clear h3
    go_enter Try.func61, Try.ntmps61
    go_wp2
    go_ret
    exact ⟨rfl, rfl⟩

/-- The letters ahead of a constant; -1 if none begins. -/
def rlet (c0 c1 c2 : UInt8) : Int := if c0.toNat = 34 ∨ c0.toNat = 39 then 0 else if c0.toNat = 117 ∧ c1.toNat = 56 ∧ c2.toNat = 34 then 2 else if (c0.toNat = 76 ∨ c0.toNat = 117 ∨ c0.toNat = 85) ∧ (c1.toNat = 34 ∨ c1.toNat = 39) then 1 else -1

set_option maxRecDepth 100000 in
set_option maxHeartbeats 3200000 in
theorem rletters_any {L : List Rn} {v : Value} {w : World} (h : RsAt L v w) (i : Nat) (hi : i ≤ 1000000) : Calls Try.prog 60 #[v, .int .i64 (i : Int)] w fun e w' => e = .returned (.int .i64 (rlet ((bytesOf L).getD i 0) ((bytesOf L).getD (i + 1) 0) ((bytesOf L).getD (i + 2) 0))) ∧ w = w' := by
  have A0 := rat_any h i (x := (i : Int)) rfl
  have A1 := rat_any h (i + 1) (x := (i : Int) + 1) (by omega)
  have A2 := rat_any h (i + 2) (x := (i : Int) + 2) (by omega)
  obtain ⟨c0, hc0⟩ : ∃ c0, (bytesOf L).getD i 0 = c0 := ⟨_, rfl⟩
  obtain ⟨c1, hc1⟩ : ∃ c1, (bytesOf L).getD (i + 1) 0 = c1 := ⟨_, rfl⟩
  obtain ⟨c2, hc2⟩ : ∃ c2, (bytesOf L).getD (i + 2) 0 = c2 := ⟨_, rfl⟩
  rw [hc0] at A0 ⊢
  rw [hc1] at A1 ⊢
  rw [hc2] at A2 ⊢
  have HA0 := Lib.hid A0
  have HA1 := Lib.hid A1
  have HA2 := Lib.hid A2
  clear A0 A1 A2 hc0 hc1 hc2 h
  go_enter Try.func60, Try.ntmps60
  go_wp2_with (first
    | (go_at_call 61; (with_reducible refine HA0.out.mono ?_); rintro e w' ⟨rfl, rfl⟩)
    | (go_at_call 61; (with_reducible refine HA1.out.mono ?_); rintro e w' ⟨rfl, rfl⟩)
    | (go_at_call 61; (with_reducible refine HA2.out.mono ?_); rintro e w' ⟨rfl, rfl⟩))
  all_goals
    go_ret
    refine ⟨ret_nat ?_, rfl⟩
    unfold rlet
    try simp only [beq_iff_eq, beq_eq_false_iff_ne] at *
    first
      | (rw [if_pos (by omega)])
      | (rw [if_neg (by omega), if_pos (by omega)])
      | (rw [if_neg (by omega), if_neg (by omega), if_pos (by omega)])
      | (rw [if_neg (by omega), if_neg (by omega), if_neg (by omega)])

end Go.Proofs.Ytobplffailbkbaa

/-
  The document's own quoted, walked.
-/
namespace Go.Proofs.Ytobplffailbkbaa
open Go.RowKit

def PastR (l : List UInt8) (q : UInt8) (p k : Nat) : Prop := p < k ∧ k ≤ l.length ∧ qN q false (l.drop (p + 1)) = (qN q false (l.drop k)).map (· + (k - (p + 1)))

theorem qN_nil {l : List UInt8} {k : Nat} (q : UInt8) (t : Bool) (h : l.length ≤ k) : qN q t (l.drop k) = none := by
  rw [List.drop_eq_nil_of_le h]
  cases t <;> rfl

theorem PastR.on {l : List UInt8} {q : UInt8} {p k n : Nat} (h : PastR l q p k) (hn : 0 < n) (hk : k + n ≤ l.length) (he : qN q false (l.drop k) = (qN q false (l.drop (k + n))).map (· + n)) : PastR l q p (k + n) := by
  obtain ⟨h1, h2, h3⟩ := h
  refine ⟨by omega, hk, ?_⟩
  rw [h3, he, Option.map_map]
  congr 1
  funext m
  simp
  omega

theorem qN_slash {l : List UInt8} {q : UInt8} {k : Nat} (hk : k + 1 < l.length) (h92 : l.getD k 0 = 92) (h10 : l.getD (k + 1) 0 ≠ 10) : qN q false (l.drop k) = (qN q false (l.drop (k + 2))).map (· + 2) := by
  rw [qN_step q false (by omega), if_neg (by rw [h92]; decide), if_neg (by simp), if_pos h92, qN_step q true hk, if_neg h10, if_pos rfl, Option.map_map]
  congr 1
theorem qN_last {l : List UInt8} {q : UInt8} {k : Nat} (hk : k < l.length) (h92 : l.getD k 0 = 92) (h : ¬ (k + 1 < l.length ∧ l.getD (k + 1) 0 ≠ 10)) : qN q false (l.drop k) = (qN q false (l.drop (k + 1))).map (· + 1) := by
  rw [qN_step q false hk, if_neg (by rw [h92]; decide), if_neg (by simp), if_pos h92]
  by_cases h1 : k + 1 < l.length
  · have h2 : l.getD (k + 1) 0 = 10 := by
      rcases Classical.em (l.getD (k + 1) 0 = 10) with h3 | h3
      · exact h3
      · exact absurd ⟨h1, h3⟩ h
    rw [qN_step q true h1, qN_step q false h1, if_pos h2, if_pos h2]
  · rw [qN_nil q true (by omega), qN_nil q false (by omega)]
theorem qN_other {l : List UInt8} {q : UInt8} {k : Nat} (hk : k < l.length) (h10 : l.getD k 0 ≠ 10) (h92 : l.getD k 0 ≠ 92) (hq : l.getD k 0 ≠ q) : qN q false (l.drop k) = (qN q false (l.drop (k + 1))).map (· + 1) := by
  rw [qN_step q false hk, if_neg h10, if_neg (by simp), if_neg h92, if_neg hq]

theorem PastR.found {l : List UInt8} {q : UInt8} {p k : Nat} (h : PastR l q p k) (hk : k < l.length) (h10 : l.getD k 0 ≠ 10) (h92 : l.getD k 0 ≠ 92) (hq : l.getD k 0 = q) : qEnd l q p = k + 1 := by
  have h4 := h.2.2
  rw [qN_step q false hk, if_neg h10, if_neg (by simp), if_neg h92, if_pos hq] at h4
  unfold qEnd
  rw [h4]
  have := h.1
  simp
  omega
theorem PastR.no {l : List UInt8} {q : UInt8} {p k : Nat} (h : PastR l q p k) (hn : qN q false (l.drop k) = none) : qEnd l q p = 0 := by
  have h4 := h.2.2
  rw [hn] at h4
  unfold qEnd
  rw [h4]
  rfl

set_option maxRecDepth 100000 in
set_option maxHeartbeats 6400000 in
theorem rquoted_any {L : List Rn} {v : Value} {w : World} (h : RsAt L v w) (i : Nat) {x : Int} (hx : x = (i : Int)) (hL : L.length ≤ 1000000) (hi : i < L.length) {q : UInt8} (hq : (bytesOf L).getD i 0 = q) (hq92 : q ≠ 92) :
    Calls Try.prog 62 #[v, .int .i64 x] w (NatPost (qEnd (bytesOf L) q i) w) := by
  subst hx
  have hlen := bytesOf_len L
  have A0 := rat_any h i (x := (i : Int)) rfl
  rw [hq] at A0
  have HA0 := Lib.hid A0
  obtain ⟨a, cap, rfl, h1, h2, h3⟩ := h
  unfold maxLen at h2
  have H3 := Lib.hid h3
  have HQ := Lib.hid hq
  have HLEN := Lib.hid hlen
  have HP0 : Hid (PastR (bytesOf L) q i (i + 1)) := Lib.hid ⟨by omega, by omega, by simp⟩
  clear A0 h3 hq hlen
  go_enter Try.func62, Try.ntmps62
  go_wp2_with (go_at_call 61; (with_reducible refine HA0.out.mono ?_); rintro e w' ⟨rfl, rfl⟩)
  go_loop [6] (fun j => ∃ k : Nat, j = .int .i64 (k : Int) ∧ PastR (bytesOf L) q i k) (fun j => L.length - (intOf j).toNat)
  case atStart => exact ⟨i + 1, by go_num, HP0.out⟩
  case round =>
    obtain ⟨k, rfl, hp⟩ := hrel
    have hkl : k ≤ L.length := by have := hp.2.1; rw [HLEN.out] at this; exact this
    have HP := Lib.hid hp
    clear hp
    by_cases hlt : k < L.length
    · obtain ⟨r, hr⟩ : ∃ r, L[k]? = some r := ⟨_, List.getElem?_eq_getElem hlt⟩
      obtain ⟨g, rfl, hg, e0, -, -⟩ := H3.out k r hr
      have hki : (k : Int) < (L.length : Int) := by omega
      have HG := Lib.hid (get_bytes hr)
      have HKL : Hid (k < (bytesOf L).length) := Lib.hid (by rw [HLEN.out]; exact hlt)
      clear hr
      by_cases h10 : r.c = 10
      · have b1 : (((r.c.toNat : Nat) : Int) == 10) = true := by rw [h10]; rfl
        have b2 : (((r.c.toNat : Nat) : Int) != 10) = false := by rw [h10]; rfl
        have HX := Lib.hid (HP.out.no (by rw [qN_step q false HKL.out, if_pos (by rw [HG.out]; exact h10)]))
        clear h10
        go_wp2
        go_ret
        rw [HX.out]
        exact ⟨rfl, rfl⟩
      · have b1 : (((r.c.toNat : Nat) : Int) == 10) = false := byte_neB (n := 10) (by omega) h10
        have b2 : (((r.c.toNat : Nat) : Int) != 10) = true := by rw [bne, b1]; rfl
        have H10 := Lib.hid (show (bytesOf L).getD k 0 ≠ 10 from by rw [HG.out]; exact h10)
        clear h10
        by_cases h92 : r.c = 92
        · have b3 : (((r.c.toNat : Nat) : Int) == 92) = true := by rw [h92]; rfl
          have H92 := Lib.hid (show (bytesOf L).getD k 0 = 92 from by rw [HG.out]; exact h92)
          have hqr : (((r.c.toNat : Nat) : Int) == ((q.toNat : Nat) : Int)) = false := by
            rw [h92]
            simp only [beq_eq_false_iff_ne]
            intro e
            exact hq92 (UInt8.toNat_inj.1 (by have h5 : q.toNat = 92 := by (have h6 := e; simp at h6; omega)
                                              rw [h5]; rfl))
          by_cases hk1 : k + 1 < L.length
          · obtain ⟨r1, hr1⟩ : ∃ r, L[k + 1]? = some r := ⟨_, List.getElem?_eq_getElem hk1⟩
            obtain ⟨g1, hg1, -, e1, -, -⟩ := H3.out (k + 1) r1 hr1
            simp only [Option.some.injEq, Addr.mk.injEq, and_true] at hg1
            subst hg1
            have hki1 : (k : Int) + 1 < (L.length : Int) := by omega
            have hk0 : (0 : Int) ≤ (k : Int) + 1 := by omega
            have HG1 := Lib.hid (get_bytes hr1)
            clear hr1
            by_cases h11 : r1.c = 10
            · have b4 : (((r1.c.toNat : Nat) : Int) != 10) = false := by rw [h11]; rfl
              have HX := Lib.hid (qN_last (q := q) HKL.out H92.out (by rintro ⟨-, h3⟩; rw [HG1.out] at h3; exact h3 h11))
              clear h11 h92
              go_wp2
              go_round
              case rel => exact ⟨k + 1, by go_num, HP.out.on (by omega) (by rw [HLEN.out]; omega) HX.out⟩
              case measure => simp [intOf]; omega
            · have b5 : (((r1.c.toNat : Nat) : Int) == 10) = false := byte_neB (n := 10) (by omega) h11
              have b4 : (((r1.c.toNat : Nat) : Int) != 10) = true := by rw [bne, b5]; rfl
              have HX := Lib.hid (qN_slash (q := q) (l := bytesOf L) (k := k) (by rw [HLEN.out]; exact hk1) H92.out (by rw [HG1.out]; exact h11))
              clear h11 h92
              go_wp2
              go_round
              case rel => exact ⟨k + 2, by go_num, HP.out.on (by omega) (by rw [HLEN.out]; omega) HX.out⟩
              case measure => simp [intOf]; omega
          · have hki1 : ¬ (k : Int) + 1 < (L.length : Int) := by omega
            have HX := Lib.hid (qN_last (q := q) HKL.out H92.out (by rintro ⟨h3, -⟩; rw [HLEN.out] at h3; exact hk1 h3))
            clear h92
            go_wp2
            go_round
            case rel => exact ⟨k + 1, by go_num, HP.out.on (by omega) (by rw [HLEN.out]; omega) HX.out⟩
            case measure => simp [intOf]; omega
        · have b3 : (((r.c.toNat : Nat) : Int) == 92) = false := byte_neB (n := 92) (by omega) h92
          have H92 := Lib.hid (show (bytesOf L).getD k 0 ≠ 92 from by rw [HG.out]; exact h92)
          clear h92
          by_cases hqk : r.c = q
          · have hqr : (((r.c.toNat : Nat) : Int) == ((q.toNat : Nat) : Int)) = true := by rw [hqk]; simp
            have HX := Lib.hid (HP.out.found HKL.out H10.out H92.out (by rw [HG.out]; exact hqk))
            clear hqk
            go_wp2
            go_ret
            rw [HX.out]
            exact ⟨ret_nat (by omega), rfl⟩
          · have hqr : (((r.c.toNat : Nat) : Int) == ((q.toNat : Nat) : Int)) = false := by
              simp only [beq_eq_false_iff_ne]
              intro e
              exact hqk (UInt8.toNat_inj.1 (by omega))
            have HX := Lib.hid (qN_other (q := q) HKL.out H10.out H92.out (by rw [HG.out]; exact hqk))
            clear hqk
            go_wp2
            go_round
            case rel => exact ⟨k + 1, by go_num, HP.out.on (by omega) (by rw [HLEN.out]; omega) HX.out⟩
            case measure => simp [intOf]; omega
    · have hki : ¬ (k : Int) < (L.length : Int) := by omega
      have HX := Lib.hid (HP.out.no (qN_nil q false (by rw [HLEN.out]; omega)))
      go_wp2
      go_ret
      rw [HX.out]
      exact ⟨rfl, rfl⟩

end Go.Proofs.Ytobplffailbkbaa
