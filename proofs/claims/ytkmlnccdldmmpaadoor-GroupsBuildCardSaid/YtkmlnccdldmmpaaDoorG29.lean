/-
  Texts of the proof, put together: DkToks, GcDiag, GcRun.
-/
import Derived.Test.YtkmlnccdldmmpaaDoorG22
import Derived.Test.YtkmlnccdldmmpaaDoorG23
import Derived.Test.YtkmlnccdldmmpaaDoorG28
import Derived.Test.YtkmlnccdldmmpaaDoorG10
import Derived.Test.YtkmlnccdldmmpaaDoorG02

/-
  Tokens of a text, as the law lexes it, and what the document fixes.
-/
namespace Go.Proofs.YtkmlnccdldmmpaaDoor
open Go.RowKit

/-- The first line's tokens. -/
def firstT (A : Acc) : List Tk := match A.lines with
  | [] => []
  | ln :: _ => ln.toks
def fB : ByteArray := ⟨#[102]⟩
def lexT (s : ByteArray) : List Xt := (firstT (linesA (charsL s.data.toList) s.size)).map (xtOf fB)

def LinesFirst (W : World) (A : Acc) (e : Ending) (w' : World) : Prop :=
  ∃ la n lc da m dc, e = .returned (.tuple #[.slice la n lc, .slice da m dc]) ∧ n = A.lines.length ∧ n ≤ lc ∧ lc ≤ maxLen ∧ Below W.heap.size W w' ∧ (0 < n → ∃ g ta tn tc, la = some ⟨g, 0, none⟩ ∧ w'.cell? ⟨g, 0, none⟩ = some (.slice ta tn tc) ∧ tn = (firstT A).length ∧ ToksX ((firstT A).map (xtOf fB)) (.slice ta tn tc) w')

theorem lines_first {W : World} {T : TypeId} {A : Acc} {e : Ending} {w' : World} (h : LinesPost W fB T A e w') : LinesFirst W A e w' := by
  obtain ⟨la, n, lc, da, m, dc, rfl, hn, hm, hl, hd⟩ := h
  obtain ⟨a, cap, hv, h1, h2, h3⟩ := hl.at
  obtain ⟨P, -, hu, -⟩ := hl
  simp only [Value.slice.injEq] at hv
  obtain ⟨rfl, hn', rfl⟩ := hv
  refine ⟨la, n, lc, da, m, dc, rfl, hn, by omega, h2, hu.2, fun h0 => ?_⟩
  obtain ⟨ln, hln⟩ : ∃ ln, A.lines[0]? = some ln := ⟨_, List.getElem?_eq_getElem (by omega)⟩
  obtain ⟨g, tv, hg, -, c0, -, -, -, ht⟩ := h3 0 ln hln
  have hf : firstT A = ln.toks := by
    unfold firstT
    cases hA : A.lines with
    | nil => rw [hA] at hln; simp at hln
    | cons x r => rw [hA] at hln; simp at hln; rw [hln]
  have hx := ToksAt.x ht
  obtain ⟨ta, tc, rfl, -⟩ := ht
  refine ⟨g, ta, _, tc, hg, ?_, by rw [hf], ?_⟩
  · simpa using c0
  · rw [hf]
    exact hx

set_option maxRecDepth 100000 in
set_option maxHeartbeats 1600000 in
theorem lexed_any (s : ByteArray) (W : World) (hs : s.size ≤ 100000) : Calls Tryd.prog 20 #[.string s] W (ToksNew W (lexT s)) := by
  have HL : Hid (Calls Tryd.prog 22 #[.string ⟨#[102]⟩, .string s] W (LinesFirst W (linesA (charsL s.data.toList) s.size))) := Lib.hid ((rlines_any fB s W hs).mono fun _ _ h => lines_first h)
  obtain ⟨A, hA⟩ : ∃ A, linesA (charsL s.data.toList) s.size = A := ⟨_, rfl⟩
  unfold lexT
  rw [hA] at HL ⊢
  clear hA hs
  by_cases h0 : A.lines = []
  · have hf : Hid (firstT A = []) := Lib.hid (by unfold firstT; rw [h0])
    have hl : Hid (A.lines.length = 0) := Lib.hid (by rw [h0]; rfl)
    clear h0
    go_enter Tryd.func20, Tryd.ntmps20
    go_wp2_with (go_at_call 22; (with_reducible refine HL.out.mono ?_); rintro e w1 ⟨la, n, lc, da, m, dc, rfl, hn, -, -, hb1, -⟩; have HB1 := Lib.hid hb1; clear hb1; (have hn0 : n = 0 := hn.trans hl.out); subst hn0; clear hn)
    go_ret
    exact ⟨none, 0, 0, rfl, by rw [hf.out]; rfl, by rw [hf.out]; exact toksX_nil _, HB1.out⟩
  · have hl : Hid (0 < A.lines.length) := Lib.hid (List.length_pos_iff.2 h0)
    clear h0
    go_enter Tryd.func20, Tryd.ntmps20
    go_wp2_with (go_at_call 22; (with_reducible refine HL.out.mono ?_); rintro e w1 ⟨la, n, lc, da, m, dc, rfl, hn, hlc, hlm, hb1, hf⟩; have HB1 := Lib.hid hb1; clear hb1; (have hn0 : 0 < n := hn ▸ hl.out); (obtain ⟨g, ta, tn, tc, rfl, c0, htn, hx⟩ := hf hn0); have HX := Lib.hid hx; have HTN := Lib.hid htn; (have hne : ((n : Int) == 0) = false := by simp; omega); unfold maxLen at hlm; clear hn hx htn hf)
    go_ret
    exact ⟨ta, tn, tc, rfl, by rw [HTN.out, List.length_map], HX.out, HB1.out⟩

end Go.Proofs.YtkmlnccdldmmpaaDoor

/-
  What is told of lines: the builder's diags, walked.
-/
namespace Go.Proofs.YtkmlnccdldmmpaaDoor
open Go.RowKit

def tk1 (ln : Ln) : Tk := (ln.toks[1]?).getD ⟨0, [], false, 0, 0⟩
def dgOf (z : Int) (ln : Ln) : Dg := ⟨z.toNat, (tk1 ln).f, (tk1 ln).t⟩
def dgAt (p : Int × Ln) : List Dg := if p.1 = 0 then [] else [dgOf p.1 p.2]
def diagsL (codes : List Int) (lines : List Ln) : List Dg := (codes.zip lines).flatMap dgAt
theorem diags_few (Z : List (Int × Ln)) : (Z.flatMap dgAt).length ≤ Z.length := by
  induction Z with
  | nil => exact Nat.le_refl _
  | cons p r ih =>
    rw [List.flatMap_cons, List.length_append, List.length_cons]
    have : (dgAt p).length ≤ 1 := by unfold dgAt; split <;> simp
    omega

theorem dg_ex {W w : World} {F : ByteArray} {v sv : Value} {n : Nat} {D : List Dg} {ty : TypeId} (h : DRow W F v D w) (d : Dg) (hs : Src w sv 1 4 (dcell F d)) (hn : D.length ≤ 500000) (hv : D.length = n) :
    ∃ v' w', (Builtin.append_ #[39, 39] ty #[v, sv]).run Tryd.prog w = .ok v' w' ∧ ∃ b cap, v' = .slice (some ⟨b, 0, none⟩) (n + 1) cap ∧ DRow W F (.slice (some ⟨b, 0, none⟩) (n + 1) cap) (D ++ [d]) w' := by
  subst hv
  obtain ⟨i0, hi, hz0, hz1, hz2⟩ := info_parts Tryd.infoDiag
  obtain ⟨v', w', hr, h2⟩ := app_up (ty := ty) Tryd.underlying39 hi hz0 hz1 hz2 rfl (by decide) (by decide) h hs (by intro u hu; simp only [dcell, List.mem_cons, List.not_mem_nil, or_false] at hu; rcases hu with rfl | rfl | rfl | rfl <;> rfl) (by omega)
  obtain ⟨b, cap, hv⟩ := append_form h2.1 (by omega)
  subst hv
  refine ⟨_, w', hr, b, cap, rfl, ?_⟩
  unfold DRow
  rw [List.length_append, dcells_snoc]
  exact h2

def DiagNew (w : World) (D : List Dg) (e : Ending) (w' : World) : Prop := ∃ da dn dc, e = .returned (.slice da dn dc) ∧ dn = D.length ∧ DRow w fB (.slice da dn dc) D w'

theorem take_one {α : Type} {l : List α} {k : Nat} {a : α} (h : l[k]? = some a) : l.take (k + 1) = l.take k ++ [a] := by
  rw [List.take_add_one, h]
  rfl

set_option maxRecDepth 100000 in
set_option maxHeartbeats 6400000 in
theorem gdiags_any {bb ca n : Nat} {codes : List Int} {lines : List Ln} {lv : Value} {w : World} (b1 : w.cell? ⟨bb, 1, none⟩ = some (.slice (some ⟨ca, 0, none⟩) n n)) (hcl : ca < w.heap.size) (hc : ∀ k z, codes[k]? = some z → w.cell? ⟨ca, k, none⟩ = some (.int .i64 z)) (hn : codes.length = n) (hl : LinesAt fB lines lv w) (hln : lines.length = n) (hsm : n ≤ 400000)
    (hz : ∀ (k : Nat) (z : Int) (ln : Ln), codes[k]? = some z → lines[k]? = some ln → z ≠ 0 → 0 ≤ z ∧ 2 ≤ ln.toks.length) :
    Calls Tryd.prog 52 #[.pointer (some ⟨bb, 0, none⟩), lv] w (DiagNew w (diagsL codes lines)) := by
  obtain ⟨la, lc, rfl, hlc1, hlc2, hcell⟩ := hl
  have HC := Lib.hid hc
  have HL := Lib.hid hcell
  have HN := Lib.hid hn
  have HLN := Lib.hid hln
  have HZ := Lib.hid hz
  unfold maxLen at hlc2

  obtain ⟨Z, hZ⟩ : ∃ Z, codes.zip lines = Z := ⟨_, rfl⟩
  have hZl : Z.length = n := by rw [← hZ, List.length_zip, hn, hln]; omega
  have HZZ := Lib.hid hZ
  have HZL := Lib.hid hZl
  unfold diagsL
  rw [hZ]
  have HLT := Lib.hid hcl
  have HLL : Hid (lines.length = n) := Lib.hid hln
  rw [hln] at hlc1 ⊢
  clear hc hcell hn hln hz hZ hZl hcl
  go_enter Tryd.func52, Tryd.ntmps52
  go_wp2
  go_loopw [5, 13] (fun dv i wr => ∃ (k : Nat) (da : Option Addr) (dn dc : Nat), i = .int .i64 (k : Int) ∧ k ≤ n ∧ dv = .slice da dn dc ∧ dn = ((Z.take k).flatMap dgAt).length ∧ DRow w fB (.slice da dn dc) ((Z.take k).flatMap dgAt) wr) (fun _ i _ => n - (intOf i).toNat)
  case atStart => exact ⟨0, none, 0, 0, rfl, Nat.zero_le _, rfl, rfl, up_nil w _ 4⟩
  case round =>
    obtain ⟨k, da, dn, dc, rfl, hk, rfl, hdn, hD⟩ := hrel
    have HD := Lib.hid hD
    have HDN := Lib.hid hdn
    clear hD hdn
    by_cases hlt : k < n
    · obtain ⟨z, hzk⟩ : ∃ z, codes[k]? = some z := ⟨_, List.getElem?_eq_getElem (by rw [HN.out]; exact hlt)⟩
      obtain ⟨ln, hlk⟩ : ∃ ln, lines[k]? = some ln := ⟨_, List.getElem?_eq_getElem (by rw [HLL.out]; exact hlt)⟩
      have hZk : Z[k]? = some (z, ln) := by
        rw [← HZZ.out]
        exact List.getElem?_zip_eq_some.2 ⟨hzk, hlk⟩
      have e0 := bcell HD.out.2 (HC.out k z hzk) HLT.out
      obtain ⟨g, tv, rfl, hg, l0, -, -, -, ht⟩ := HL.out k ln hlk
      have hkI : (k : Int) < (n : Int) := by omega
      have hk0 : (0 : Int) ≤ (k : Int) := by omega
      have HT : Hid ((Z.take (k + 1)).flatMap dgAt = (Z.take k).flatMap dgAt ++ dgAt (z, ln)) := Lib.hid (by rw [take_one hZk, List.flatMap_append]; simp)
      by_cases hz0 : z = 0
      · have hzb : (z != 0) = false := by simpa using hz0
        have HE : Hid (dgAt (z, ln) = []) := Lib.hid (by unfold dgAt; exact if_pos hz0)
        clear hzk hlk hZk l0 ht hz0
        go_wp2
        go_roundw
        case rel => exact ⟨k + 1, da, dn, dc, by go_num, hlt, rfl, by rw [HT.out, HE.out, List.append_nil]; exact HDN.out, by rw [HT.out, HE.out, List.append_nil]; exact HD.out⟩
        case measure => simp [intOf]; omega
      · have hzb : (z != 0) = true := by simpa using hz0
        obtain ⟨hz1, hz2⟩ := HZ.out k z ln hzk hlk hz0
        obtain ⟨t, ht1⟩ : ∃ t, ln.toks[1]? = some t := ⟨_, List.getElem?_eq_getElem (by omega)⟩
        obtain ⟨ta, tc, rfl, htc1, htc2, hta⟩ := ht
        obtain ⟨g2, rfl, hg2, -, -, -, t3, t4, t5, -, -⟩ := hta 1 t ht1
        have hdg : dgOf z ln = ⟨z.toNat, t.f, t.t⟩ := by unfold dgOf tk1; rw [ht1]; rfl
        have HE : Hid (dgAt (z, ln) = [⟨z.toNat, t.f, t.t⟩]) := Lib.hid (by unfold dgAt; rw [if_neg hz0, hdg])
        have q0 := bcell HD.out.2 l0 hg
        have q3 : wr.cell? ⟨g2, 11, none⟩ = some (.string fB) := bcell HD.out.2 t3 hg2
        have q4 : wr.cell? ⟨g2, 12, none⟩ = some (.int .i64 (t.f : Int)) := bcell HD.out.2 t4 hg2
        have q5 : wr.cell? ⟨g2, 13, none⟩ = some (.int .i64 (t.t : Int)) := bcell HD.out.2 t5 hg2
        obtain ⟨m, hm⟩ : ∃ m, ln.toks.length = m := ⟨_, rfl⟩
        rw [hm] at hz2 htc1 q0
        have hdb : dn ≤ 400000 := by
          have h1 := diags_few (Z.take k)
          rw [← HDN.out, List.length_take] at h1
          omega
        have hm1 : (1 : Int) < (m : Int) := by omega
        unfold maxLen at htc2
        have HX : Hid (∃ v' w', (Builtin.append_ #[39, 39] 39 #[.slice da dn dc, .slice (some ⟨wr.heap.size, 0, none⟩) 1 1]).run Tryd.prog (wr.alloc (.cells #[.int .i64 z, .string fB, .int .i64 (t.f : Int), .int .i64 (t.t : Int)] 63)) = .ok v' w' ∧ ∃ b cap, v' = .slice (some ⟨b, 0, none⟩) (dn + 1) cap ∧ DRow w fB (.slice (some ⟨b, 0, none⟩) (dn + 1) cap) ((Z.take k).flatMap dgAt ++ [⟨z.toNat, t.f, t.t⟩]) w') := Lib.hid (dg_ex (Up.alloc HD.out _) ⟨z.toNat, t.f, t.t⟩ (src_row (heap_alloc_new wr _) (by simp [dcell]; omega) rfl) (by rw [← HDN.out]; omega) HDN.out.symm)
        clear hzk hlk hZk hz0 ht1 hta hdg l0 t3 t4 t5 hm
        go_wp2_with (at_builtin; refine wpList_append_ex rfl (.tmp 20) (.tmp 31) 39 rfl _ HX.out ?_; rintro v' w3 ⟨b5, c5, rfl, hp⟩; have HP := Lib.hid hp; clear hp)
        go_roundw
        case rel => exact ⟨k + 1, some ⟨b5, 0, none⟩, dn + 1, c5, by go_num, hlt, rfl, by rw [HT.out, HE.out, List.length_append, ← HDN.out]; rfl, by rw [HT.out, HE.out]; exact HP.out⟩
        case measure => simp [intOf]; omega
    · have hkI : ¬ (k : Int) < (n : Int) := by omega
      go_wp2
      go_ret
      refine ⟨da, dn, dc, rfl, ?_, ?_⟩
      · have := HDN.out
        rw [List.take_of_length_le (by rw [HZL.out]; omega)] at this
        exact this
      · have := HD.out
        rw [List.take_of_length_le (by rw [HZL.out]; omega)] at this
        exact this

end Go.Proofs.YtkmlnccdldmmpaaDoor

/-
  The run over a text's lines, and what is told of them, over lists.
-/
namespace Go.Proofs.YtkmlnccdldmmpaaDoor

theorem run_snoc : ∀ (l : List (Nat × Bool)) (s : Bs) (i : Nat) (x : Nat × Bool), runB s i (l ++ [x]) = stepB (runB s i l) (i + l.length) x.1 x.2
  | [], s, i, (k, ne) => rfl
  | (k, ne) :: r, s, i, x => by
    rw [List.cons_append, runB, run_snoc r, runB, List.length_cons, show i + 1 + r.length = i + (r.length + 1) from by omega]
theorem fine_run : ∀ (l : List (Nat × Bool)) (s : Bs) (i : Nat), Fine s i → Fine (runB s i l) (i + l.length)
  | [], _, _, h => h
  | (k, ne) :: r, s, i, h => by
    have := fine_run r _ _ (fine_step h k ne)
    rw [runB, List.length_cons, show i + (r.length + 1) = i + 1 + r.length from by omega]
    exact this

/-- What is told is a directive. -/
def Told (s : Bs) (K : List (Nat × Bool)) : Prop := ∀ j, (j ∈ s.bad ∨ j ∈ s.st.map Fr.ln) → ∃ k ne, K[j]? = some (k, ne) ∧ 2 ≤ k
theorem told_step {s : Bs} {K : List (Nat × Bool)} {i k : Nat} {ne : Bool} (h : Told s K) (hK : K[i]? = some (k, ne)) : Told (stepB s i k ne) K := by
  unfold stepB
  by_cases h1 : 2 ≤ k ∧ k ≤ 4
  · rw [if_pos h1]
    intro j hj
    rcases hj with hj | hj
    · exact h j (.inl hj)
    · rcases List.mem_cons.1 hj with rfl | hj
      · exact ⟨k, ne, hK, h1.1⟩
      · exact h j (.inr hj)
  · rw [if_neg h1]
    have hout : 5 ≤ k → Told { s with bad := s.bad ++ [i] } K := by
      intro h5 j hj
      rcases hj with hj | hj
      · rcases List.mem_append.1 hj with hj | hj
        · exact h j (.inl hj)
        · simp at hj
          subst hj
          exact ⟨k, ne, hK, by omega⟩
      · exact h j (.inr hj)
    have hsame : ∀ {s' : Bs}, s'.bad = s.bad → (∀ j ∈ s'.st.map Fr.ln, j ∈ s.st.map Fr.ln) → Told s' K := fun hb hs j hj => h j (hj.elim (fun hj => .inl (hb ▸ hj)) fun hj => .inr (hs j hj))
    by_cases h2 : 5 ≤ k ∧ k ≤ 7 ∧ s.st = []
    · rw [if_pos h2]; exact hout h2.1
    · rw [if_neg h2]
      by_cases h3 : (k = 5 ∨ k = 6) ∧ endedB s = true
      · rw [if_pos h3]; exact hout (by omega)
      · rw [if_neg h3]
        split
        · exact hsame (bad_arm s i k) (fun j hj => by rw [arm_st] at hj; exact hj)
        · split
          · exact hsame (bad_close s) (fun j hj => by rw [close_st] at hj; exact List.mem_of_mem_tail hj)
          · split
            · exact hsame (bad_put s _) (fun j hj => by rw [put_st] at hj; exact hj)
            · exact h
theorem told_take (K : List (Nat × Bool)) : ∀ k, k ≤ K.length → Told (runB bs0 0 (K.take k)) K
  | 0, _ => fun j hj => (by rcases hj with hj | hj <;> cases hj)
  | k + 1, hk => by
    rw [List.take_succ_eq_append_getElem (by omega), run_snoc, List.length_take, Nat.min_eq_left (by omega), Nat.zero_add]
    exact told_step (told_take K k (by omega)) (List.getElem?_eq_getElem (by omega))

def codesOf (s : Bs) (n : Nat) : List Int := (List.range n).map (codeAt s)
theorem codes_are {codes : List Int} {s : Bs} {n : Nat} (h : CodesOk codes s) (hn : codes.length = n) : codes = codesOf s n := by
  apply List.ext_getElem?
  intro i
  unfold codesOf
  rcases Nat.lt_or_ge i n with hi | hi
  · have h1 : codes[i]? = some (codes[i]'(by omega)) := List.getElem?_eq_getElem (by omega)
    rw [List.getElem?_map, List.getElem?_range hi, h1, h i _ h1]
    rfl
  · rw [List.getElem?_eq_none (by omega), List.getElem?_eq_none (by simp; omega)]

/-- A line's kind, and whether it has tokens. -/
def lnK (ln : Ln) : Nat × Bool := (kindL (ln.toks.map (xtOf fB)), decide (ln.toks.map (xtOf fB) ≠ []))
def ksOf (lines : List Ln) : List (Nat × Bool) := lines.map lnK
def tells (lines : List Ln) : List Dg := diagsL (codesOf (runB bs0 0 (ksOf lines)) lines.length) lines

theorem codeAt_some {s : Bs} {i : Nat} (h : codeAt s i ≠ 0) : (i ∈ s.bad ∨ i ∈ s.st.map Fr.ln) ∧ 0 ≤ codeAt s i := by
  unfold codeAt at h ⊢
  split
  · rename_i hb
    exact ⟨.inl hb, by omega⟩
  · rename_i hb
    rw [if_neg hb] at h
    split
    · rename_i hs
      exact ⟨.inr hs, by omega⟩
    · rename_i hs
      rw [if_neg hs] at h
      exact absurd rfl h
theorem told_two {lines : List Ln} {k : Nat} {z : Int} {ln : Ln} (hz : (codesOf (runB bs0 0 (ksOf lines)) lines.length)[k]? = some z) (hl : lines[k]? = some ln) (h0 : z ≠ 0) : 0 ≤ z ∧ 2 ≤ ln.toks.length := by
  have hk : k < lines.length := (List.getElem?_eq_some_iff.1 hl).1
  unfold codesOf at hz
  rw [List.getElem?_map, List.getElem?_range hk] at hz
  simp only [Option.map_some, Option.some.injEq] at hz
  subst hz
  obtain ⟨h1, h2⟩ := codeAt_some h0
  have ht := told_take (ksOf lines) (ksOf lines).length (Nat.le_refl _)
  rw [List.take_length] at ht
  obtain ⟨k', ne, h3, h4⟩ := ht k h1
  unfold ksOf at h3
  rw [List.getElem?_map, hl] at h3
  simp only [Option.map_some, Option.some.injEq, lnK, Prod.mk.injEq] at h3
  rw [← h3.1] at h4
  have := kindL_len h4
  rw [List.length_map] at this
  exact ⟨h2, this⟩

end Go.Proofs.YtkmlnccdldmmpaaDoor
