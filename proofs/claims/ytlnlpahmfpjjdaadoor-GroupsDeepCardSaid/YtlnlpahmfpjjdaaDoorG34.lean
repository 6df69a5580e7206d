/-
  Texts of the proof, put together: GcDiag, GcRun, GcBuild.
-/
import Derived.Test.YtlnlpahmfpjjdaaDoorG25
import Derived.Test.YtlnlpahmfpjjdaaDoorG11
import Derived.Test.YtlnlpahmfpjjdaaDoorG32
import Derived.Test.YtlnlpahmfpjjdaaDoorG02
import Derived.Deep.LoopGhost

/-
  What is told of lines: the builder's diags, walked.
-/
namespace Go.Proofs.YtlnlpahmfpjjdaaDoor
open Go.RowKit

def tk1 (ln : Ln) : Tk := (ln.toks[1]?).getD ⟨0, [], false, 0, 0⟩
def dgOf (z : Int) (ln : Ln) : Dg := ⟨z.toNat, (tk1 ln).f, (tk1 ln).t⟩
def dgAt (p : Int × Ln) : List Dg := if p.1 = 0 then [] else [dgOf p.1 p.2]
def diagsL (codes : List Int) (lines : List Ln) : List Dg := (codes.zip lines).flatMap dgAt
theorem diags_few (Z : List (Int × Ln)) : (Z.flatMap dgAt).length ≤ Z.length := by
  induction Z with
  | nil => exact Nat.le_refl _
  | cons p r ih =>
    rw [List.flatMap_cons, List.length_append, List.length_cons]
    have : (dgAt p).length ≤ 1 := by unfold dgAt; split <;> simp
    omega

theorem dg_ex {W w : World} {F : ByteArray} {v sv : Value} {n : Nat} {D : List Dg} {ty : TypeId} (h : DRow W F v D w) (d : Dg) (hs : Src w sv 1 4 (dcell F d)) (hn : D.length ≤ 500000) (hv : D.length = n) :
    ∃ v' w', (Builtin.append_ #[39, 39] ty #[v, sv]).run Tryd.prog w = .ok v' w' ∧ ∃ b cap, v' = .slice (some ⟨b, 0, none⟩) (n + 1) cap ∧ DRow W F (.slice (some ⟨b, 0, none⟩) (n + 1) cap) (D ++ [d]) w' := by
  subst hv
  obtain ⟨i0, hi, hz0, hz1, hz2⟩ := info_parts Tryd.infoDiag
  obtain ⟨v', w', hr, h2⟩ := app_up (ty := ty) Tryd.underlying39 hi hz0 hz1 hz2 rfl (by decide) (by decide) h hs (by intro u hu; simp only [dcell, List.mem_cons, List.not_mem_nil, or_false] at hu; rcases hu with rfl | rfl | rfl | rfl <;> rfl) (by omega)
  obtain ⟨b, cap, hv⟩ := append_form h2.1 (by omega)
  subst hv
  refine ⟨_, w', hr, b, cap, rfl, ?_⟩
  unfold DRow
  rw [List.length_append, dcells_snoc]
  exact h2

def DiagNew (w : World) (D : List Dg) (e : Ending) (w' : World) : Prop := ∃ da dn dc, e = .returned (.slice da dn dc) ∧ dn = D.length ∧ DRow w fB (.slice da dn dc) D w'

theorem take_one {α : Type} {l : List α} {k : Nat} {a : α} (h : l[k]? = some a) : l.take (k + 1) = l.take k ++ [a] := by
  rw [List.take_add_one, h]
  rfl

set_option maxRecDepth 100000 in
set_option maxHeartbeats 6400000 in
theorem gdiags_any {bb ca n : Nat} {codes : List Int} {lines : List Ln} {lv : Value} {w : World} (b1 : w.cell? ⟨bb, 1, none⟩ = some (.slice (some ⟨ca, 0, none⟩) n n)) (hcl : ca < w.heap.size) (hc : ∀ k z, codes[k]? = some z → w.cell? ⟨ca, k, none⟩ = some (.int .i64 z)) (hn : codes.length = n) (hl : LinesAt fB lines lv w) (hln : lines.length = n) (hsm : n ≤ 400000)
    (hz : ∀ (k : Nat) (z : Int) (ln : Ln), codes[k]? = some z → lines[k]? = some ln → z ≠ 0 → 0 ≤ z ∧ 2 ≤ ln.toks.length) :
    Calls Tryd.prog 52 #[.pointer (some ⟨bb, 0, none⟩), lv] w (DiagNew w (diagsL codes lines)) := by
  obtain ⟨la, lc, rfl, hlc1, hlc2, hcell⟩ := hl
  have HC := Lib.hid hc
  have HL := Lib.hid hcell
  have HN := Lib.hid hn
  have HLN := Lib.hid hln
  have HZ := Lib.hid hz
  unfold maxLen at hlc2

  obtain ⟨Z, hZ⟩ : ∃ Z, codes.zip lines = Z := ⟨_, rfl⟩
  have hZl : Z.length = n := by rw [← hZ, List.length_zip, hn, hln]; omega
  have HZZ := Lib.hid hZ
  have HZL := Lib.hid hZl
  unfold diagsL
  rw [hZ]
  have HLT := Lib.hid hcl
  have HLL : Hid (lines.length = n) := Lib.hid hln
  rw [hln] at hlc1 ⊢
  clear hc hcell hn hln hz hZ hZl hcl
  go_enter Tryd.func52, Tryd.ntmps52
  go_wp2
  go_loopw [5, 13] (fun dv i wr => ∃ (k : Nat) (da : Option Addr) (dn dc : Nat), i = .int .i64 (k : Int) ∧ k ≤ n ∧ dv = .slice da dn dc ∧ dn = ((Z.take k).flatMap dgAt).length ∧ DRow w fB (.slice da dn dc) ((Z.take k).flatMap dgAt) wr) (fun _ i _ => n - (intOf i).toNat)
  case atStart => exact ⟨0, none, 0, 0, rfl, Nat.zero_le _, rfl, rfl, up_nil w _ 4⟩
  case round =>
    obtain ⟨k, da, dn, dc, rfl, hk, rfl, hdn, hD⟩ := hrel
    have HD := Lib.hid hD
    have HDN := Lib.hid hdn
    clear hD hdn
    by_cases hlt : k < n
    · obtain ⟨z, hzk⟩ : ∃ z, codes[k]? = some z := ⟨_, List.getElem?_eq_getElem (by rw [HN.out]; exact hlt)⟩
      obtain ⟨ln, hlk⟩ : ∃ ln, lines[k]? = some ln := ⟨_, List.getElem?_eq_getElem (by rw [HLL.out]; exact hlt)⟩
      have hZk : Z[k]? = some (z, ln) := by
        rw [← HZZ.out]
        exact List.getElem?_zip_eq_some.2 ⟨hzk, hlk⟩
      have e0 := bcell HD.out.2 (HC.out k z hzk) HLT.out
      obtain ⟨g, tv, rfl, hg, l0, -, -, -, ht⟩ := HL.out k ln hlk
      have hkI : (k : Int) < (n : Int) := by omega
      have hk0 : (0 : Int) ≤ (k : Int) := by omega
      have HT : Hid ((Z.take (k + 1)).flatMap dgAt = (Z.take k).flatMap dgAt ++ dgAt (z, ln)) := Lib.hid (by rw [take_one hZk, List.flatMap_append]; simp)
      by_cases hz0 : z = 0
      · have hzb : (z != 0) = false := by simpa using hz0
        have HE : Hid (dgAt (z, ln) = []) := Lib.hid (by unfold dgAt; exact if_pos hz0)
        clear hzk hlk hZk l0 ht hz0
        go_wp2
        go_roundw
        case rel => exact ⟨k + 1, da, dn, dc, by go_num, hlt, rfl, by rw [HT.out, HE.out, List.append_nil]; exact HDN.out, by rw [HT.out, HE.out, List.append_nil]; exact HD.out⟩
        case measure => simp [intOf]; omega
      · have hzb : (z != 0) = true := by simpa using hz0
        obtain ⟨hz1, hz2⟩ := HZ.out k z ln hzk hlk hz0
        obtain ⟨t, ht1⟩ : ∃ t, ln.toks[1]? = some t := ⟨_, List.getElem?_eq_getElem (by omega)⟩
        obtain ⟨ta, tc, rfl, htc1, htc2, hta⟩ := ht
        obtain ⟨g2, rfl, hg2, -, -, -, t3, t4, t5, -, -⟩ := hta 1 t ht1
        have hdg : dgOf z ln = ⟨z.toNat, t.f, t.t⟩ := by unfold dgOf tk1; rw [ht1]; rfl
        have HE : Hid (dgAt (z, ln) = [⟨z.toNat, t.f, t.t⟩]) := Lib.hid (by unfold dgAt; rw [if_neg hz0, hdg])
        have q0 := bcell HD.out.2 l0 hg
        have q3 : wr.cell? ⟨g2, 11, none⟩ = some (.string fB) := bcell HD.out.2 t3 hg2
        have q4 : wr.cell? ⟨g2, 12, none⟩ = some (.int .i64 (t.f : Int)) := bcell HD.out.2 t4 hg2
        have q5 : wr.cell? ⟨g2, 13, none⟩ = some (.int .i64 (t.t : Int)) := bcell HD.out.2 t5 hg2
        obtain ⟨m, hm⟩ : ∃ m, ln.toks.length = m := ⟨_, rfl⟩
        rw [hm] at hz2 htc1 q0
        have hdb : dn ≤ 400000 := by
          have h1 := diags_few (Z.take k)
          rw [← HDN.out, List.length_take] at h1
          omega
        have hm1 : (1 : Int) < (m : Int) := by omega
        unfold maxLen at htc2
        have HX : Hid (∃ v' w', (Builtin.append_ #[39, 39] 39 #[.slice da dn dc, .slice (some ⟨wr.heap.size, 0, none⟩) 1 1]).run Tryd.prog (wr.alloc (.cells #[.int .i64 z, .string fB, .int .i64 (t.f : Int), .int .i64 (t.t : Int)] 63)) = .ok v' w' ∧ ∃ b cap, v' = .slice (some ⟨b, 0, none⟩) (dn + 1) cap ∧ DRow w fB (.slice (some ⟨b, 0, none⟩) (dn + 1) cap) ((Z.take k).flatMap dgAt ++ [⟨z.toNat, t.f, t.t⟩]) w') := Lib.hid (dg_ex (Up.alloc HD.out _) ⟨z.toNat, t.f, t.t⟩ (src_row (heap_alloc_new wr _) (by simp [dcell]; omega) rfl) (by rw [← HDN.out]; omega) HDN.out.symm)
        clear hzk hlk hZk hz0 ht1 hta hdg l0 t3 t4 t5 hm
        go_wp2_with (at_builtin; refine wpList_append_ex rfl (.tmp 20) (.tmp 31) 39 rfl _ HX.out ?_; rintro v' w3 ⟨b5, c5, rfl, hp⟩; have HP := Lib.hid hp; clear hp)
        go_roundw
        case rel => exact ⟨k + 1, some ⟨b5, 0, none⟩, dn + 1, c5, by go_num, hlt, rfl, by rw [HT.out, HE.out, List.length_append, ← HDN.out]; rfl, by rw [HT.out, HE.out]; exact HP.out⟩
        case measure => simp [intOf]; omega
    · have hkI : ¬ (k : Int) < (n : Int) := by omega
      go_wp2
      go_ret
      refine ⟨da, dn, dc, rfl, ?_, ?_⟩
      · have := HDN.out
        rw [List.take_of_length_le (by rw [HZL.out]; omega)] at this
        exact this
      · have := HD.out
        rw [List.take_of_length_le (by rw [HZL.out]; omega)] at this
        exact this

end Go.Proofs.YtlnlpahmfpjjdaaDoor

/-
  The run over a text's lines, and what is told of them, over lists.
-/
namespace Go.Proofs.YtlnlpahmfpjjdaaDoor

theorem run_snoc : ∀ (l : List (Nat × Bool)) (s : Bs) (i : Nat) (x : Nat × Bool), runB s i (l ++ [x]) = stepB (runB s i l) (i + l.length) x.1 x.2
  | [], s, i, (k, ne) => rfl
  | (k, ne) :: r, s, i, x => by
    rw [List.cons_append, runB, run_snoc r, runB, List.length_cons, show i + 1 + r.length = i + (r.length + 1) from by omega]
theorem fine_run : ∀ (l : List (Nat × Bool)) (s : Bs) (i : Nat), Fine s i → Fine (runB s i l) (i + l.length)
  | [], _, _, h => h
  | (k, ne) :: r, s, i, h => by
    have := fine_run r _ _ (fine_step h k ne)
    rw [runB, List.length_cons, show i + (r.length + 1) = i + 1 + r.length from by omega]
    exact this

/-- What is told is a directive. -/
def Told (s : Bs) (K : List (Nat × Bool)) : Prop := ∀ j, (j ∈ s.bad ∨ j ∈ s.st.map Fr.ln) → ∃ k ne, K[j]? = some (k, ne) ∧ 2 ≤ k
theorem told_step {s : Bs} {K : List (Nat × Bool)} {i k : Nat} {ne : Bool} (h : Told s K) (hK : K[i]? = some (k, ne)) : Told (stepB s i k ne) K := by
  unfold stepB
  by_cases h1 : 2 ≤ k ∧ k ≤ 4
  · rw [if_pos h1]
    intro j hj
    rcases hj with hj | hj
    · exact h j (.inl hj)
    · rcases List.mem_cons.1 hj with rfl | hj
      · exact ⟨k, ne, hK, h1.1⟩
      · exact h j (.inr hj)
  · rw [if_neg h1]
    have hout : 5 ≤ k → Told { s with bad := s.bad ++ [i] } K := by
      intro h5 j hj
      rcases hj with hj | hj
      · rcases List.mem_append.1 hj with hj | hj
        · exact h j (.inl hj)
        · simp at hj
          subst hj
          exact ⟨k, ne, hK, by omega⟩
      · exact h j (.inr hj)
    have hsame : ∀ {s' : Bs}, s'.bad = s.bad → (∀ j ∈ s'.st.map Fr.ln, j ∈ s.st.map Fr.ln) → Told s' K := fun hb hs j hj => h j (hj.elim (fun hj => .inl (hb ▸ hj)) fun hj => .inr (hs j hj))
    by_cases h2 : 5 ≤ k ∧ k ≤ 7 ∧ s.st = []
    · rw [if_pos h2]; exact hout h2.1
    · rw [if_neg h2]
      by_cases h3 : (k = 5 ∨ k = 6) ∧ endedB s = true
      · rw [if_pos h3]; exact hout (by omega)
      · rw [if_neg h3]
        split
        · exact hsame (bad_arm s i k) (fun j hj => by rw [arm_st] at hj; exact hj)
        · split
          · exact hsame (bad_close s) (fun j hj => by rw [close_st] at hj; exact List.mem_of_mem_tail hj)
          · split
            · exact hsame (bad_put s _) (fun j hj => by rw [put_st] at hj; exact hj)
            · exact h
theorem told_take (K : List (Nat × Bool)) : ∀ k, k ≤ K.length → Told (runB bs0 0 (K.take k)) K
  | 0, _ => fun j hj => (by rcases hj with hj | hj <;> cases hj)
  | k + 1, hk => by
    rw [List.take_succ_eq_append_getElem (by omega), run_snoc, List.length_take, Nat.min_eq_left (by omega), Nat.zero_add]
    exact told_step (told_take K k (by omega)) (List.getElem?_eq_getElem (by omega))

def codesOf (s : Bs) (n : Nat) : List Int := (List.range n).map (codeAt s)
theorem codes_are {codes : List Int} {s : Bs} {n : Nat} (h : CodesOk codes s) (hn : codes.length = n) : codes = codesOf s n := by
  apply List.ext_getElem?
  intro i
  unfold codesOf
  rcases Nat.lt_or_ge i n with hi | hi
  · have h1 : codes[i]? = some (codes[i]'(by omega)) := List.getElem?_eq_getElem (by omega)
    rw [List.getElem?_map, List.getElem?_range hi, h1, h i _ h1]
    rfl
  · rw [List.getElem?_eq_none (by omega), List.getElem?_eq_none (by simp; omega)]

/-- A line's kind, and whether it has tokens. -/
def lnK (ln : Ln) : Nat × Bool := (kindL (ln.toks.map (xtOf fB)), decide (ln.toks.map (xtOf fB) ≠ []))
def ksOf (lines : List Ln) : List (Nat × Bool) := lines.map lnK
def tells (lines : List Ln) : List Dg := diagsL (codesOf (runB bs0 0 (ksOf lines)) lines.length) lines

theorem codeAt_some {s : Bs} {i : Nat} (h : codeAt s i ≠ 0) : (i ∈ s.bad ∨ i ∈ s.st.map Fr.ln) ∧ 0 ≤ codeAt s i := by
  unfold codeAt at h ⊢
  split
  · rename_i hb
    exact ⟨.inl hb, by omega⟩
  · rename_i hb
    rw [if_neg hb] at h
    split
    · rename_i hs
      exact ⟨.inr hs, by omega⟩
    · rename_i hs
      rw [if_neg hs] at h
      exact absurd rfl h
theorem told_two {lines : List Ln} {k : Nat} {z : Int} {ln : Ln} (hz : (codesOf (runB bs0 0 (ksOf lines)) lines.length)[k]? = some z) (hl : lines[k]? = some ln) (h0 : z ≠ 0) : 0 ≤ z ∧ 2 ≤ ln.toks.length := by
  have hk : k < lines.length := (List.getElem?_eq_some_iff.1 hl).1
  unfold codesOf at hz
  rw [List.getElem?_map, List.getElem?_range hk] at hz
  simp only [Option.map_some, Option.some.injEq] at hz
  subst hz
  obtain ⟨h1, h2⟩ := codeAt_some h0
  have ht := told_take (ksOf lines) (ksOf lines).length (Nat.le_refl _)
  rw [List.take_length] at ht
  obtain ⟨k', ne, h3, h4⟩ := ht k h1
  unfold ksOf at h3
  rw [List.getElem?_map, hl] at h3
  simp only [Option.map_some, Option.some.injEq, lnK, Prod.mk.injEq] at h3
  rw [← h3.1] at h4
  have := kindL_len h4
  rw [List.length_map] at this
  exact ⟨h2, this⟩

end Go.Proofs.YtlnlpahmfpjjdaaDoor

/-
  The project's Build, walked.
-/
namespace Go.Proofs.YtlnlpahmfpjjdaaDoor
open Go.RowKit

/-- The builder, with what is told fixed. -/
def BldC (W : World) (bb d : Nat) (s : Bs) (n : Nat) (codes : List Int) (w : World) : Prop :=
  ∃ c F oa oc ca, Bld W bb c d F oa oc ca n codes w ∧ F.map Prod.fst = stackOf s
theorem BldC.over {W : World} {bb d : Nat} {s : Bs} {n : Nat} {codes : List Int} {w w' : World} (h : BldC W bb d s n codes w) (b : Below w.heap.size w w') : BldC W bb d s n codes w' := by
  obtain ⟨c, F, oa, oc, ca, h1, h2⟩ := h
  exact ⟨c, F, oa, oc, ca, h1.over b, h2⟩
theorem stack_len (s : Bs) : (stackOf s).length = s.st.length + 1 := by unfold stackOf; simp
theorem m_within {W : World} {bb d : Nat} {s : Bs} {n : Nat} {codes : List Int} {w : World} (h : BldC W bb d s n codes w) : Calls Tryd.prog 49 #[.pointer (some ⟨bb, 0, none⟩)] w (BoolIs (decide (0 < s.st.length)) w) := by
  obtain ⟨c, F, oa, oc, ca, h1, h2⟩ := h
  have := h1.within
  rw [len_of_map h2, stack_len] at this
  rw [show decide (0 < s.st.length) = decide (1 < s.st.length + 1) from by congr 1; simp]
  exact this
def EndC (W : World) (bb d : Nat) (s : Bs) (n : Nat) (codes : List Int) (e : Ending) (w' : World) : Prop := e = .returned (.tuple #[]) ∧ BldC W bb d s n codes w'
theorem m_end {W : World} {bb d : Nat} {s : Bs} {n : Nat} {codes : List Int} {w : World} (h : BldC W bb d s n codes w) (hd : d ≤ 300000) (hpos : 0 < s.st.length) : Calls Tryd.prog 50 #[.pointer (some ⟨bb, 0, none⟩)] w (EndC W bb (d + 2) (closeB s) n codes) := by
  obtain ⟨c, F, oa, oc, ca, h1, h2⟩ := h
  rcases st_cases s with hs | ⟨f, r, hs⟩
  · rw [hs] at hpos; exact absurd hpos (Nat.lt_irrefl 0)
  rw [stack_some hs] at h2
  obtain ⟨F0, x, rfl, hF0⟩ := map_snoc_inv h2
  obtain ⟨L, a, hL⟩ := stack_ends { s with st := r }
  have hL' : baseFr s.ba :: r.reverse = L ++ [a] := hL
  rw [hL'] at hF0
  obtain ⟨F1, y, rfl, hF1⟩ := map_snoc_inv hF0
  refine (end_any h1 hd).mono ?_
  rintro e w' ⟨he, c', y', hb⟩
  refine ⟨he, c', _, oa, oc, ca, hb, ?_⟩
  have hc : closeB s = putB { s with st := r } (frItem f) := by unfold closeB; rw [hs]
  rw [hc, stack_put hL, List.map_append, hF1]
  rfl

/-- What is built. -/
structure Built (w : World) (its : List Itm) (D : List Dg) (ia : Option Addr) (im ic : Nat) (da : Option Addr) (dn dc : Nat) (w' : World) : Prop where
  its : ∃ dep, dep ≤ 500000 ∧ ItsAt dep its (.slice ia im ic) w'
  dl : dn = D.length
  dgs : DRow w fB (.slice da dn dc) D w'
def BuiltP (w : World) (its : List Itm) (D : List Dg) (e : Ending) (w' : World) : Prop :=
  ∃ ia im ic da dn dc, e = .returned (.tuple #[.slice ia im ic, .slice da dn dc]) ∧ Built w its D ia im ic da dn dc w'

/-- At the end: the outermost items, and what is told. -/
theorem m_last {w : World} {bb d : Nat} {s : Bs} {n : Nat} {codes : List Int} {X : World} (h : BldC w bb d s n codes X) (hs : s.st.length = 0) :
    ∃ (ab ca : Nat) (ia : Option Addr) (im ic : Nat), (∀ Y : World, Below X.heap.size X Y → Calls Tryd.prog 51 #[.pointer (some ⟨bb, 0, none⟩)] Y (PtrNew ⟨ab, 1, none⟩ Y)) ∧ X.cell? ⟨ab, 1, none⟩ = some (.slice ia im ic) ∧ ab < X.heap.size ∧
      X.cell? ⟨bb, 1, none⟩ = some (.slice (some ⟨ca, 0, none⟩) n n) ∧ bb < X.heap.size ∧ ca < X.heap.size ∧ (∀ k z, codes[k]? = some z → X.cell? ⟨ca, k, none⟩ = some (.int .i64 z)) ∧ codes.length = n ∧ Below w.heap.size w X ∧ ItsAt (d + 1) s.ba (.slice ia im ic) X := by
  obtain ⟨c, F, oa, oc, ca, h1, h2⟩ := h
  have hnil : s.st = [] := List.eq_nil_of_length_eq_zero hs
  rw [stack_none hnil] at h2
  obtain ⟨F0, x, rfl, hF0⟩ := map_snoc_inv h2
  obtain rfl : F0 = [] := List.map_eq_nil_iff.1 hF0
  have hf := h1.fr (F0 := []) (F1 := []) rfl
  have hA : x.A.length = 0 := by
    have := hf.ma
    rw [show (baseFr s.ba).dn = [] from rfl, List.map_eq_nil_iff] at this
    rw [this]; rfl
  have hits : ∀ Y : World, Below X.heap.size X Y → Calls Tryd.prog 51 #[.pointer (some ⟨bb, 0, none⟩)] Y (PtrNew ⟨x.ab, 1, none⟩ Y) := fun Y b => by
    have h1 := h1.over b
    have h0 := h1.b0
    have hcp := h1.cap
    have hcl := h1.cell (F0 := []) (F1 := []) rfl (i := 2) (by omega) rfl
    have hac := (h1.fr (F0 := []) (F1 := []) rfl).acap
    rw [hA] at hcl hac
    exact its_any (m := 0) (k := 0) h0 hcp.1 hcp.2 hcl hac.1 hac.2 h1.olt
  have hsl := hf.slot
  rw [hA] at hsl
  refine ⟨x.ab, ca, x.ia, x.im, x.ic, hits, hsl.1, hsl.2, h1.b1, h1.lt, h1.clt, fun k z hz => ?_, h1.clen.1, h1.bel, ?_⟩
  · have hk : k < n := by rw [← h1.clen.1]; exact (List.getElem?_eq_some_iff.1 hz).1
    obtain ⟨z', hz', hcell, -⟩ := h1.code hk
    rw [hz] at hz'
    rw [Option.some.inj hz']
    exact hcell
  · have := hf.lev.done (Pk := fun _ => True) (fun _ _ => trivial) (fun _ _ => trivial)
    rw [hf.mp] at this
    exact itsP_at _ _ _ _ _ this

set_option maxRecDepth 100000 in
set_option maxHeartbeats 6400000 in
theorem gbuild_any {lines : List Ln} {lv : Value} {w : World} (hl : LinesAt fB lines lv w) (hn : lines.length ≤ 20000) (hW : WordsAt 0 w) (h0 : 0 < w.heap.size) :
    Calls Tryd.prog 23 #[lv] w (BuiltP w (buildL (ksOf lines)).1 (tells lines)) := by
  have HLA := Lib.hid hl
  obtain ⟨la, lc, rfl, hlc1, hlc2, hcell⟩ := hl
  obtain ⟨n, hln⟩ : ∃ n, lines.length = n := ⟨_, rfl⟩
  rw [hln] at hlc1 hn HLA ⊢
  have HL := Lib.hid hcell
  have HLN := Lib.hid hln
  have HW := Lib.hid hW
  have HN := Lib.hid (gover_any n (by omega) w)
  have HRK : Hid ((ksOf lines).length = n) := Lib.hid (by unfold ksOf; rw [List.length_map]; exact hln)
  obtain ⟨K, hK⟩ : ∃ K, ksOf lines = K := ⟨_, rfl⟩
  have HK := Lib.hid hK
  unfold tells
  rw [hK, hln]
  rw [hK] at HRK
  unfold maxLen at hlc2
  clear hcell hln hW hK
  go_enter Tryd.func23, Tryd.ntmps23
  go_wp2_with (go_at_call 47; (with_reducible refine HN.out.mono ?_); rintro e w1 ⟨bb, rfl, hb⟩; have HB1 := Lib.hid hb; clear hb)
  go_loopw [12] (fun i wr => ∃ k : Nat, i = .int .i64 (k : Int) ∧ k ≤ n ∧ BldS w bb (2 * k) (runB bs0 0 (K.take k)) n wr) (fun i _ => n - (intOf i).toNat)
  case atStart => exact ⟨0, rfl, Nat.zero_le _, HB1.out⟩
  case round =>
    obtain ⟨k, rfl, hk, hB⟩ := hrel
    have HB := Lib.hid hB
    clear hB
    by_cases hlt : k < n
    · obtain ⟨ln, hlk⟩ : ∃ ln, lines[k]? = some ln := ⟨_, List.getElem?_eq_getElem (by rw [HLN.out]; exact hlt)⟩
      obtain ⟨g, tv, rfl, hg, l0, l1, l2, l3, ht⟩ := HL.out k ln hlk
      have hx := ToksAt.x ht
      obtain ⟨ta, tn, tc, rfl⟩ := hx.form
      have e0 := bcell HB.out.bel l0 hg
      have e1 := bcell HB.out.bel l1 hg
      have e2 := bcell HB.out.bel l2 hg
      have e3 := bcell HB.out.bel l3 hg
      have hkI : (k : Int) < (n : Int) := by omega
      have hk0 : (0 : Int) ≤ (k : Int) := by omega
      have hKk : K[k]? = some (lnK ln) := by rw [← HK.out]; unfold ksOf; rw [List.getElem?_map, hlk]; rfl
      have HSN : Hid (runB bs0 0 (K.take (k + 1)) = stepB (runB bs0 0 (K.take k)) k (kindL (ln.toks.map (xtOf fB))) (decide (ln.toks.map (xtOf fB) ≠ []))) := Lib.hid (by
        rw [take_one hKk, run_snoc, List.length_take, Nat.min_eq_left (by rw [HRK.out]; omega), Nat.zero_add]
        rfl)
      have HT : Hid (∀ X : World, Below wr.heap.size wr X → Calls Tryd.prog 48 #[.pointer (some ⟨bb, 0, none⟩), .int .i64 (k : Int), .slice ta tn tc] X (TakenP w bb (2 * k + 2) (runB bs0 0 (K.take (k + 1))) n)) := Lib.hid (fun X b => by
        have hbX := HB.out.over b
        rw [HSN.out]
        refine gtake_any hbX (by omega) ?_ hlt (hx.over hbX.bel) (HW.out.next hbX.bel h0) (Nat.lt_of_lt_of_le h0 hbX.bel.size)
        have := fine_run (K.take k) bs0 0 fine_zero
        rw [List.length_take, Nat.min_eq_left (by rw [HRK.out]; omega), Nat.zero_add] at this
        exact this)
      have HBA : Hid (Below wr.heap.size wr (wr.alloc (.cells #[.slice ta tn tc, .int .i64 (ln.f : Int), .int .i64 (ln.t : Int), .bool ln.o] 61))) := Lib.hid ((Below.refl _ _).alloc (Nat.le_refl _) _)
      clear hlk l0 l1 l2 l3 ht hx hKk
      go_wp2_with (go_at_call 48; (with_reducible refine (HT.out _ HBA.out).mono ?_); rintro e w2 ⟨rfl, hh⟩; have HB2 := Lib.hid hh; clear hh)
      go_roundw
      case rel => exact ⟨k + 1, by go_num, hlt, HB2.out⟩
      case measure => simp [intOf]; omega
    · have hkI : ¬ (k : Int) < (n : Int) := by omega
      have hkn : k = n := by omega
      have HS : Hid (∃ s codes, s = runB bs0 0 K ∧ codes = codesOf s n ∧ BldC w bb (2 * n) s n codes wr) := Lib.hid (by
        obtain ⟨c, F, oa, oc, ca, codes, h1, h2, h3⟩ := HB.out
        rw [List.take_of_length_le (by rw [HRK.out]; omega), hkn] at *
        exact ⟨_, codes, rfl, codes_are h3 h1.clen.1, c, F, oa, oc, ca, h1, h2⟩)
      obtain ⟨s, codes, hs, hco, hBC⟩ := HS.out
      have HST := Lib.hid hs
      have HCO := Lib.hid hco
      have HBC := Lib.hid hBC
      have HLE : Hid (s.st.length ≤ 2 * n) := Lib.hid (by
        obtain ⟨c, F, oa, oc, ca, h1, h2⟩ := hBC
        have := h1.few
        rw [len_of_map h2, stack_len] at this
        omega)
      clear HS hs hco hBC hkn
      go_wp2
      go_loopg [24] (s.st.length) (fun gk _ wr => ∃ s' d', BldC w bb d' s' n codes wr ∧ s'.st.length = gk ∧ (shutB gk s').ba = (shutB s.st.length s).ba ∧ d' + 2 * gk ≤ 2 * n + 2 * s.st.length)
      case atStart => exact ⟨s, 2 * n, HBC.out, rfl, rfl, Nat.le_refl _⟩
      case round =>
        obtain ⟨s', d', hB', hgk, hba, hd'⟩ := hrel
        have HB' := Lib.hid hB'
        have HGK := Lib.hid hgk
        have HBA := Lib.hid hba
        have hd3 : d' ≤ 300000 := by have := HLE.out; omega
        have HD' := Lib.hid hd'
        have HWI := Lib.hid (m_within hB')
        rw [hgk] at HWI
        clear hB' hgk hba hd'
        by_cases hpos : 0 < gk
        · have HE : Hid (Calls Tryd.prog 50 #[.pointer (some ⟨bb, 0, none⟩)] wr (EndC w bb (d' + 2) (closeB s') n codes)) := Lib.hid (m_end HB'.out hd3 (by rw [HGK.out]; exact hpos))
          rw [show decide (0 < gk) = true from by simpa using hpos] at HWI
          go_wp2_with (first
            | (go_at_call 49; (with_reducible refine HWI.out.mono ?_); rintro e w2 ⟨rfl, rfl⟩)
            | (go_at_call 50; (with_reducible refine HE.out.mono ?_); rintro e w3 ⟨rfl, hh⟩; have HB3 := Lib.hid hh; clear hh))
          go_roundg (gk - 1)
          case measure => omega
          case rel =>
            refine ⟨closeB s', d' + 2, HB3.out, by rw [st_close, HGK.out], ?_, by have := HD'.out; omega⟩
            have h1 := HBA.out
            rw [show gk = (gk - 1) + 1 from by omega, shutB] at h1
            exact h1
        · have h00 : gk = 0 := by omega
          rw [show decide (0 < gk) = false from by simpa using hpos] at HWI
          obtain ⟨ab, ca, ia, im, ic, hit, hcell, hab, hb1, hbb, hca, hcs, hcn, hbel, hits⟩ := m_last HB'.out (by rw [HGK.out, h00])
          have HBAS : Hid (s'.ba = (buildL K).1) := Lib.hid (by
            have h1 := HBA.out
            rw [h00] at h1
            have h2 := HST.out
            unfold buildL
            simp only
            rw [← h2, ← h1]
            rfl)
          have HIT := Lib.hid hit
          have HCS := Lib.hid hcs
          have HBEL := Lib.hid hbel
          have HITS := Lib.hid hits
          have HC1 := Lib.hid hcell
          have HB1 := Lib.hid hb1
          have HCN := Lib.hid hcn
          clear hit hcell hb1 hcs hcn hbel hits
          go_wp2_with (go_at_call 49; (with_reducible refine HWI.out.mono ?_); rintro e w2 ⟨rfl, rfl⟩)
          obtain ⟨wd, hwd⟩ : ∃ wd, wr.drew = wd := ⟨_, rfl⟩
          have HBD : Hid (Below wr.heap.size wr wd) := Lib.hid (hwd ▸ (Below.refl _ _).drew)
          have HSW := bcell HBD.out HC1.out hab
          refine region_anyT (S := fun w' => w'.cell? ⟨ab, 1, none⟩ = some (.slice ia im ic)) 8 (by kernel_rfl) ?_
          rw [hwd]
          refine anyT_take 0 [1, 2, 3, 6, 7, 8] (v := ?_) rfl (by kernel_rfl) (fun _ _ _ h => h) (Or.inl ⟨by kernel_rfl, ?_⟩) HSW ?_
          rotate_left
          · (intro w hSw; go_simp; (try with_reducible rfl))
          (try simp only [Act.put]); (try simp only [List.setIfInBounds_toArray]); (try simp only [List.set_cons_succ]); (try simp only [List.set_cons_zero])
          refine anyT_take 4 [6, 7, 8] (v := ?_) rfl (by kernel_rfl) (fun _ _ _ h => h) (Or.inl ⟨by kernel_rfl, ?_⟩) HSW ?_
          rotate_left
          · (intro w hSw; go_simp; (try with_reducible rfl))
          (try simp only [Act.put]); (try simp only [List.setIfInBounds_toArray]); (try simp only [List.set_cons_succ]); (try simp only [List.set_cons_zero])
          refine anyT_take 5 [6, 7, 8] (v := ?_) rfl (by kernel_rfl) (fun _ _ _ h => h) (Or.inl ⟨by kernel_rfl, ?_⟩) HSW ?_
          rotate_left
          · (intro w hSw; go_simp; (try with_reducible rfl))
          (try simp only [Act.put]); (try simp only [List.setIfInBounds_toArray]); (try simp only [List.set_cons_succ]); (try simp only [List.set_cons_zero])
          refine anyT_step 1 (by kernel_rfl) rfl (fun K hK => ?_)
          go_simp
          go_at_call 51
          (with_reducible refine (HIT.out _ HBD.out).mono ?_)
          rintro e w5 ⟨rfl, hb⟩
          have HB5 : Hid (Below wr.heap.size wr w5) := Lib.hid (below_up HBD.out hb)
          have HSW := bcell HB5.out HC1.out hab
          clear hb
          try go_wp2_with fail
          refine hK.out _ _ (fun _ => HSW) ?_
          clear hK K
          (try simp only [Act.put]); (try simp only [List.setIfInBounds_toArray]); (try simp only [List.set_cons_succ]); (try simp only [List.set_cons_zero])
          refine anyT_take 2 [3, 7, 8] (v := ?_) rfl (by kernel_rfl) (fun _ _ _ h => h) (Or.inl ⟨by kernel_rfl, ?_⟩) HSW ?_
          rotate_left
          · (intro w hSw; go_simp; (try with_reducible rfl))
          (try simp only [Act.put]); (try simp only [List.setIfInBounds_toArray]); (try simp only [List.set_cons_succ]); (try simp only [List.set_cons_zero])
          refine anyT_take 3 [7, 8] (v := ?_) rfl (by kernel_rfl) (fun _ _ _ h => h) (Or.inl ⟨by kernel_rfl, ?_⟩) HSW ?_
          rotate_left
          · (intro w hSw; go_simp; (try with_reducible rfl))
          (try simp only [Act.put]); (try simp only [List.setIfInBounds_toArray]); (try simp only [List.set_cons_succ]); (try simp only [List.set_cons_zero])
          refine anyT_step 6 (by kernel_rfl) rfl (fun K hK => ?_)
          go_simp
          have HDG : Hid (Calls Tryd.prog 52 #[.pointer (some ⟨bb, 0, none⟩), .slice la n lc] w5 (DiagNew w5 (diagsL codes lines))) := Lib.hid (by
            refine gdiags_any (bcell HB5.out HB1.out hbb) (Nat.lt_of_lt_of_le hca HB5.out.size) (fun k z hz => bcell HB5.out (HCS.out k z hz) hca) HCN.out (HLA.out.next (below_up HBEL.out HB5.out)) HLN.out (by omega) (fun k z ln h1 h2 h3 => ?_)
            refine told_two ?_ h2 h3
            rw [HK.out, HLN.out, ← HST.out, ← HCO.out]
            exact h1)
          go_at_call 52
          (with_reducible refine HDG.out.mono ?_)
          rintro e w6 ⟨da, dn, dc, rfl, hdn, hD⟩
          have HD6 := Lib.hid hD
          have HDN6 := Lib.hid hdn
          have HSW := bcell hD.2 (bcell HB5.out HC1.out hab) (Nat.lt_of_lt_of_le hab HB5.out.size)
          clear hD hdn
          try go_wp2_with fail
          refine hK.out _ _ (fun _ => HSW) ?_
          clear hK K
          (try simp only [Act.put]); (try simp only [List.setIfInBounds_toArray]); (try simp only [List.set_cons_succ]); (try simp only [List.set_cons_zero])
          refine anyT_take 7 [8] (v := ?_) rfl (by kernel_rfl) (fun _ _ _ h => h) (Or.inl ⟨by kernel_rfl, ?_⟩) HSW ?_
          rotate_left
          · (intro w hSw; go_simp; (try with_reducible rfl))
          (try simp only [Act.put]); (try simp only [List.setIfInBounds_toArray]); (try simp only [List.set_cons_succ]); (try simp only [List.set_cons_zero])
          refine anyT_step 8 (by kernel_rfl) rfl (fun K hK => ?_)
          go_simp
          refine hK.out _ _ (fun h => absurd rfl h) ?_
          clear hK K
          (try simp only [Act.put]); (try simp only [List.setIfInBounds_toArray]); (try simp only [List.set_cons_succ]); (try simp only [List.set_cons_zero])
          refine anyT_done (by kernel_rfl) ?_ _
          go_wp2
          go_ret2
          refine ⟨ia, im, ic, da, dn, dc, rfl, ⟨⟨d' + 1, by omega, ?_⟩, ?_, ?_⟩⟩
          · rw [← HBAS.out]
            exact itsAt_over _ _ _ _ _ HITS.out (below_up HB5.out HD6.out.2)
          · rw [← HST.out, ← HCO.out]
            exact HDN6.out
          · rw [← HST.out, ← HCO.out]
            exact Up.lower HD6.out (below_up HBEL.out HB5.out)

end Go.Proofs.YtlnlpahmfpjjdaaDoor
