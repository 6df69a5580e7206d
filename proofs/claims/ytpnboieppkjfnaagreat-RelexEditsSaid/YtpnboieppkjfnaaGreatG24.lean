/-
  Texts of the proof, put together: LxMid, LxLines.
-/
import Derived.Test.YtpnboieppkjfnaaGreatG23
import Derived.Deep.LoopGhost

/-
  From step to step the run over the characters stays what it is.
-/
namespace Go.Proofs.YtpnboieppkjfnaaGreat
open Go.RowKit

def Lim (a : Acc) (j : Nat) : Prop := a.toks.length ≤ j ∧ a.lines.length ≤ j ∧ a.diags.length ≤ j

theorem Lim.up {a : Acc} {j k : Nat} (h : Lim a j) (hk : j ≤ k) : Lim a k := ⟨Nat.le_trans h.1 hk, Nat.le_trans h.2.1 hk, Nat.le_trans h.2.2 hk⟩

theorem Lim.step {L : List Rn} {sz i : Nat} {a : Acc} (h : Lim a i) (it : It) : Lim (stepA L sz i a it) (i + 1) := by
  obtain ⟨h1, h2, h3⟩ := h
  cases it with
  | nl => exact ⟨by simp [stepA, endA], by simp [stepA, endA]; omega, by simp [stepA, endA]; omega⟩
  | gap n => exact ⟨by simp [stepA]; omega, by simp [stepA]; omega, by simp [stepA]; omega⟩
  | opn => exact ⟨by simp [stepA, endA, tellA], by simp [stepA, endA, tellA]; omega, by simp [stepA, endA, tellA]; omega⟩
  | tk k n =>
    simp only [stepA, takeA, pushA]
    split
    · exact ⟨by simp [tellA]; omega, by simp [tellA]; omega, by simp [tellA]; omega⟩
    · exact ⟨by simp; omega, by simp; omega, by simp; omega⟩

/-- The walk in a state, on its way to R. -/
def Mid (L : List Rn) (sz : Nat) (R : Acc) (i st bg : Nat) (a : Acc) : Prop :=
  i ≤ L.length ∧ ((st = 0 ∧ fromA L sz i a = R ∧ Lim a i) ∨
    (bg < L.length ∧ st = begN ((bytesOf L).drop bg) ∧ fromA L sz bg a = R ∧ Lim a bg ∧
      (((st = 1 ∨ st = 2 ∨ st = 3) ∧ i = bg) ∨ (st = 4 ∧ bg ≤ i ∧ ∀ j, bg ≤ j → j < i → (bytesOf L).getD j 0 ≠ 10) ∨
        (st = 5 ∧ bg ≤ i ∧ (bg + 2 ≤ i → comN ((bytesOf L).drop (bg + 2)) = (comN ((bytesOf L).drop i)).map (· + (i - (bg + 2))))))))

def mu (L : List Rn) (i st : Nat) : Nat := 4 * (L.length - i) + (if st = 0 then 2 else if st = 4 ∧ (bytesOf L).getD i 0 = 10 then 3 else 1)

theorem mu_le (L : List Rn) (i st : Nat) : mu L i st ≤ 4 * (L.length - i) + 3 := by
  unfold mu
  split
  · omega
  · split <;> omega
theorem mu_ge (L : List Rn) (i st : Nat) : 4 * (L.length - i) + 1 ≤ mu L i st := by
  unfold mu
  split
  · omega
  · split <;> omega
theorem mu_next {L : List Rn} {i j s t : Nat} (h : i < j) (hi : i < L.length) : mu L j t < mu L i s := by
  have h1 := mu_le L j t
  have h2 := mu_ge L i s
  omega

theorem remN_at {l : List UInt8} {b : Nat} : ∀ (k : Nat), b + k < l.length → (∀ j, b ≤ j → j < b + k → l.getD j 0 ≠ 10) → l.getD (b + k) 0 = 10 → remN (l.drop b) = k
  | k, hk, hj, h10 => by
    induction k generalizing b with
    | zero =>
      rw [drop_cons (by omega)]
      unfold remN
      rw [if_pos (by simpa using h10)]
    | succ k ih =>
      rw [drop_cons (by omega)]
      unfold remN
      rw [if_neg (hj b (Nat.le_refl _) (by omega)), ih (b := b + 1) (by omega) (fun j h1 h2 => hj j (by omega) (by omega)) (by rw [show b + 1 + k = b + (k + 1) from by omega]; exact h10)]

theorem comN_step {l : List UInt8} {i : Nat} (hi : i < l.length) : comN (l.drop i) = if l.getD i 0 = 42 ∧ l.getD (i + 1) 0 = 47 then some 2 else (comN (l.drop (i + 1))).map (· + 1) := by
  rw [drop_cons hi]
  show (if _ ∧ (l.drop (i + 1)).getD 0 0 = 47 then _ else _) = _
  rw [getD_drop, Nat.add_zero]

theorem tok_kind (l : List UInt8) : (tok l).1 ≤ 100 := by
  unfold tok
  split
  · rename_i x h
    have := (conN_in h).2.2.1
    omega
  · repeat' split
    all_goals simp

def StepPost (E : Env) (R : Acc) (i st : Nat) (e : Ending) (w' : World) : Prop :=
  e = .returned (.tuple #[]) ∧ ∃ i' st' bg' a', Was E i' st' bg' a' w' ∧ Mid E.L E.sz R i' st' bg' a' ∧ mu E.L i' st' < mu E.L i st

theorem step_any {E : Env} {R : Acc} {i st bg : Nat} {a : Acc} {w : World} (h : Was E i st bg a w) (hm : Mid E.L E.sz R i st bg a) (hL : E.L.length ≤ 400000) (hN : Nl (bytesOf E.L)) (hi : i < E.L.length) :
    Calls Tryz.prog 107 #[.pointer (some ⟨E.g, 0, none⟩)] w (StepPost E R i st) := by
  have hlen := bytesOf_len E.L
  obtain ⟨-, ⟨rfl, hR, hlim⟩ | ⟨hbL, hst, hR, hlim, hcase⟩⟩ := hm
  · refine (step_begin h hL hi).mono ?_
    rintro e w' ⟨rfl, hw⟩
    refine ⟨rfl, _, _, _, _, hw, ⟨by omega, .inr ⟨hi, rfl, hR, hlim, ?_⟩⟩, ?_⟩
    · rcases begN_five ((bytesOf E.L).drop i) with h1 | h1 | h1 | h1 | h1
      · exact .inl ⟨.inl h1, rfl⟩
      · exact .inl ⟨.inr (.inl h1), rfl⟩
      · exact .inl ⟨.inr (.inr h1), rfl⟩
      · exact .inr (.inl ⟨h1, Nat.le_refl _, fun j h2 h3 => by omega⟩)
      · exact .inr (.inr ⟨h1, Nat.le_refl _, fun h2 => by omega⟩)
    · unfold mu
      rw [if_pos rfl]
      rcases begN_five ((bytesOf E.L).drop i) with h1 | h1 | h1 | h1 | h1
      all_goals (rw [h1, if_neg (by omega)])
      all_goals first
        | (rw [if_neg (by omega)]; omega)
        | skip
      have h2 := (begN_four h1).1
      rw [getD_drop, Nat.add_zero] at h2
      rw [if_neg (by rw [h2]; rintro ⟨-, h3⟩; revert h3; decide)]
      omega
  · have hfr := fromA_step (L := E.L) (sz := E.sz) (a := a) hbL
    have hin := lenA_in (L := E.L) hbL
    obtain ⟨it, hit⟩ : ∃ it, item ((bytesOf E.L).drop bg) = it := ⟨_, rfl⟩
    have hls := hlim.step (L := E.L) (sz := E.sz) it
    rw [hit, hR] at hfr
    rw [hit] at hin
    rcases hcase with ⟨h3, rfl⟩ | ⟨rfl, hbi, hno⟩ | ⟨rfl, hbi, hcom⟩
    · rcases h3 with rfl | rfl | rfl
      · have h10 : (bytesOf E.L).getD i 0 ≠ 10 := fun e => by
          rw [begN_two' (by rw [getD_drop]; exact e)] at hst
          cases hst
        obtain ⟨k, n, ht⟩ : ∃ k n, tok ((bytesOf E.L).drop i) = (k, n) := ⟨_, _, rfl⟩
        have hk : k ≤ 100 := by
          have := tok_kind ((bytesOf E.L).drop i)
          rw [ht] at this
          exact this
        rw [item_tk hst.symm, ht] at hit
        subst hit
        refine (step_take h hL hi hN h10 ht hk (by have := hlim.1; omega) (by have := hlim.2.2; omega)).mono ?_
        rintro e w' ⟨rfl, hw⟩
        simp only [lenA] at hin hfr
        exact ⟨rfl, _, _, _, _, hw, ⟨hin.2, .inl ⟨rfl, hfr.symm, hls.up (by omega)⟩⟩, mu_next (by omega) hi⟩
      · rw [item_nl hst.symm] at hit
        subst hit
        refine (step_end h hL hi (by have := hlim.2.1; omega)).mono ?_
        rintro e w' ⟨rfl, hw⟩
        simp only [lenA] at hin hfr
        exact ⟨rfl, _, _, _, _, hw, ⟨hin.2, .inl ⟨rfl, hfr.symm, hls.up (by omega)⟩⟩, mu_next (by omega) hi⟩
      · rw [item_sp hst.symm] at hit
        subst hit
        refine (step_blank h hL hi).mono ?_
        rintro e w' ⟨rfl, hw⟩
        simp only [lenA] at hin hfr
        exact ⟨rfl, _, _, _, _, hw, ⟨hin.2, .inl ⟨rfl, hfr.symm, hls.up (by omega)⟩⟩, mu_next (by omega) hi⟩
    · by_cases h10 : (bytesOf E.L).getD i 0 = 10
      · have hb4 := (begN_four hst.symm).1
        rw [getD_drop, Nat.add_zero] at hb4
        have hne : bg ≠ i := fun e => by
          rw [e, h10] at hb4
          revert hb4
          decide
        have hrem : remN ((bytesOf E.L).drop bg) = i - bg := remN_at (i - bg) (by omega) (fun j h1 h2 => hno j h1 (by omega)) (by rw [show bg + (i - bg) = i from by omega]; exact h10)
        rw [item_rem hst.symm, hrem] at hit
        subst hit
        refine (step_remEnd h hL hi h10).mono ?_
        rintro e w' ⟨rfl, hw⟩
        simp only [lenA] at hin hfr
        rw [show bg + (i - bg) = i from by omega] at hfr
        refine ⟨rfl, _, _, _, _, hw, ⟨by omega, .inl ⟨rfl, hfr.symm, hls.up (by omega)⟩⟩, ?_⟩
        unfold mu
        rw [if_pos rfl, if_neg (by omega), if_pos ⟨rfl, h10⟩]
        omega
      · refine (step_remOn h hL hi h10).mono ?_
        rintro e w' ⟨rfl, hw⟩
        refine ⟨rfl, _, _, _, _, hw, ⟨by omega, .inr ⟨hbL, hst, hR, hlim, .inr (.inl ⟨rfl, by omega, fun j h1 h2 => ?_⟩)⟩⟩, mu_next (by omega) hi⟩
        by_cases e : j = i
        · rw [e]; exact h10
        · exact hno j h1 (by omega)
    · by_cases hb2 : bg + 2 ≤ i
      · have hcs := comN_step (l := bytesOf E.L) (i := i) (by omega)
        have hc0 := hcom hb2
        by_cases hc : (bytesOf E.L).getD i 0 = 42 ∧ (bytesOf E.L).getD (i + 1) 0 = 47
        · rw [if_pos hc] at hcs
          rw [hcs] at hc0
          have hd : comN (((bytesOf E.L).drop bg).drop 2) = some (2 + (i - (bg + 2))) := by rw [List.drop_drop]; exact hc0
          rw [item_com hst.symm hd] at hit
          subst hit
          refine (step_comEnd h hL hi hb2 hc).mono ?_
          rintro e w' ⟨rfl, hw⟩
          simp only [lenA] at hin hfr
          rw [show bg + (2 + (i - (bg + 2)) + 2) = i + 2 from by omega] at hfr hin
          exact ⟨rfl, _, _, _, _, hw, ⟨hin.2, .inl ⟨rfl, hfr.symm, hls.up (by omega)⟩⟩, mu_next (by omega) hi⟩
        · rw [if_neg hc] at hcs
          refine (step_comOn h hL hi hb2 hc).mono ?_
          rintro e w' ⟨rfl, hw⟩
          refine ⟨rfl, _, _, _, _, hw, ⟨by omega, .inr ⟨hbL, hst, hR, hlim, .inr (.inr ⟨rfl, by omega, fun _ => ?_⟩)⟩⟩, mu_next (by omega) hi⟩
          rw [hc0, hcs, Option.map_map]
          congr 1
          funext n
          simp
          omega
      · refine (step_comIn h hL hi hb2 hbL).mono ?_
        rintro e w' ⟨rfl, hw⟩
        refine ⟨rfl, _, _, _, _, hw, ⟨by omega, .inr ⟨hbL, hst, hR, hlim, .inr (.inr ⟨rfl, by omega, fun h2 => ?_⟩)⟩⟩, mu_next (by omega) hi⟩
        rw [show i + 1 = bg + 2 from by omega, Nat.sub_self]
        simp

end Go.Proofs.YtpnboieppkjfnaaGreat

/-
  Lines of the project, walked.
-/
namespace Go.Proofs.YtpnboieppkjfnaaGreat
open Go.RowKit

/-- Lines in memory, of a type T that is the project's or the document's. -/
def LRow (W : World) (F : ByteArray) (T : TypeId) (v : Value) (lines : List Ln) (w : World) : Prop :=
  ∃ P : List (Value × Ln), P.map Prod.snd = lines ∧ Up W T 4 v P.length (lcells P) w ∧ ∀ p ∈ P, Up W 110 8 p.1 p.2.toks.length (tcells F p.2.toks) w
def DRow (W : World) (F : ByteArray) (v : Value) (D : List Dg) (w : World) : Prop := Up W 104 4 v D.length (dcells F D) w
def LinesPost (W : World) (F : ByteArray) (T : TypeId) (R : Acc) (e : Ending) (w' : World) : Prop :=
  ∃ la n lc da m dc, e = .returned (.tuple #[.slice la n lc, .slice da m dc]) ∧ n = R.lines.length ∧ m = R.diags.length ∧ LRow W F T (.slice la n lc) R.lines w' ∧ DRow W F (.slice da m dc) R.diags w'

/-- What is returned, at the end. -/
theorem Was.result {E : Env} {i st bg : Nat} {R : Acc} {w : World} (h : Was E i st bg R w) : ∃ la n lc da m dc, n = R.lines.length ∧ m = R.diags.length ∧ w.cell? ⟨E.g, 10, none⟩ = some (.slice la n lc) ∧ w.cell? ⟨E.g, 11, none⟩ = some (.slice da m dc) ∧
    LRow E.W E.F 87 (.slice la n lc) R.lines w ∧ DRow E.W E.F (.slice da m dc) R.diags w := by
  obtain ⟨c, B1, P, ⟨e1, -⟩, hb⟩ := h.cells
  obtain ⟨la, lc, hl, -⟩ := row_form hb.lines
  obtain ⟨da, dc, hd, -⟩ := row_form hb.diags
  have k10 := hb.blk.k10
  have k11 := hb.blk.k11
  rw [hl] at k10
  rw [hd] at k11
  have hln : P.length = R.lines.length := by rw [← hb.pl, List.length_map]
  refine ⟨la, P.length, lc, da, _, dc, hln, rfl, k10, k11, ⟨P, hb.pl, ⟨by rw [← hl]; exact hb.lines, hb.low⟩, fun p hp => ?_⟩, ?_⟩
  · rw [← e1]
    exact ⟨(hb.done p hp).1, hb.low⟩
  · rw [← e1, ← hd]
    exact ⟨hb.diags, hb.low⟩

theorem LRow.over {W : World} {F : ByteArray} {T : TypeId} {v : Value} {l : List Ln} {w w' : World} (h : LRow W F T v l w) (b : Below w.heap.size w w') : LRow W F T v l w' := by
  obtain ⟨P, h1, h2, h3⟩ := h
  exact ⟨P, h1, Up.over h2 b, fun p hp => Up.over (h3 p hp) b⟩
theorem DRow.over {W : World} {F : ByteArray} {v : Value} {l : List Dg} {w w' : World} (h : DRow W F v l w) (b : Below w.heap.size w w') : DRow W F v l w' := Up.over h b
theorem LRow.low {W : World} {F : ByteArray} {T : TypeId} {v : Value} {l : List Ln} {w : World} (h : LRow W F T v l w) : Below W.heap.size W w := by
  obtain ⟨P, h1, h2, h3⟩ := h
  exact h2.2

theorem mid_zero (L : List Rn) (sz : Nat) : Mid L sz (linesA L sz) 0 0 0 acc0 := by
  refine ⟨Nat.zero_le _, .inl ⟨rfl, rfl, ?_⟩⟩
  exact ⟨Nat.le_refl _, Nat.le_refl _, Nat.le_refl _⟩

/-- All characters have been walked over. -/
theorem mid_end {L : List Rn} {sz : Nat} {R : Acc} {i st bg : Nat} {a : Acc} (h : Mid L sz R i st bg a) (hi : ¬ i < L.length) (hN : L = [] ∨ Nl (bytesOf L)) : i = L.length ∧ ((st = 0 ∧ a = R) ∨ (st = 5 ∧ bg + 1 < L.length ∧ Lim a bg ∧ R = endA (tellA L a 1 bg (bg + 2)) sz true)) := by
  have hlen := bytesOf_len L
  obtain ⟨h0, ⟨h1, h2, -⟩ | ⟨hbL, hst, hR, hlim, hcase⟩⟩ := h
  · refine ⟨by omega, .inl ⟨h1, ?_⟩⟩
    rw [fromA_end (by omega)] at h2
    exact h2
  · have hil : i = L.length := by omega
    refine ⟨hil, ?_⟩
    have hNl : Nl (bytesOf L) := by
      rcases hN with rfl | h
      · simp at hbL
      · exact h
    rcases hcase with ⟨-, h4⟩ | ⟨-, h5, h6⟩ | ⟨h4, h5, h6⟩
    · omega
    · have := h6 (L.length - 1) (by omega) (by omega)
      have h7 := hNl.2
      rw [hlen] at h7
      exact absurd h7 this
    · refine .inr ⟨h4, ?_, hlim, ?_⟩
      · have h7 := (begN_fiveC (hst.symm.trans h4)).2
        rw [getD_drop] at h7
        have := getD_lt (l := bytesOf L) (i := bg + 1) (by rw [h7]; decide)
        omega
      · have hb1 : bg + 1 < L.length := by
          have h7 := (begN_fiveC (hst.symm.trans h4)).2
          rw [getD_drop] at h7
          have := getD_lt (l := bytesOf L) (i := bg + 1) (by rw [h7]; decide)
          omega
        have hc := h6 (by omega)
        rw [hil, show (bytesOf L).drop L.length = [] from List.drop_eq_nil_of_le (by omega)] at hc
        have hit : item ((bytesOf L).drop bg) = .opn := item_opn (hst.symm.trans h4) (by rw [List.drop_drop]; exact hc)
        have hfr := fromA_step (L := L) (sz := sz) (a := a) hbL
        rw [hit, hR] at hfr
        simp only [lenA] at hfr
        rw [fromA_end (by omega)] at hfr
        exact hfr

theorem charsL_nl (l : List UInt8) : charsL l = [] ∨ Nl (bytesOf (charsL l)) := by
  unfold charsL
  split
  · exact .inl rfl
  · refine .inr ?_
    unfold withNl
    split
    · rename_i h
      unfold endsNl at h
      cases hg : (chs l 0).getLast? with
      | none => rw [hg] at h; cases h
      | some r =>
        rw [hg] at h
        rw [List.getLast?_eq_getElem?] at hg
        have hlt := (List.getElem?_eq_some_iff.1 hg).1
        refine ⟨by rw [bytesOf_len]; omega, ?_⟩
        rw [bytesOf_len]
        simp only [bytesOf, List.getD, List.getElem?_map, hg]
        simpa using h
    · refine ⟨by simp [bytesOf], ?_⟩
      simp [bytesOf, List.getD]

theorem quiet_two {w : World} {n : Nat} {g : Nat} {u : Value} {k : Nat} (h : w.cell? ⟨g, k, none⟩ = some u) : (w.drewN n).cell? ⟨g, k, none⟩ = some u := h

set_option maxRecDepth 100000 in
set_option maxHeartbeats 3200000 in
theorem lines_any (F s : ByteArray) (W : World) (hs : s.size ≤ 100000) (hF : F.size ≤ 1000000) : Calls Tryz.prog 88 #[.string F, .string s] W (LinesPost W F 87 (linesA (charsL s.data.toList) s.size)) := by
  obtain ⟨n, hn, hn2⟩ := charsL_few s.data.toList
  rw [len_byte] at hn2
  have HOV := Lib.hid (over_any F s W hs hF)
  have hnl := charsL_nl s.data.toList
  obtain ⟨L, hL⟩ : ∃ L, charsL s.data.toList = L := ⟨_, rfl⟩
  rw [hL] at HOV hn hnl ⊢
  have hLL : L.length ≤ 400000 := by omega
  obtain ⟨R, hRR⟩ : ∃ R, linesA L s.size = R := ⟨_, rfl⟩
  have HM0 := Lib.hid (mid_zero L s.size)
  rw [hRR] at HM0 ⊢
  have HNL := Lib.hid hnl
  clear hL hn hn2 hnl hRR
  go_enter Tryz.func88, Tryz.ntmps88
  go_wp2_with (go_at_call 106; (with_reducible refine HOV.out.mono ?_); rintro e w1 ⟨g, rfl, h1⟩; have H1 := Lib.hid h1; clear h1)
  obtain ⟨E, hE⟩ : ∃ E : Env, (⟨W, g, L, F, ⟨(bytesOf L).toArray⟩, s.size⟩ : Env) = E := ⟨_, rfl⟩
  have hEW : E.W = W := by rw [← hE]
  have hEg : E.g = g := by rw [← hE]
  have hEL : E.L = L := by rw [← hE]
  have hEF : E.F = F := by rw [← hE]
  have hEz : E.sz = s.size := by rw [← hE]
  rw [hE] at H1
  rw [← hEL] at HNL HM0 hLL
  rw [← hEz] at HM0
  have HEW := Lib.hid hEW
  have HEF := Lib.hid hEF
  rw [← hEF, ← hEg]
  clear hE hEW hEg hEL hEF hEz
  go_loopg [19] (mu E.L 0 0) (fun gk t wr => ∃ i st bg a, Was E i st bg a wr ∧ Mid E.L E.sz R i st bg a ∧ mu E.L i st ≤ gk)
  case atStart => exact ⟨0, 0, 0, acc0, H1.out, HM0.out, Nat.le_refl _⟩
  case round =>
    obtain ⟨i, st, bg, a, hw, hm, hmu⟩ := hrel
    have k3 := hw.k3
    have k4 := hw.k4
    have hcs := hw.size.1
    have HW := Lib.hid hw
    have HM := Lib.hid hm
    have HMU := Lib.hid hmu
    have HCS := Lib.hid hcs
    clear hw hm hmu hcs
    by_cases hi : i < E.L.length
    · have hii : (i : Int) < (E.ch.size : Int) := by have := HCS.out; omega
      have HST := Lib.hid (fun X (hX : Was E i st bg a X) => step_any hX HM.out hLL (by
        rcases HNL.out with h | h
        · rw [h] at hi; simp at hi
        · exact h) hi)
      go_wp2
      go_quiet (fail)
      obtain ⟨w2, hw2⟩ : ∃ w2, wr.drewN nq = w2 := ⟨_, rfl⟩
      have H2 := HW.out.drewN nq
      rw [hw2] at H2 ⊢
      have H2 := Lib.hid H2
      clear hw2 k3 k4
      go_wp2_with (go_at_call 107; (with_reducible refine (HST.out _ H2.out).mono ?_); rintro e w3 ⟨rfl, i', st', bg', a', h3, m3, u3⟩; have H3 := Lib.hid h3; have M3 := Lib.hid m3; have U3 := Lib.hid u3; clear h3 m3 u3)
      go_roundg (mu E.L i' st')
      case rel => exact ⟨i', st', bg', a', H3.out, M3.out, Nat.le_refl _⟩
      case measure => exact Nat.lt_of_lt_of_le U3.out HMU.out
    · have hii : ¬ (i : Int) < (E.ch.size : Int) := by have := HCS.out; omega
      obtain ⟨hil, hend⟩ := mid_end HM.out hi (HNL.out)
      rcases hend with ⟨hst, ha⟩ | ⟨hst, hbg, hlim, hR⟩
      · subst hst ha
        have k5 : wr.cell? ⟨E.g, 5, none⟩ = some (.int .i64 0) := HW.out.k5
        obtain ⟨la, ln, lc, da, dn, dc, hln, hdn, k10, k11, hlr, hdr⟩ := HW.out.result
        have HLN := Lib.hid hln
        have HDN := Lib.hid hdn
        rw [HEW.out, HEF.out] at hlr hdr
        have HLR := Lib.hid hlr
        have HDR := Lib.hid hdr
        clear hil hln hdn hlr hdr
        go_wp2
        go_quiet (fail)
        go_wp2
        go_quiet (fail)
        go_wp2
        go_ret2
        exact ⟨la, ln, lc, da, dn, dc, rfl, HLN.out, HDN.out, (HLR.out.over (Below.of_drews _ _)).over (Below.of_drews _ _), (HDR.out.over (Below.of_drews _ _)).over (Below.of_drews _ _)⟩
      · subst hst
        have k5 : wr.cell? ⟨E.g, 5, none⟩ = some (.int .i64 5) := HW.out.k5
        have k6 := HW.out.k6
        have HTL : Hid (∀ X : World, Was E i 5 bg a X → Calls Tryz.prog 108 #[.pointer (some ⟨E.g, 0, none⟩), .int .i64 1, .int .i64 (bg : Int), .int .i64 ((bg : Int) + 2)] X (WasPost E i 5 bg (tellA E.L a 1 bg (bg + 2)))) :=
          Lib.hid (fun X hX => tell_any hX 1 bg (bg + 1) _ _ rfl (by omega) (by omega) hbg (by omega) (by have := hlim.2.2; omega))
        have HEN : Hid (∀ X : World, Was E i 5 bg (tellA E.L a 1 bg (bg + 2)) X → Calls Tryz.prog 109 #[.pointer (some ⟨E.g, 0, none⟩), .bool true] X (WasPost E i 5 bg R)) := Lib.hid (by
          intro X hX
          have h := endLine_any hX true (by omega) (by omega) (by have := hlim.2.1; show a.lines.length ≤ 500000; omega)
          have e : toA E.L E.sz i = E.sz := by unfold toA; rw [if_neg hi]
          rw [e, ← hR] at h
          exact h)
        have hbw : IntKind.i64.wrap ((bg : Int) + 2) = (bg : Int) + 2 := IntWalk.i64_in _ (by omega)
        clear hil hbg hlim hR
        go_wp2
        go_quiet (fail)
        obtain ⟨w2, hw2⟩ : ∃ w2, wr.drewN nq = w2 := ⟨_, rfl⟩
        have h2 := HW.out.drewN nq
        rw [hw2] at h2 ⊢
        have k52 : w2.cell? ⟨E.g, 5, none⟩ = some (.int .i64 5) := h2.k5
        have k62 := h2.k6
        have H2 := Lib.hid h2
        clear hw2 k3 k4 k5 k6 h2
        go_wp2
        go_region_held3 (fun w' => w'.cell? ⟨E.g, 6, none⟩ = some (.int .i64 (bg : Int)))
          (first | (with_reducible exact H2.out.drew.k6) | (with_reducible exact H3.out.k6) | go_keep)
          (first | (go_at_call 108; (with_reducible refine (HTL.out _ H2.out.drew).mono ?_); rintro e w3 ⟨rfl, h3⟩; have H3 := Lib.hid h3; clear h3))
        all_goals (go_wp2_with (go_at_call 109; (with_reducible refine (HEN.out _ H3.out).mono ?_); rintro e w4 ⟨rfl, h4⟩; have H4 := Lib.hid h4; clear h4))
        all_goals obtain ⟨la, ln, lc, da, dn, dc, hln, hdn, k10, k11, hlr, hdr⟩ := H4.out.result
        all_goals have HLN := Lib.hid hln
        all_goals have HDN := Lib.hid hdn
        all_goals rw [HEW.out, HEF.out] at hlr hdr
        all_goals have HLR := Lib.hid hlr
        all_goals have HDR := Lib.hid hdr
        all_goals clear hln hdn hlr hdr
        all_goals go_quiet (fail)
        all_goals go_wp2
        all_goals go_ret2
        all_goals exact ⟨la, ln, lc, da, dn, dc, rfl, HLN.out, HDN.out, HLR.out.over (Below.of_drews _ _), HDR.out.over (Below.of_drews _ _)⟩

end Go.Proofs.YtpnboieppkjfnaaGreat
