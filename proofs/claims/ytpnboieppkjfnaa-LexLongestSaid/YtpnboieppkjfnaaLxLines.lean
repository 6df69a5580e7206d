/-
  Lines of the project, walked.
-/
import Derived.Test.YtpnboieppkjfnaaLxMid
import Derived.Deep.LoopGhost
namespace Go.Proofs.Ytpnboieppkjfnaa
open Go.RowKit

/-- Lines in memory, of a type T that is the project's or the document's. -/
def LRow (W : World) (F : ByteArray) (T : TypeId) (v : Value) (lines : List Ln) (w : World) : Prop :=
  ∃ P : List (Value × Ln), P.map Prod.snd = lines ∧ Up W T 4 v P.length (lcells P) w ∧ ∀ p ∈ P, Up W 41 8 p.1 p.2.toks.length (tcells F p.2.toks) w
def DRow (W : World) (F : ByteArray) (v : Value) (D : List Dg) (w : World) : Prop := Up W 53 4 v D.length (dcells F D) w
def LinesPost (W : World) (F : ByteArray) (T : TypeId) (R : Acc) (e : Ending) (w' : World) : Prop :=
  ∃ la n lc da m dc, e = .returned (.tuple #[.slice la n lc, .slice da m dc]) ∧ n = R.lines.length ∧ m = R.diags.length ∧ LRow W F T (.slice la n lc) R.lines w' ∧ DRow W F (.slice da m dc) R.diags w'

/-- What is returned, at the end. -/
theorem Was.result {E : Env} {i st bg : Nat} {R : Acc} {w : World} (h : Was E i st bg R w) : ∃ la n lc da m dc, n = R.lines.length ∧ m = R.diags.length ∧ w.cell? ⟨E.g, 10, none⟩ = some (.slice la n lc) ∧ w.cell? ⟨E.g, 11, none⟩ = some (.slice da m dc) ∧
    LRow E.W E.F 36 (.slice la n lc) R.lines w ∧ DRow E.W E.F (.slice da m dc) R.diags w := by
  obtain ⟨c, B1, P, ⟨e1, -⟩, hb⟩ := h.cells
  obtain ⟨la, lc, hl, -⟩ := row_form hb.lines
  obtain ⟨da, dc, hd, -⟩ := row_form hb.diags
  have k10 := hb.blk.k10
  have k11 := hb.blk.k11
  rw [hl] at k10
  rw [hd] at k11
  have hln : P.length = R.lines.length := by rw [← hb.pl, List.length_map]
  refine ⟨la, P.length, lc, da, _, dc, hln, rfl, k10, k11, ⟨P, hb.pl, ⟨by rw [← hl]; exact hb.lines, hb.low⟩, fun p hp => ?_⟩, ?_⟩
  · rw [← e1]
    exact ⟨(hb.done p hp).1, hb.low⟩
  · rw [← e1, ← hd]
    exact ⟨hb.diags, hb.low⟩

theorem LRow.over {W : World} {F : ByteArray} {T : TypeId} {v : Value} {l : List Ln} {w w' : World} (h : LRow W F T v l w) (b : Below w.heap.size w w') : LRow W F T v l w' := by
  obtain ⟨P, h1, h2, h3⟩ := h
  exact ⟨P, h1, Up.over h2 b, fun p hp => Up.over (h3 p hp) b⟩
theorem DRow.over {W : World} {F : ByteArray} {v : Value} {l : List Dg} {w w' : World} (h : DRow W F v l w) (b : Below w.heap.size w w') : DRow W F v l w' := Up.over h b
theorem LRow.low {W : World} {F : ByteArray} {T : TypeId} {v : Value} {l : List Ln} {w : World} (h : LRow W F T v l w) : Below W.heap.size W w := by
  obtain ⟨P, h1, h2, h3⟩ := h
  exact h2.2

theorem mid_zero (L : List Rn) (sz : Nat) : Mid L sz (linesA L sz) 0 0 0 acc0 := by
  refine ⟨Nat.zero_le _, .inl ⟨rfl, rfl, ?_⟩⟩
  exact ⟨Nat.le_refl _, Nat.le_refl _, Nat.le_refl _⟩

/-- All characters have been walked over. -/
theorem mid_end {L : List Rn} {sz : Nat} {R : Acc} {i st bg : Nat} {a : Acc} (h : Mid L sz R i st bg a) (hi : ¬ i < L.length) (hN : L = [] ∨ Nl (bytesOf L)) : i = L.length ∧ ((st = 0 ∧ a = R) ∨ (st = 5 ∧ bg + 1 < L.length ∧ Lim a bg ∧ R = endA (tellA L a 1 bg (bg + 2)) sz true)) := by
  have hlen := bytesOf_len L
  obtain ⟨h0, ⟨h1, h2, -⟩ | ⟨hbL, hst, hR, hlim, hcase⟩⟩ := h
  · refine ⟨by omega, .inl ⟨h1, ?_⟩⟩
    rw [fromA_end (by omega)] at h2
    exact h2
  · have hil : i = L.length := by omega
    refine ⟨hil, ?_⟩
    have hNl : Nl (bytesOf L) := by
      rcases hN with rfl | h
      · simp at hbL
      · exact h
    rcases hcase with ⟨-, h4⟩ | ⟨-, h5, h6⟩ | ⟨h4, h5, h6⟩
    · omega
    · have := h6 (L.length - 1) (by omega) (by omega)
      have h7 := hNl.2
      rw [hlen] at h7
      exact absurd h7 this
    · refine .inr ⟨h4, ?_, hlim, ?_⟩
      · have h7 := (begN_fiveC (hst.symm.trans h4)).2
        rw [getD_drop] at h7
        have := getD_lt (l := bytesOf L) (i := bg + 1) (by rw [h7]; decide)
        omega
      · have hb1 : bg + 1 < L.length := by
          have h7 := (begN_fiveC (hst.symm.trans h4)).2
          rw [getD_drop] at h7
          have := getD_lt (l := bytesOf L) (i := bg + 1) (by rw [h7]; decide)
          omega
        have hc := h6 (by omega)
        rw [hil, show (bytesOf L).drop L.length = [] from List.drop_eq_nil_of_le (by omega)] at hc
        have hit : item ((bytesOf L).drop bg) = .opn := item_opn (hst.symm.trans h4) (by rw [List.drop_drop]; exact hc)
        have hfr := fromA_step (L := L) (sz := sz) (a := a) hbL
        rw [hit, hR] at hfr
        simp only [lenA] at hfr
        rw [fromA_end (by omega)] at hfr
        exact hfr

theorem charsL_nl (l : List UInt8) : charsL l = [] ∨ Nl (bytesOf (charsL l)) := by
  unfold charsL
  split
  · exact .inl rfl
  · refine .inr ?_
    unfold withNl
    split
    · rename_i h
      unfold endsNl at h
      cases hg : (chs l 0).getLast? with
      | none => rw [hg] at h; cases h
      | some r =>
        rw [hg] at h
        rw [List.getLast?_eq_getElem?] at hg
        have hlt := (List.getElem?_eq_some_iff.1 hg).1
        refine ⟨by rw [bytesOf_len]; omega, ?_⟩
        rw [bytesOf_len]
        simp only [bytesOf, List.getD, List.getElem?_map, hg]
        simpa using h
    · refine ⟨by simp [bytesOf], ?_⟩
      simp [bytesOf, List.getD]

theorem quiet_two {w : World} {n : Nat} {g : Nat} {u : Value} {k : Nat} (h : w.cell? ⟨g, k, none⟩ = some u) : (w.drewN n).cell? ⟨g, k, none⟩ = some u := h

set_option maxRecDepth 100000 in
set_option maxHeartbeats 3200000 in
theorem lines_any (F s : ByteArray) (W : World) (hs : s.size ≤ 100000) (hF : F.size ≤ 1000000) : Calls Try.prog 9 #[.string F, .string s] W (LinesPost W F 36 (linesA (charsL s.data.toList) s.size)) := by
  obtain ⟨n, hn, hn2⟩ := charsL_few s.data.toList
  rw [len_byte] at hn2
  have HOV := Lib.hid (over_any F s W hs hF)
  have hnl := charsL_nl s.data.toList
  obtain ⟨L, hL⟩ : ∃ L, charsL s.data.toList = L := ⟨_, rfl⟩
  rw [hL] at HOV hn hnl ⊢
  have hLL : L.length ≤ 400000 := by omega
  obtain ⟨R, hRR⟩ : ∃ R, linesA L s.size = R := ⟨_, rfl⟩
  have HM0 := Lib.hid (mid_zero L s.size)
  rw [hRR] at HM0 ⊢
  have HNL := Lib.hid hnl
  clear hL hn hn2 hnl hRR
  go_enter Try.func9, Try.ntmps9
  go_wp2_with (go_at_call 17; (with_reducible refine HOV.out.mono ?_); rintro e w1 ⟨g, rfl, h1⟩; have H1 := Lib.hid h1; clear h1)
  obtain ⟨E, hE⟩ : ∃ E : Env, (⟨W, g, L, F, ⟨(bytesOf L).toArray⟩, s.size⟩ : Env) = E := ⟨_, rfl⟩
  have hEW : E.W = W := by rw [← hE]
  have hEg : E.g = g := by rw [← hE]
  have hEL : E.L = L := by rw [← hE]
  have hEF : E.F = F := by rw [← hE]
  have hEz : E.sz = s.size := by rw [← hE]
  rw [hE] at H1
  rw [← hEL] at HNL HM0 hLL
  rw [← hEz] at HM0
  have HEW := Lib.hid hEW
  have HEF := Lib.hid hEF
  rw [← hEF, ← hEg]
  clear hE hEW hEg hEL hEF hEz
  go_loopg [19] (mu E.L 0 0) (fun gk t wr => ∃ i st bg a, Was E i st bg a wr ∧ Mid E.L E.sz R i st bg a ∧ mu E.L i st ≤ gk)
  case atStart => exact ⟨0, 0, 0, acc0, H1.out, HM0.out, Nat.le_refl _⟩
  case round =>
    obtain ⟨i, st, bg, a, hw, hm, hmu⟩ := hrel
    have k3 := hw.k3
    have k4 := hw.k4
    have hcs := hw.size.1
    have HW := Lib.hid hw
    have HM := Lib.hid hm
    have HMU := Lib.hid hmu
    have HCS := Lib.hid hcs
    clear hw hm hmu hcs
    by_cases hi : i < E.L.length
    · have hii : (i : Int) < (E.ch.size : Int) := by have := HCS.out; omega
      have HST := Lib.hid (fun X (hX : Was E i st bg a X) => step_any hX HM.out hLL (by
        rcases HNL.out with h | h
        · rw [h] at hi; simp at hi
        · exact h) hi)
      go_wp2
      go_quiet (fail)
      obtain ⟨w2, hw2⟩ : ∃ w2, wr.drewN nq = w2 := ⟨_, rfl⟩
      have H2 := HW.out.drewN nq
      rw [hw2] at H2 ⊢
      have H2 := Lib.hid H2
      clear hw2 k3 k4
      go_wp2_with (go_at_call 18; (with_reducible refine (HST.out _ H2.out).mono ?_); rintro e w3 ⟨rfl, i', st', bg', a', h3, m3, u3⟩; have H3 := Lib.hid h3; have M3 := Lib.hid m3; have U3 := Lib.hid u3; clear h3 m3 u3)
      go_roundg (mu E.L i' st')
      case rel => exact ⟨i', st', bg', a', H3.out, M3.out, Nat.le_refl _⟩
      case measure => exact Nat.lt_of_lt_of_le U3.out HMU.out
    · have hii : ¬ (i : Int) < (E.ch.size : Int) := by have := HCS.out; omega
      obtain ⟨hil, hend⟩ := mid_end HM.out hi (HNL.out)
      rcases hend with ⟨hst, ha⟩ | ⟨hst, hbg, hlim, hR⟩
      · subst hst ha
        have k5 : wr.cell? ⟨E.g, 5, none⟩ = some (.int .i64 0) := HW.out.k5
        obtain ⟨la, ln, lc, da, dn, dc, hln, hdn, k10, k11, hlr, hdr⟩ := HW.out.result
        have HLN := Lib.hid hln
        have HDN := Lib.hid hdn
        rw [HEW.out, HEF.out] at hlr hdr
        have HLR := Lib.hid hlr
        have HDR := Lib.hid hdr
        clear hil hln hdn hlr hdr
        go_wp2
        go_quiet (fail)
        go_wp2
        go_quiet (fail)
        go_wp2
        go_ret2
        exact ⟨la, ln, lc, da, dn, dc, rfl, HLN.out, HDN.out, (HLR.out.over (Below.of_drews _ _)).over (Below.of_drews _ _), (HDR.out.over (Below.of_drews _ _)).over (Below.of_drews _ _)⟩
      · subst hst
        have k5 : wr.cell? ⟨E.g, 5, none⟩ = some (.int .i64 5) := HW.out.k5
        have k6 := HW.out.k6
        have HTL : Hid (∀ X : World, Was E i 5 bg a X → Calls Try.prog 19 #[.pointer (some ⟨E.g, 0, none⟩), .int .i64 1, .int .i64 (bg : Int), .int .i64 ((bg : Int) + 2)] X (WasPost E i 5 bg (tellA E.L a 1 bg (bg + 2)))) :=
          Lib.hid (fun X hX => tell_any hX 1 bg (bg + 1) _ _ rfl (by omega) (by omega) hbg (by omega) (by have := hlim.2.2; omega))
        have HEN : Hid (∀ X : World, Was E i 5 bg (tellA E.L a 1 bg (bg + 2)) X → Calls Try.prog 20 #[.pointer (some ⟨E.g, 0, none⟩), .bool true] X (WasPost E i 5 bg R)) := Lib.hid (by
          intro X hX
          have h := endLine_any hX true (by omega) (by omega) (by have := hlim.2.1; show a.lines.length ≤ 500000; omega)
          have e : toA E.L E.sz i = E.sz := by unfold toA; rw [if_neg hi]
          rw [e, ← hR] at h
          exact h)
        have hbw : IntKind.i64.wrap ((bg : Int) + 2) = (bg : Int) + 2 := IntWalk.i64_in _ (by omega)
        clear hil hbg hlim hR
        go_wp2
        go_quiet (fail)
        obtain ⟨w2, hw2⟩ : ∃ w2, wr.drewN nq = w2 := ⟨_, rfl⟩
        have h2 := HW.out.drewN nq
        rw [hw2] at h2 ⊢
        have k52 : w2.cell? ⟨E.g, 5, none⟩ = some (.int .i64 5) := h2.k5
        have k62 := h2.k6
        have H2 := Lib.hid h2
        clear hw2 k3 k4 k5 k6 h2
        go_wp2
        go_region_held3 (fun w' => w'.cell? ⟨E.g, 6, none⟩ = some (.int .i64 (bg : Int)))
          (first | (with_reducible exact H2.out.drew.k6) | (with_reducible exact H3.out.k6) | go_keep)
          (first | (go_at_call 19; (with_reducible refine (HTL.out _ H2.out.drew).mono ?_); rintro e w3 ⟨rfl, h3⟩; have H3 := Lib.hid h3; clear h3))
        all_goals (go_wp2_with (go_at_call 20; (with_reducible refine (HEN.out _ H3.out).mono ?_); rintro e w4 ⟨rfl, h4⟩; have H4 := Lib.hid h4; clear h4))
        all_goals obtain ⟨la, ln, lc, da, dn, dc, hln, hdn, k10, k11, hlr, hdr⟩ := H4.out.result
        all_goals have HLN := Lib.hid hln
        all_goals have HDN := Lib.hid hdn
        all_goals rw [HEW.out, HEF.out] at hlr hdr
        all_goals have HLR := Lib.hid hlr
        all_goals have HDR := Lib.hid hdr
        all_goals clear hln hdn hlr hdr
        all_goals go_quiet (fail)
        all_goals go_wp2
        all_goals go_ret2
        all_goals exact ⟨la, ln, lc, da, dn, dc, rfl, HLN.out, HDN.out, HLR.out.over (Below.of_drews _ _), HDR.out.over (Below.of_drews _ _)⟩

end Go.Proofs.Ytpnboieppkjfnaa
