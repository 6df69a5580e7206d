/-
  Texts of the proof, put together: GcBuild.
-/
import Derived.Test.YtkmlnccdldmmpaaDoorG29
import Derived.Deep.LoopGhost

/-
  The project's Build, walked.
-/
namespace Go.Proofs.YtkmlnccdldmmpaaDoor
open Go.RowKit

/-- The builder, with what is told fixed. -/
def BldC (W : World) (bb d : Nat) (s : Bs) (n : Nat) (codes : List Int) (w : World) : Prop :=
  ∃ c F oa oc ca, Bld W bb c d F oa oc ca n codes w ∧ F.map Prod.fst = stackOf s
theorem BldC.over {W : World} {bb d : Nat} {s : Bs} {n : Nat} {codes : List Int} {w w' : World} (h : BldC W bb d s n codes w) (b : Below w.heap.size w w') : BldC W bb d s n codes w' := by
  obtain ⟨c, F, oa, oc, ca, h1, h2⟩ := h
  exact ⟨c, F, oa, oc, ca, h1.over b, h2⟩
theorem stack_len (s : Bs) : (stackOf s).length = s.st.length + 1 := by unfold stackOf; simp
theorem m_within {W : World} {bb d : Nat} {s : Bs} {n : Nat} {codes : List Int} {w : World} (h : BldC W bb d s n codes w) : Calls Tryd.prog 49 #[.pointer (some ⟨bb, 0, none⟩)] w (BoolIs (decide (0 < s.st.length)) w) := by
  obtain ⟨c, F, oa, oc, ca, h1, h2⟩ := h
  have := h1.within
  rw [len_of_map h2, stack_len] at this
  rw [show decide (0 < s.st.length) = decide (1 < s.st.length + 1) from by congr 1; simp]
  exact this
def EndC (W : World) (bb d : Nat) (s : Bs) (n : Nat) (codes : List Int) (e : Ending) (w' : World) : Prop := e = .returned (.tuple #[]) ∧ BldC W bb d s n codes w'
theorem m_end {W : World} {bb d : Nat} {s : Bs} {n : Nat} {codes : List Int} {w : World} (h : BldC W bb d s n codes w) (hd : d ≤ 300000) (hpos : 0 < s.st.length) : Calls Tryd.prog 50 #[.pointer (some ⟨bb, 0, none⟩)] w (EndC W bb (d + 2) (closeB s) n codes) := by
  obtain ⟨c, F, oa, oc, ca, h1, h2⟩ := h
  rcases st_cases s with hs | ⟨f, r, hs⟩
  · rw [hs] at hpos; exact absurd hpos (Nat.lt_irrefl 0)
  rw [stack_some hs] at h2
  obtain ⟨F0, x, rfl, hF0⟩ := map_snoc_inv h2
  obtain ⟨L, a, hL⟩ := stack_ends { s with st := r }
  have hL' : baseFr s.ba :: r.reverse = L ++ [a] := hL
  rw [hL'] at hF0
  obtain ⟨F1, y, rfl, hF1⟩ := map_snoc_inv hF0
  refine (end_any h1 hd).mono ?_
  rintro e w' ⟨he, c', y', hb⟩
  refine ⟨he, c', _, oa, oc, ca, hb, ?_⟩
  have hc : closeB s = putB { s with st := r } (frItem f) := by unfold closeB; rw [hs]
  rw [hc, stack_put hL, List.map_append, hF1]
  rfl

/-- What is built. -/
structure Built (w : World) (its : List Itm) (D : List Dg) (ia : Option Addr) (im ic : Nat) (da : Option Addr) (dn dc : Nat) (w' : World) : Prop where
  its : ∃ dep, dep ≤ 500000 ∧ ItsAt dep its (.slice ia im ic) w'
  dl : dn = D.length
  dgs : DRow w fB (.slice da dn dc) D w'
def BuiltP (w : World) (its : List Itm) (D : List Dg) (e : Ending) (w' : World) : Prop :=
  ∃ ia im ic da dn dc, e = .returned (.tuple #[.slice ia im ic, .slice da dn dc]) ∧ Built w its D ia im ic da dn dc w'

/-- At the end: the outermost items, and what is told. -/
theorem m_last {w : World} {bb d : Nat} {s : Bs} {n : Nat} {codes : List Int} {X : World} (h : BldC w bb d s n codes X) (hs : s.st.length = 0) :
    ∃ (ab ca : Nat) (ia : Option Addr) (im ic : Nat), (∀ Y : World, Below X.heap.size X Y → Calls Tryd.prog 51 #[.pointer (some ⟨bb, 0, none⟩)] Y (PtrNew ⟨ab, 1, none⟩ Y)) ∧ X.cell? ⟨ab, 1, none⟩ = some (.slice ia im ic) ∧ ab < X.heap.size ∧
      X.cell? ⟨bb, 1, none⟩ = some (.slice (some ⟨ca, 0, none⟩) n n) ∧ bb < X.heap.size ∧ ca < X.heap.size ∧ (∀ k z, codes[k]? = some z → X.cell? ⟨ca, k, none⟩ = some (.int .i64 z)) ∧ codes.length = n ∧ Below w.heap.size w X ∧ ItsAt (d + 1) s.ba (.slice ia im ic) X := by
  obtain ⟨c, F, oa, oc, ca, h1, h2⟩ := h
  have hnil : s.st = [] := List.eq_nil_of_length_eq_zero hs
  rw [stack_none hnil] at h2
  obtain ⟨F0, x, rfl, hF0⟩ := map_snoc_inv h2
  obtain rfl : F0 = [] := List.map_eq_nil_iff.1 hF0
  have hf := h1.fr (F0 := []) (F1 := []) rfl
  have hA : x.A.length = 0 := by
    have := hf.ma
    rw [show (baseFr s.ba).dn = [] from rfl, List.map_eq_nil_iff] at this
    rw [this]; rfl
  have hits : ∀ Y : World, Below X.heap.size X Y → Calls Tryd.prog 51 #[.pointer (some ⟨bb, 0, none⟩)] Y (PtrNew ⟨x.ab, 1, none⟩ Y) := fun Y b => by
    have h1 := h1.over b
    have h0 := h1.b0
    have hcp := h1.cap
    have hcl := h1.cell (F0 := []) (F1 := []) rfl (i := 2) (by omega) rfl
    have hac := (h1.fr (F0 := []) (F1 := []) rfl).acap
    rw [hA] at hcl hac
    exact its_any (m := 0) (k := 0) h0 hcp.1 hcp.2 hcl hac.1 hac.2 h1.olt
  have hsl := hf.slot
  rw [hA] at hsl
  refine ⟨x.ab, ca, x.ia, x.im, x.ic, hits, hsl.1, hsl.2, h1.b1, h1.lt, h1.clt, fun k z hz => ?_, h1.clen.1, h1.bel, ?_⟩
  · have hk : k < n := by rw [← h1.clen.1]; exact (List.getElem?_eq_some_iff.1 hz).1
    obtain ⟨z', hz', hcell, -⟩ := h1.code hk
    rw [hz] at hz'
    rw [Option.some.inj hz']
    exact hcell
  · have := hf.lev.done (Pk := fun _ => True) (fun _ _ => trivial) (fun _ _ => trivial)
    rw [hf.mp] at this
    exact itsP_at _ _ _ _ _ this

set_option maxRecDepth 100000 in
set_option maxHeartbeats 6400000 in
theorem gbuild_any {lines : List Ln} {lv : Value} {w : World} (hl : LinesAt fB lines lv w) (hn : lines.length ≤ 20000) (hW : WordsAt 0 w) (h0 : 0 < w.heap.size) :
    Calls Tryd.prog 23 #[lv] w (BuiltP w (buildL (ksOf lines)).1 (tells lines)) := by
  have HLA := Lib.hid hl
  obtain ⟨la, lc, rfl, hlc1, hlc2, hcell⟩ := hl
  obtain ⟨n, hln⟩ : ∃ n, lines.length = n := ⟨_, rfl⟩
  rw [hln] at hlc1 hn HLA ⊢
  have HL := Lib.hid hcell
  have HLN := Lib.hid hln
  have HW := Lib.hid hW
  have HN := Lib.hid (gover_any n (by omega) w)
  have HRK : Hid ((ksOf lines).length = n) := Lib.hid (by unfold ksOf; rw [List.length_map]; exact hln)
  obtain ⟨K, hK⟩ : ∃ K, ksOf lines = K := ⟨_, rfl⟩
  have HK := Lib.hid hK
  unfold tells
  rw [hK, hln]
  rw [hK] at HRK
  unfold maxLen at hlc2
  clear hcell hln hW hK
  go_enter Tryd.func23, Tryd.ntmps23
  go_wp2_with (go_at_call 47; (with_reducible refine HN.out.mono ?_); rintro e w1 ⟨bb, rfl, hb⟩; have HB1 := Lib.hid hb; clear hb)
  go_loopw [12] (fun i wr => ∃ k : Nat, i = .int .i64 (k : Int) ∧ k ≤ n ∧ BldS w bb (2 * k) (runB bs0 0 (K.take k)) n wr) (fun i _ => n - (intOf i).toNat)
  case atStart => exact ⟨0, rfl, Nat.zero_le _, HB1.out⟩
  case round =>
    obtain ⟨k, rfl, hk, hB⟩ := hrel
    have HB := Lib.hid hB
    clear hB
    by_cases hlt : k < n
    · obtain ⟨ln, hlk⟩ : ∃ ln, lines[k]? = some ln := ⟨_, List.getElem?_eq_getElem (by rw [HLN.out]; exact hlt)⟩
      obtain ⟨g, tv, rfl, hg, l0, l1, l2, l3, ht⟩ := HL.out k ln hlk
      have hx := ToksAt.x ht
      obtain ⟨ta, tn, tc, rfl⟩ := hx.form
      have e0 := bcell HB.out.bel l0 hg
      have e1 := bcell HB.out.bel l1 hg
      have e2 := bcell HB.out.bel l2 hg
      have e3 := bcell HB.out.bel l3 hg
      have hkI : (k : Int) < (n : Int) := by omega
      have hk0 : (0 : Int) ≤ (k : Int) := by omega
      have hKk : K[k]? = some (lnK ln) := by rw [← HK.out]; unfold ksOf; rw [List.getElem?_map, hlk]; rfl
      have HSN : Hid (runB bs0 0 (K.take (k + 1)) = stepB (runB bs0 0 (K.take k)) k (kindL (ln.toks.map (xtOf fB))) (decide (ln.toks.map (xtOf fB) ≠ []))) := Lib.hid (by
        rw [take_one hKk, run_snoc, List.length_take, Nat.min_eq_left (by rw [HRK.out]; omega), Nat.zero_add]
        rfl)
      have HT : Hid (∀ X : World, Below wr.heap.size wr X → Calls Tryd.prog 48 #[.pointer (some ⟨bb, 0, none⟩), .int .i64 (k : Int), .slice ta tn tc] X (TakenP w bb (2 * k + 2) (runB bs0 0 (K.take (k + 1))) n)) := Lib.hid (fun X b => by
        have hbX := HB.out.over b
        rw [HSN.out]
        refine gtake_any hbX (by omega) ?_ hlt (hx.over hbX.bel) (HW.out.next hbX.bel h0) (Nat.lt_of_lt_of_le h0 hbX.bel.size)
        have := fine_run (K.take k) bs0 0 fine_zero
        rw [List.length_take, Nat.min_eq_left (by rw [HRK.out]; omega), Nat.zero_add] at this
        exact this)
      have HBA : Hid (Below wr.heap.size wr (wr.alloc (.cells #[.slice ta tn tc, .int .i64 (ln.f : Int), .int .i64 (ln.t : Int), .bool ln.o] 61))) := Lib.hid ((Below.refl _ _).alloc (Nat.le_refl _) _)
      clear hlk l0 l1 l2 l3 ht hx hKk
      go_wp2_with (go_at_call 48; (with_reducible refine (HT.out _ HBA.out).mono ?_); rintro e w2 ⟨rfl, hh⟩; have HB2 := Lib.hid hh; clear hh)
      go_roundw
      case rel => exact ⟨k + 1, by go_num, hlt, HB2.out⟩
      case measure => simp [intOf]; omega
    · have hkI : ¬ (k : Int) < (n : Int) := by omega
      have hkn : k = n := by omega
      have HS : Hid (∃ s codes, s = runB bs0 0 K ∧ codes = codesOf s n ∧ BldC w bb (2 * n) s n codes wr) := Lib.hid (by
        obtain ⟨c, F, oa, oc, ca, codes, h1, h2, h3⟩ := HB.out
        rw [List.take_of_length_le (by rw [HRK.out]; omega), hkn] at *
        exact ⟨_, codes, rfl, codes_are h3 h1.clen.1, c, F, oa, oc, ca, h1, h2⟩)
      obtain ⟨s, codes, hs, hco, hBC⟩ := HS.out
      have HST := Lib.hid hs
      have HCO := Lib.hid hco
      have HBC := Lib.hid hBC
      have HLE : Hid (s.st.length ≤ 2 * n) := Lib.hid (by
        obtain ⟨c, F, oa, oc, ca, h1, h2⟩ := hBC
        have := h1.few
        rw [len_of_map h2, stack_len] at this
        omega)
      clear HS hs hco hBC hkn
      go_wp2
      go_loopg [24] (s.st.length) (fun gk _ wr => ∃ s' d', BldC w bb d' s' n codes wr ∧ s'.st.length = gk ∧ (shutB gk s').ba = (shutB s.st.length s).ba ∧ d' + 2 * gk ≤ 2 * n + 2 * s.st.length)
      case atStart => exact ⟨s, 2 * n, HBC.out, rfl, rfl, Nat.le_refl _⟩
      case round =>
        obtain ⟨s', d', hB', hgk, hba, hd'⟩ := hrel
        have HB' := Lib.hid hB'
        have HGK := Lib.hid hgk
        have HBA := Lib.hid hba
        have hd3 : d' ≤ 300000 := by have := HLE.out; omega
        have HD' := Lib.hid hd'
        have HWI := Lib.hid (m_within hB')
        rw [hgk] at HWI
        clear hB' hgk hba hd'
        by_cases hpos : 0 < gk
        · have HE : Hid (Calls Tryd.prog 50 #[.pointer (some ⟨bb, 0, none⟩)] wr (EndC w bb (d' + 2) (closeB s') n codes)) := Lib.hid (m_end HB'.out hd3 (by rw [HGK.out]; exact hpos))
          rw [show decide (0 < gk) = true from by simpa using hpos] at HWI
          go_wp2_with (first
            | (go_at_call 49; (with_reducible refine HWI.out.mono ?_); rintro e w2 ⟨rfl, rfl⟩)
            | (go_at_call 50; (with_reducible refine HE.out.mono ?_); rintro e w3 ⟨rfl, hh⟩; have HB3 := Lib.hid hh; clear hh))
          go_roundg (gk - 1)
          case measure => omega
          case rel =>
            refine ⟨closeB s', d' + 2, HB3.out, by rw [st_close, HGK.out], ?_, by have := HD'.out; omega⟩
            have h1 := HBA.out
            rw [show gk = (gk - 1) + 1 from by omega, shutB] at h1
            exact h1
        · have h00 : gk = 0 := by omega
          rw [show decide (0 < gk) = false from by simpa using hpos] at HWI
          obtain ⟨ab, ca, ia, im, ic, hit, hcell, hab, hb1, hbb, hca, hcs, hcn, hbel, hits⟩ := m_last HB'.out (by rw [HGK.out, h00])
          have HBAS : Hid (s'.ba = (buildL K).1) := Lib.hid (by
            have h1 := HBA.out
            rw [h00] at h1
            have h2 := HST.out
            unfold buildL
            simp only
            rw [← h2, ← h1]
            rfl)
          have HIT := Lib.hid hit
          have HCS := Lib.hid hcs
          have HBEL := Lib.hid hbel
          have HITS := Lib.hid hits
          have HC1 := Lib.hid hcell
          have HB1 := Lib.hid hb1
          have HCN := Lib.hid hcn
          clear hit hcell hb1 hcs hcn hbel hits
          go_wp2_with (go_at_call 49; (with_reducible refine HWI.out.mono ?_); rintro e w2 ⟨rfl, rfl⟩)
          obtain ⟨wd, hwd⟩ : ∃ wd, wr.drew = wd := ⟨_, rfl⟩
          have HBD : Hid (Below wr.heap.size wr wd) := Lib.hid (hwd ▸ (Below.refl _ _).drew)
          have HSW := bcell HBD.out HC1.out hab
          refine region_anyT (S := fun w' => w'.cell? ⟨ab, 1, none⟩ = some (.slice ia im ic)) 8 (by kernel_rfl) ?_
          rw [hwd]
          refine anyT_take 0 [1, 2, 3, 6, 7, 8] (v := ?_) rfl (by kernel_rfl) (fun _ _ _ h => h) (Or.inl ⟨by kernel_rfl, ?_⟩) HSW ?_
          rotate_left
          · (intro w hSw; go_simp; (try with_reducible rfl))
          (try simp only [Act.put]); (try simp only [List.setIfInBounds_toArray]); (try simp only [List.set_cons_succ]); (try simp only [List.set_cons_zero])
          refine anyT_take 4 [6, 7, 8] (v := ?_) rfl (by kernel_rfl) (fun _ _ _ h => h) (Or.inl ⟨by kernel_rfl, ?_⟩) HSW ?_
          rotate_left
          · (intro w hSw; go_simp; (try with_reducible rfl))
          (try simp only [Act.put]); (try simp only [List.setIfInBounds_toArray]); (try simp only [List.set_cons_succ]); (try simp only [List.set_cons_zero])
          refine anyT_take 5 [6, 7, 8] (v := ?_) rfl (by kernel_rfl) (fun _ _ _ h => h) (Or.inl ⟨by kernel_rfl, ?_⟩) HSW ?_
          rotate_left
          · (intro w hSw; go_simp; (try with_reducible rfl))
          (try simp only [Act.put]); (try simp only [List.setIfInBounds_toArray]); (try simp only [List.set_cons_succ]); (try simp only [List.set_cons_zero])
          refine anyT_step 1 (by kernel_rfl) rfl (fun K hK => ?_)
          go_simp
          go_at_call 51
          (with_reducible refine (HIT.out _ HBD.out).mono ?_)
          rintro e w5 ⟨rfl, hb⟩
          have HB5 : Hid (Below wr.heap.size wr w5) := Lib.hid (below_up HBD.out hb)
          have HSW := bcell HB5.out HC1.out hab
          clear hb
          try go_wp2_with fail
          refine hK.out _ _ (fun _ => HSW) ?_
          clear hK K
          (try simp only [Act.put]); (try simp only [List.setIfInBounds_toArray]); (try simp only [List.set_cons_succ]); (try simp only [List.set_cons_zero])
          refine anyT_take 2 [3, 7, 8] (v := ?_) rfl (by kernel_rfl) (fun _ _ _ h => h) (Or.inl ⟨by kernel_rfl, ?_⟩) HSW ?_
          rotate_left
          · (intro w hSw; go_simp; (try with_reducible rfl))
          (try simp only [Act.put]); (try simp only [List.setIfInBounds_toArray]); (try simp only [List.set_cons_succ]); (try simp only [List.set_cons_zero])
          refine anyT_take 3 [7, 8] (v := ?_) rfl (by kernel_rfl) (fun _ _ _ h => h) (Or.inl ⟨by kernel_rfl, ?_⟩) HSW ?_
          rotate_left
          · (intro w hSw; go_simp; (try with_reducible rfl))
          (try simp only [Act.put]); (try simp only [List.setIfInBounds_toArray]); (try simp only [List.set_cons_succ]); (try simp only [List.set_cons_zero])
          refine anyT_step 6 (by kernel_rfl) rfl (fun K hK => ?_)
          go_simp
          have HDG : Hid (Calls Tryd.prog 52 #[.pointer (some ⟨bb, 0, none⟩), .slice la n lc] w5 (DiagNew w5 (diagsL codes lines))) := Lib.hid (by
            refine gdiags_any (bcell HB5.out HB1.out hbb) (Nat.lt_of_lt_of_le hca HB5.out.size) (fun k z hz => bcell HB5.out (HCS.out k z hz) hca) HCN.out (HLA.out.next (below_up HBEL.out HB5.out)) HLN.out (by omega) (fun k z ln h1 h2 h3 => ?_)
            refine told_two ?_ h2 h3
            rw [HK.out, HLN.out, ← HST.out, ← HCO.out]
            exact h1)
          go_at_call 52
          (with_reducible refine HDG.out.mono ?_)
          rintro e w6 ⟨da, dn, dc, rfl, hdn, hD⟩
          have HD6 := Lib.hid hD
          have HDN6 := Lib.hid hdn
          have HSW := bcell hD.2 (bcell HB5.out HC1.out hab) (Nat.lt_of_lt_of_le hab HB5.out.size)
          clear hD hdn
          try go_wp2_with fail
          refine hK.out _ _ (fun _ => HSW) ?_
          clear hK K
          (try simp only [Act.put]); (try simp only [List.setIfInBounds_toArray]); (try simp only [List.set_cons_succ]); (try simp only [List.set_cons_zero])
          refine anyT_take 7 [8] (v := ?_) rfl (by kernel_rfl) (fun _ _ _ h => h) (Or.inl ⟨by kernel_rfl, ?_⟩) HSW ?_
          rotate_left
          · (intro w hSw; go_simp; (try with_reducible rfl))
          (try simp only [Act.put]); (try simp only [List.setIfInBounds_toArray]); (try simp only [List.set_cons_succ]); (try simp only [List.set_cons_zero])
          refine anyT_step 8 (by kernel_rfl) rfl (fun K hK => ?_)
          go_simp
          refine hK.out _ _ (fun h => absurd rfl h) ?_
          clear hK K
          (try simp only [Act.put]); (try simp only [List.setIfInBounds_toArray]); (try simp only [List.set_cons_succ]); (try simp only [List.set_cons_zero])
          refine anyT_done (by kernel_rfl) ?_ _
          go_wp2
          go_ret2
          refine ⟨ia, im, ic, da, dn, dc, rfl, ⟨⟨d' + 1, by omega, ?_⟩, ?_, ?_⟩⟩
          · rw [← HBAS.out]
            exact itsAt_over _ _ _ _ _ HITS.out (below_up HB5.out HD6.out.2)
          · rw [← HST.out, ← HCO.out]
            exact HDN6.out
          · rw [← HST.out, ← HCO.out]
            exact Up.lower HD6.out (below_up HBEL.out HB5.out)

end Go.Proofs.YtkmlnccdldmmpaaDoor
