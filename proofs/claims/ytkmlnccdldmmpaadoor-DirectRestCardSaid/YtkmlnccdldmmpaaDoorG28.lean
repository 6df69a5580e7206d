/-
  Texts of the proof, put together: DkRest.
-/
import Derived.Test.YtkmlnccdldmmpaaDoorG25
import Derived.Test.YtkmlnccdldmmpaaDoorG27

/-
  What stands behind a directive's word: the project's and the document's.
-/
namespace Go.Proofs.YtkmlnccdldmmpaaDoor
open Go.RowKit

set_option maxRecDepth 100000 in
/-- l[2:] of tokens. -/
theorem slice2_run (g o n cap : Nat) (h2 : 2 ≤ n) (h3 : n ≤ cap) : ∃ o', (n = 2 ∨ o' = o + 16) ∧ ∀ w, (Instr.slice 22 (.slice (some ⟨g, o, none⟩) n cap) (some (.int .i64 2)) none none).run Tryd.prog w = .ok (.slice (some ⟨g, o', none⟩) (n - 2) (cap - 2)) w := by
  refine ⟨if cap = 2 then o else o + 16, ?_, fun w => ?_⟩
  · split
    · left; omega
    · right; rfl
  · have a1 : (2 : Int) ≤ (n : Int) := by omega
    have a2 : (2 : Int) ≤ (cap : Int) := by omega
    have a3 : (n : Int) ≤ (cap : Int) := by omega
    have a5 : Tryd.prog.cellsOf 36 = 8 := by kernel_rfl
    by_cases hc : cap = 2
    · obtain rfl : n = 2 := by omega
      subst hc
      simp [Instr.slice, run_underlying Tryd.underlying22, Instr.sliceBounds, run_sliceBound, Addr.add, *]
    · have hc' : (cap == 2) = false := by simpa using hc
      simp [Instr.slice, run_underlying Tryd.underlying22, Instr.sliceBounds, run_sliceBound, Addr.add, *]

theorem drop2_toks {T : List Xt} {g o o' n cap : Nat} {w : World} (h : ToksX T (.slice (some ⟨g, o, none⟩) n cap) w) (h2 : 2 ≤ n) (ho : n = 2 ∨ o' = o + 16) : ToksX (T.drop 2) (.slice (some ⟨g, o', none⟩) (n - 2) (cap - 2)) w := by
  obtain ⟨hn, hc1, hc2⟩ := h.len
  refine ⟨some ⟨g, o', none⟩, cap - 2, by rw [List.length_drop, ← hn], by rw [List.length_drop]; omega, by omega, fun k t ht => ?_⟩
  rw [List.getElem?_drop] at ht
  obtain ⟨g', o2, sa, sn, sc, ha, hg, -, hx, hs⟩ := h.get ht
  obtain ⟨rfl, rfl⟩ : g = g' ∧ o = o2 := by simpa using ha
  have hk := (List.getElem?_eq_some_iff.1 ht).1
  have e : o' = o + 16 := by
    rcases ho with h | h
    · omega
    · exact h
  refine ⟨g, o', rfl, hg, _, ?_, hs⟩
  rw [e, show o + 16 + k * 8 = o + (2 + k) * 8 from by omega]
  exact hx

theorem rest_low {T : List Xt} (h : kindL T < 2) : restL T = [] := by unfold restL; rw [if_pos h]
theorem rest_high {T : List Xt} (h : ¬ kindL T < 2) : restL T = T.drop 2 := by unfold restL; rw [if_neg h]

set_option maxRecDepth 100000 in
set_option maxHeartbeats 3200000 in
theorem rRest_any {T : List Xt} {v : Value} {w : World} (h : ToksX T v w) : Calls Tryd.prog 16 #[v] w (ToksNew w (restL T)) := by
  obtain ⟨a, n, cap, rfl⟩ := h.form
  have HX := Lib.hid h
  have HK := Lib.hid (rKind_any h)
  by_cases hk : kindL T < 2
  · have hki : ((kindL T : Nat) : Int) < 2 := by omega
    rw [rest_low hk]
    obtain ⟨K, hK⟩ : ∃ K, kindL T = K := ⟨_, rfl⟩
    rw [hK] at HK hki
    clear hk hK h
    go_enter Tryd.func16, Tryd.ntmps16
    go_wp2_with (go_at_call 13; (with_reducible refine HK.out.mono ?_); rintro e w1 ⟨rfl, hb1⟩; have HB1 := Lib.hid hb1; clear hb1)
    go_ret
    exact ⟨none, 0, 0, rfl, rfl, toksX_nil _, HB1.out⟩
  · have hl := kindL_len (T := T) (by omega)
    obtain ⟨hn, hc1, hc2⟩ := h.len
    obtain ⟨g, o, -, -, -, rfl, -⟩ := h.get (List.getElem?_eq_getElem (show 0 < T.length by omega))
    obtain ⟨o', ho, hrun⟩ := slice2_run g o n cap (by omega) hc1
    have HT := Lib.hid (drop2_toks h (by omega) ho)
    have hki : ¬ ((kindL T : Nat) : Int) < 2 := by omega
    have hk14 := kindL_le T
    rw [rest_high hk]
    obtain ⟨K, hK⟩ : ∃ K, kindL T = K := ⟨_, rfl⟩
    rw [hK] at HK hki
    have HN : Hid (n - 2 = (T.drop 2).length) := Lib.hid (by rw [List.length_drop, hn])
    clear hk hK h ho hk14 hn hl hc2
    go_enter Tryd.func16, Tryd.ntmps16
    go_wp2_with (go_at_call 13; (with_reducible refine HK.out.mono ?_); rintro e w1 ⟨rfl, hb1⟩; have HB1 := Lib.hid hb1; clear hb1)
    go_ret
    exact ⟨_, _, _, rfl, HN.out, HT.out.over HB1.out, HB1.out⟩

set_option maxRecDepth 100000 in
set_option maxHeartbeats 3200000 in
theorem rest_any {T : List Xt} {v : Value} {w : World} (h : ToksX T v w) (hW : WordsAt 0 w) (h0 : 0 < w.heap.size) (hT : T.length ≤ 500000) (hS : ∀ t ∈ T, t.ss.length ≤ 500000) : Calls Tryd.prog 15 #[v] w (ToksNew w (restL T)) := by
  obtain ⟨a, n, cap, rfl⟩ := h.form
  have HK := Lib.hid (kind_any h hW h0)
  by_cases hk : kindL T < 2
  · rw [rest_low hk]
    have hcs : kindL T = 0 ∨ kindL T = 1 := by omega
    clear h hW hk
    rcases hcs with e | e
    · rw [e] at HK
      clear e
      go_enter Tryd.func15, Tryd.ntmps15
      go_wp2_with (go_at_call 12; (with_reducible refine HK.out.mono ?_); rintro e w1 ⟨rfl, hb1⟩; have HB1 := Lib.hid hb1; clear hb1)
      go_ret
      exact ⟨none, 0, 0, rfl, rfl, toksX_nil _, HB1.out⟩
    · rw [e] at HK
      clear e
      go_enter Tryd.func15, Tryd.ntmps15
      go_wp2_with (go_at_call 12; (with_reducible refine HK.out.mono ?_); rintro e w1 ⟨rfl, hb1⟩; have HB1 := Lib.hid hb1; clear hb1)
      go_ret
      exact ⟨none, 0, 0, rfl, rfl, toksX_nil _, HB1.out⟩
  · have hl := kindL_len (T := T) (by omega)
    obtain ⟨hn, hc1, hc2⟩ := h.len
    obtain ⟨g, o, -, -, -, rfl, -⟩ := h.get (List.getElem?_eq_getElem (show 0 < T.length by omega))
    obtain ⟨o', ho, hrun⟩ := slice2_run g o n cap (by omega) hc1
    have ht := drop2_toks h (by omega) ho
    have HCL : Hid (∀ X : World, Below w.heap.size w X → Calls Tryd.prog 41 #[.slice (some ⟨g, o', none⟩) (n - 2) (cap - 2)] X (ToksNew X (T.drop 2))) := Lib.hid (fun X hX => tclone_any (ht.over hX) (by rw [List.length_drop]; omega) (fun t hm => hS t (List.mem_of_mem_drop hm)))
    have hk0 : ((kindL T : Nat) : Int) ≠ 0 := by omega
    have hk1 : ((kindL T : Nat) : Int) ≠ 1 := by omega
    rw [rest_high hk]
    obtain ⟨K, hK⟩ : ∃ K : Int, ((kindL T : Nat) : Int) = K := ⟨_, rfl⟩
    rw [hK] at HK hk0 hk1
    have hb0 : (K == 0) = false := by simpa using hk0
    have hb1 : (K == 1) = false := by simpa using hk1
    clear hk hK h hW ho ht hn hl hc2 hS hT hk0 hk1
    go_enter Tryd.func15, Tryd.ntmps15
    go_wp2_with (first
      | (go_at_call 12; (with_reducible refine HK.out.mono ?_); rintro e w1 ⟨rfl, hb1⟩; have HB1 := Lib.hid hb1; clear hb1)
      | (go_at_call 41; (with_reducible refine (HCL.out _ HB1.out).mono ?_); rintro e w2 ⟨ra, rn, rc, rfl, hrn, ht2, hb2⟩; have HT2 := Lib.hid ht2; have HB2 := Lib.hid hb2; have HRN := Lib.hid hrn; clear ht2 hb2 hrn))
    go_ret
    exact ⟨ra, rn, rc, rfl, HRN.out, HT2.out, below_up HB1.out HB2.out⟩

end Go.Proofs.YtkmlnccdldmmpaaDoor
