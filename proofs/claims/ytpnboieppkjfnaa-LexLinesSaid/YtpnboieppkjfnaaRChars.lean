/-
  The document's own Chars, in memory.
-/
import Derived.Test.YtpnboieppkjfnaaRSpl
namespace Go.Proofs.Ytpnboieppkjfnaa
open Go.RowKit

theorem Up.lower {W W1 w : World} {e : TypeId} {size : Nat} {v : Value} {n : Nat} {xs : List Value} (h : Up W1 e size v n xs w) (b : Below W.heap.size W W1) : Up W e size v n xs w :=
  ⟨row_low h.1 b.size, b.trans (h.2.mono b.size)⟩

theorem endsNl_last {L : List Rn} {m : Nat} {r : Rn} (hm : L.length = m + 1) (hr : L[m]? = some r) : endsNl L = decide (r.c = 10) := by
  unfold endsNl
  rw [List.getLast?_eq_getElem?, hm, Nat.add_sub_cancel, hr]
theorem endsNl_nil : endsNl [] = false := rfl

theorem charsL_ends {l : List UInt8} (hl : l ≠ []) (h : endsNl (chs l 0) = true) : charsL l = chs l 0 := by
  unfold charsL withNl
  rw [if_neg hl, if_pos h]
theorem charsL_not {l : List UInt8} (hl : l ≠ []) (h : endsNl (chs l 0) = false) : charsL l = chs l 0 ++ [⟨10, l.length, l.length⟩] := by
  unfold charsL withNl
  rw [if_neg hl, if_neg (by rw [h]; simp)]

theorem list_ne {s : ByteArray} (h : 0 < s.size) : s.data.toList ≠ [] := by
  intro e
  have := len_byte s
  rw [e] at this
  simp at this
  omega

theorem list_nil {s : ByteArray} (h : ¬ 0 < s.size) : s.data.toList = [] := List.eq_nil_of_length_eq_zero (by rw [len_byte]; omega)

set_option maxRecDepth 100000 in
set_option maxHeartbeats 1600000 in
theorem rChars_any (s : ByteArray) (w : World) (hs : s.size ≤ 100000) : Calls Try.prog 21 #[.string s] w (RRowPost w (charsL s.data.toList)) := by
  obtain ⟨i0, hi, hz0, hz1, hz2⟩ := info_parts Try.infoRRune
  have hlen := len_byte s
  have hpl := pls_len s.data.toList _ 0 (Nat.le_refl _)
  have hcl := chs_len s.data.toList _ 0 (Nat.le_refl _)
  have hsp := spL_all s.data.toList
  obtain ⟨P, hP⟩ : ∃ P, pls s.data.toList 0 = P := ⟨_, rfl⟩
  obtain ⟨C, hC⟩ : ∃ C, chs s.data.toList 0 = C := ⟨_, rfl⟩
  rw [hP] at hpl hsp
  rw [hC] at hcl hsp
  rw [hlen] at hpl hcl
  have HP := Lib.hid hP
  have HCC := Lib.hid hC
  have HSP := Lib.hid hsp
  have HL := Lib.hid hlen
  clear hlen hP hC hsp
  go_enter Try.func21, Try.ntmps21
  go_wp2_with (go_at_call 28; (with_reducible refine (rPlain_any s _ hs).mono ?_); rw [HP.out]; rintro e w1 ⟨a1, n1, cap1, rfl, rfl, u1⟩; have U1 := Lib.hid u1; clear u1)
  go_at_call 27
  (with_reducible refine (rSpl_any U1.out (by omega)).mono ?_)
  rw [HSP.out]
  rintro e w2 ⟨a2, n, cap2, hn, rfl, u2⟩
  have hu := Up.lower u2 U1.out.2
  obtain ⟨a', c', hv, hc1, hc2, hcell⟩ := rrow_cells (W := w) (L := C) hu
  simp only [Value.slice.injEq] at hv
  obtain ⟨rfl, -, rfl⟩ := hv
  have HC := Lib.hid hcell
  have hu' : Up w 66 3 (.slice a2 n cap2) n (rcells C) w2 := by
    unfold RRow at hu
    rw [← hn] at hu
    exact hu
  have U2 := Lib.hid hu'
  have HN := Lib.hid hn
  unfold maxLen at hc2
  rw [← hn] at hc1 hcl
  clear u2 hn hu hu' hcell
  by_cases hz : 0 < s.size
  · have hzi : (0 : Int) < (s.size : Int) := by omega
    cases n with
    | zero =>
      obtain rfl : C = [] := List.eq_nil_of_length_eq_zero HN.out.symm
      go_wp2_with (at_builtin; refine wpList_append_ex rfl (.tmp 25) (.tmp 31) 62 rfl _ (app_up Try.underlying62 hi hz0 hz1 hz2 rfl (by decide) (by decide) (U2.out.alloc _) (src_three _ _ _ _ _) three_one (by omega)) ?_; intro v3 w3 hu3; simp only [Nat.zero_add] at hu3; obtain ⟨a3, cap3, rfl, -, -, -⟩ := row_form hu3.1; have U3 := Lib.hid hu3; clear hu3)
      go_ret
      refine ⟨a3, 1, cap3, ?_, rfl, ?_⟩ <;> rw [charsL_not (list_ne hz) (by rw [HCC.out]; rfl), HCC.out, HL.out]
      · rfl
      · exact U3.out
    | succ m =>
      have hm : m < C.length := by have := HN.out; omega
      obtain ⟨r, hr⟩ : ∃ r, C[m]? = some r := ⟨_, List.getElem?_eq_getElem hm⟩
      obtain ⟨g, rfl, hg, e0, -, -⟩ := HC.out m r hr
      have HE := Lib.hid (endsNl_last HN.out.symm hr)
      obtain ⟨x, hx⟩ : ∃ x : Int, ((r.c.toNat : Nat) : Int) = x := ⟨_, rfl⟩
      rw [hx] at e0
      have HX := Lib.hid hx
      clear hr hx hm
      by_cases hq : x = 10
      · subst hq
        have hc : r.c = 10 := c_of (x := 10) HX.out (by omega)
        have HR := Lib.hid hc
        clear hc
        go_wp2
        go_ret
        refine ⟨some ⟨g, 0, none⟩, m + 1, cap2, ?_, rfl, ?_⟩ <;> rw [charsL_ends (list_ne hz) (by rw [HCC.out, HE.out, HR.out]; rfl), HCC.out]
        · exact HN.out
        · have h := U2.out
          unfold RRow
          rw [← HN.out]
          exact h
      · have hb : (x == 10) = false := by simpa using hq
        have hb2 : (x != 10) = true := by simpa using hq
        have hm0 : ((m : Int) + 1 == 0) = false := by simp; omega
        have hc : decide (r.c = 10) = false := by
          rw [decide_eq_false_iff_not]
          intro e
          apply hq
          rw [← HX.out, e]
          rfl
        have HR := Lib.hid hc
        clear hc
        go_wp2_with (at_builtin; refine wpList_append_ex rfl (.tmp 25) (.tmp 31) 62 rfl _ (app_up Try.underlying62 hi hz0 hz1 hz2 rfl (by decide) (by decide) (U2.out.alloc _) (src_three _ _ _ _ _) three_one (by omega)) ?_; intro v3 w3 hu3; obtain ⟨a3, cap3, rfl, -, -, -⟩ := row_form hu3.1; have U3 := Lib.hid hu3; clear hu3)
        go_ret
        refine ⟨a3, m + 1 + 1, cap3, ?_, rfl, ?_⟩ <;> rw [charsL_not (list_ne hz) (by rw [HCC.out, HE.out, HR.out]), HCC.out, HL.out]
        · rw [List.length_append, ← HN.out]
          rfl
        · have h := U3.out
          rw [rcells_push (x := 10) (y := (s.size : Int)) (z := (s.size : Int)) (r := ⟨10, s.size, s.size⟩) rfl rfl rfl] at h
          unfold RRow
          rw [List.length_append, ← HN.out]
          exact h
  · have hzi : ¬ (0 : Int) < (s.size : Int) := by omega
    go_wp2
    go_ret
    have e1 := list_nil hz
    have e2 : C = [] := List.eq_nil_of_length_eq_zero (by have := HN.out; omega)
    subst e2
    have e3 : charsL s.data.toList = [] := by unfold charsL; rw [if_pos e1]
    rw [e3]
    refine ⟨a2, n, cap2, HN.out, rfl, ?_⟩
    have h := U2.out
    have e4 : n = 0 := HN.out
    subst e4
    exact h

end Go.Proofs.Ytpnboieppkjfnaa
