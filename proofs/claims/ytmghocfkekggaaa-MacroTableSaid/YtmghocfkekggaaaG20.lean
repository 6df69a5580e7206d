/-
  Texts of the proof, put together: McHead.
-/
import Derived.Test.YtmghocfkekggaaaG19

/-
  The row of parameters: the reader's head.
-/
namespace Go.Proofs.Ytmghocfkekggaaa
open Go.RowKit Go.Maps

theorem mtake_yes {W : World} {p mb : Nat} {m : Xm} {pv bv : Value} {R R' : List Xt} {rv : Value} {w : World} (h : Rd W p mb m pv bv R rv w) {s : ByteArray} (hs : takeL s R = some R') :
    Calls Try.prog 52 #[.pointer (some ⟨p, 0, none⟩), .string s] w (RdEnd W p mb true m R') := by
  have := mtake_any h s
  rw [hs] at this
  exact this
theorem mtake_no {W : World} {p mb : Nat} {m : Xm} {pv bv : Value} {R : List Xt} {rv : Value} {w : World} (h : Rd W p mb m pv bv R rv w) {s : ByteArray} (hs : takeL s R = none) :
    Calls Try.prog 52 #[.pointer (some ⟨p, 0, none⟩), .string s] w (RdEnd W p mb false m R) := by
  have := mtake_any h s
  rw [hs] at this
  exact this
theorem mparam_nil {W : World} {p mb : Nat} {m : Xm} {pv bv : Value} {rv : Value} {w : World} (h : Rd W p mb m pv bv [] rv w) :
    Calls Try.prog 54 #[.pointer (some ⟨p, 0, none⟩)] w (RdEnd W p mb false m []) := mparam_any h
theorem mparam_no {W : World} {p mb : Nat} {m : Xm} {pv bv : Value} {t : Xt} {r : List Xt} {rv : Value} {w : World} (h : Rd W p mb m pv bv (t :: r) rv w) (hb : parB m.ps t = false) :
    Calls Try.prog 54 #[.pointer (some ⟨p, 0, none⟩)] w (fun e w' => ∃ R', RdEnd W p mb false m R' e w') := by
  refine (mparam_any h).mono fun e w' hp => ?_
  unfold ParPost at hp
  simpa [hb] using hp
theorem mparam_yes {W : World} {p mb : Nat} {m : Xm} {pv bv : Value} {t : Xt} {r : List Xt} {rv : Value} {w : World} (h : Rd W p mb m pv bv (t :: r) rv w) (hb : parB m.ps t = true) :
    Calls Try.prog 54 #[.pointer (some ⟨p, 0, none⟩)] w (RdEnd W p mb true { m with ps := m.ps ++ [t.x] } r) := by
  refine (mparam_any h).mono fun e w' hp => ?_
  unfold ParPost at hp
  simpa [hb] using hp
theorem mtake_len {s : ByteArray} {R R' : List Xt} (h : takeL s R = some R') : R'.length + 1 = R.length := by
  match R, h with
  | t :: r, h =>
    have h' : (if isX t s = true then some r else none) = some R' := h
    split at h'
    · cases h'; rfl
    · cases h'

abbrev hm (nm : ByteArray) (fn va : Bool) (ps : List ByteArray) (g : ByteArray) (f t : Int) : Xm := ⟨nm, fn, va, ps, [], g, f, t⟩

/-- How much is not read. -/
def restLen (p : Nat) (w : World) : Nat := match w.cell? ⟨p, 8, none⟩ with
  | some (.slice _ n _) => n
  | _ => 0
theorem Rd.restLen {W : World} {p mb : Nat} {m : Xm} {pv bv : Value} {R : List Xt} {rv : Value} {w : World} (h : Rd W p mb m pv bv R rv w) : restLen p w = R.length := by
  obtain ⟨a, n, cap, rfl⟩ := h.rest.form
  obtain ⟨-, -, -, -, -, -, -, -, k8, -⟩ := h.cells
  unfold Go.Proofs.Ytmghocfkekggaaa.restLen
  rw [k8]
  exact h.rest.len.1

def Failed (W : World) (p mb : Nat) (g : ByteArray) (f t : Int) (e : Ending) (w' : World) : Prop :=
  e = .returned (.bool false) ∧ ∃ m' R' pv bv rv, m'.g = g ∧ m'.f = f ∧ m'.t = t ∧ Rd W p mb m' pv bv R' rv w'
def RowPost (W : World) (p mb : Nat) (nm g : ByteArray) (f t : Int) : Option (Bool × List ByteArray × List Xt) → Ending → World → Prop
  | none => Failed W p mb g f t
  | some (va, ps, q) => RdEnd W p mb true (hm nm true va ps g f t) q
def HeadPost (W : World) (p mb : Nat) (nm g : ByteArray) (f t : Int) : Option (Bool × Bool × List ByteArray × List Xt) → Ending → World → Prop
  | none => Failed W p mb g f t
  | some (fn, va, ps, q) => RdEnd W p mb true (hm nm fn va ps g f t) q
theorem mhead_row {W : World} {p mb : Nat} {nm g : ByteArray} {f t : Int} {X : Option (Bool × List ByteArray × List Xt)} {e : Ending} {w' : World} (h : RowPost W p mb nm g f t X e w') : HeadPost W p mb nm g f t (X.map fun x => (true, x.1, x.2.1, x.2.2)) e w' := by
  cases X with
  | none => exact h
  | some x => exact h
theorem headL_open {t : Xt} {r : List Xt} (h : t.sp = false) (h' : isX t oB = true) : headL (t :: r) = match takeL cB r with
    | some q => some (true, false, [], q)
    | none => (rowL [] r).map fun x => (true, x.1, x.2.1, x.2.2) := by
  unfold headL
  simp only [h, h', and_self, if_true]
  match r with
  | [] => rfl
  | u :: q =>
    cases hc : isX u cB with
    | true => simp [takeL_yes hc, hc]
    | false => simp [takeL_no hc, hc]
theorem headL_shut {t : Xt} {r : List Xt} (h : t.sp = true ∨ isX t oB = false) : headL (t :: r) = some (false, false, [], t :: r) := by
  unfold headL
  rcases h with h | h <;> simp [h]

/-- The round's state. -/
def HeadRel (W : World) (p mb : Nat) (nm g : ByteArray) (f t : Int) (X : Option (Bool × List ByteArray × List Xt)) (s : Value) (w : World) : Prop :=
  s = .bool false ∧ ∃ ps R pv bv rv, Rd W p mb (hm nm true false ps g f t) pv bv R rv w ∧ rowL ps R = X ∧ memB vaB ps = false
theorem mrow_va {W : World} {p mb : Nat} {nm g : ByteArray} {f t : Int} {ps : List ByteArray} {pv bv : Value} {R : List Xt} {rv : Value} {w : World} (h : Rd W p mb (hm nm true false ps g f t) pv bv R rv w) : Rd W p mb (hm nm true true ps g f t) pv bv R rv (w.setCell ⟨p, 2, none⟩ (.bool true)) := by
  have ho := h.obj
  unfold rdObj at ho
  exact h.put 2 _ ((heap_setCell_same w p 2 _ _ _ ho).trans rfl) rfl h.rest (Nat.le_refl _) (fun _ hu => hu)
theorem mrow_fn {W : World} {p mb : Nat} {nm g : ByteArray} {f t : Int} {ps : List ByteArray} {pv bv : Value} {R : List Xt} {rv : Value} {w : World} (h : Rd W p mb (hm nm false false ps g f t) pv bv R rv w) : Rd W p mb (hm nm true false ps g f t) pv bv R rv (w.setCell ⟨p, 1, none⟩ (.bool true)) := by
  have ho := h.obj
  unfold rdObj at ho
  exact h.put 1 _ ((heap_setCell_same w p 1 _ _ _ ho).trans rfl) rfl h.rest (Nat.le_refl _) (fun _ hu => hu)

set_option maxRecDepth 100000 in
set_option maxHeartbeats 6400000 in
theorem mhead_any {W : World} {p mb : Nat} {nm g : ByteArray} {f t : Int} {pv bv : Value} {T : List Xt} {rv : Value} {w : World} (h : Rd W p mb (hm nm false false [] g f t) pv bv T rv w) :
    Calls Try.prog 37 #[.pointer (some ⟨p, 0, none⟩)] w (HeadPost W p mb nm g f t (headL T)) := by
  obtain ⟨a, n, cap, rfl⟩ := h.rest.form
  obtain ⟨-, -, -, -, -, -, -, -, k8, -⟩ := h.cells
  match T, h with
  | [], h =>
    obtain rfl : n = 0 := h.rest.len.1
    have HR := Lib.hid h
    clear h
    go_enter Try.func37, Try.ntmps37
    go_wp2
    go_ret
    exact ⟨rfl, _, _, _, HR.out⟩
  | x :: r, h =>
    obtain ⟨b, o, o', sa, sn, sc, rfl, hn1, hc1, hc2, hx, hr, hrun⟩ := h.first
    obtain ⟨c0, c1, c2, c3, c4, c5, c6, c7⟩ := hx
    have HR := Lib.hid h
    have hne : ((n : Int) == 0) = false := by simp; omega
    cases hsp : x.sp with
    | true =>
      rw [headL_shut (.inl hsp)]
      clear h hr
      go_enter Try.func37, Try.ntmps37
      go_wp2
      go_ret
      exact ⟨rfl, _, _, _, HR.out⟩
    | false =>
      cases hop : isX x oB with
      | false =>
        rw [headL_shut (.inr hop)]
        have HO := Lib.hid (takeL_no (r := r) hop)
        clear h hr hop
        go_enter Try.func37, Try.ntmps37
        go_wp2_with (go_at_call 52; (with_reducible refine (mtake_no HR.out HO.out).mono ?_); rintro e w1 ⟨rfl, pv1, bv1, rv1, hd1⟩; have HR1 := Lib.hid hd1; clear hd1)
        go_ret
        exact ⟨rfl, _, _, _, HR1.out⟩
      | true =>
        rw [headL_open hsp hop]
        have HO := Lib.hid (takeL_yes (r := r) hop)
        clear h hr hop
        cases hc : takeL cB r with
        | some q =>
          have HC := Lib.hid hc
          clear hc
          go_enter Try.func37, Try.ntmps37
          go_wp2_with (go_at_call 52; first
            | ((with_reducible refine (mtake_yes HR.out HO.out).mono ?_); rintro e w1 ⟨rfl, pv1, bv1, rv1, hd1⟩; (obtain ⟨-, q1, -⟩ := hd1.cells); have z1 := hd1.free 1; have HR1 := Lib.hid (mrow_fn hd1); clear hd1)
            | ((with_reducible refine (mtake_yes HR1.out HC.out).mono ?_); rintro e w2 ⟨rfl, pv2, bv2, rv2, hd2⟩; have HR2 := Lib.hid hd2; clear hd2))
          go_ret
          exact ⟨rfl, _, _, _, HR2.out⟩
        | none =>
          have HC := Lib.hid hc
          clear hc
          refine Calls.mono (?_ : Calls Try.prog 37 #[.pointer (some ⟨p, 0, none⟩)] w (RowPost W p mb nm g f t (rowL [] r))) fun e w' h => mhead_row h
          obtain ⟨X, hX⟩ : ∃ X, rowL [] r = X := ⟨_, rfl⟩
          rw [hX]
          have HX := Lib.hid hX
          clear hX
          go_enter Try.func37, Try.ntmps37
          go_wp2_with (go_at_call 52; first
            | ((with_reducible refine (mtake_yes HR.out HO.out).mono ?_); rintro e w1 ⟨rfl, pv1, bv1, rv1, hd1⟩; (obtain ⟨-, q1, -⟩ := hd1.cells); have z1 := hd1.free 1; have HR1 := Lib.hid (mrow_fn hd1); clear hd1)
            | ((with_reducible refine (mtake_no HR1.out HC.out).mono ?_); rintro e w2 ⟨rfl, pv2, bv2, rv2, hd2⟩; have HR2 := Lib.hid hd2; clear hd2))
          go_loopw [2] (HeadRel W p mb nm g f t X) (fun _ wr => restLen p wr)
          case atStart => exact ⟨rfl, _, _, _, _, _, HR2.out, HX.out, rfl⟩
          case round =>
            obtain ⟨rfl, ps, R, pv3, bv3, rv3, hd3, hrow, hva⟩ := hrel
            rw [rowL_take] at hrow
            have HR3 := Lib.hid hd3
            have HVA := Lib.hid hva
            have HFT := Lib.hid hd3.fit
            have HL := Lib.hid hd3.restLen
            clear hd3 hva
            cases hE : takeL eB R with
            | some R1 =>
              rw [hE] at hrow
              have HE := Lib.hid hE
              have HAD : Hid (∀ (pv bv rv : Value) (X : World), Rd W p mb (hm nm true true ps g f t) pv bv R1 rv X → Calls Try.prog 53 #[.pointer (some ⟨p, 0, none⟩), .string vaB] X (RdEnd W p mb true (hm nm true true (ps ++ [vaB]) g f t) R1)) := Lib.hid (fun pv bv rv X hX => by
                have h1 := madd_any hX vaB (by decide) (by
                  have h1 := mtake_len HE.out
                  have h2 := HFT.out
                  simp only at h2 ⊢
                  omega)
                rw [show memB vaB (hm nm true true ps g f t).ps = false from HVA.out] at h1
                exact h1)
              cases hC2 : takeL cB R1 with
              | some q =>
                have HROW : Hid (some (true, ps ++ [vaB], q) = X) := Lib.hid (by simpa [hC2] using hrow)
                have HC2 := Lib.hid hC2
                clear hE hC2 hrow
                go_wp2_with (first
                  | (go_at_call 52; first
                    | ((with_reducible refine (mtake_yes HR3.out HE.out).mono ?_); rintro e w4 ⟨rfl, pv4, bv4, rv4, hd4⟩; (obtain ⟨-, -, q2, -⟩ := hd4.cells); have z2 := hd4.free 2; have HR4 := Lib.hid (mrow_va hd4); clear hd4)
                    | ((with_reducible refine (mtake_yes HR5.out HC2.out).mono ?_); rintro e w6 ⟨rfl, pv6, bv6, rv6, hd6⟩; have HR6 := Lib.hid hd6; clear hd6))
                  | (go_at_call 53; (with_reducible refine (HAD.out _ _ _ _ HR4.out).mono ?_); rintro e w5 ⟨rfl, pv5, bv5, rv5, hd5⟩; have HR5 := Lib.hid hd5; clear hd5))
                go_ret
                rw [← HROW.out]
                exact ⟨rfl, _, _, _, HR6.out⟩
              | none =>
                have HROW : Hid (none = X) := Lib.hid (by simpa [hC2] using hrow)
                have HC2 := Lib.hid hC2
                clear hE hC2 hrow
                go_wp2_with (first
                  | (go_at_call 52; first
                    | ((with_reducible refine (mtake_yes HR3.out HE.out).mono ?_); rintro e w4 ⟨rfl, pv4, bv4, rv4, hd4⟩; (obtain ⟨-, -, q2, -⟩ := hd4.cells); have z2 := hd4.free 2; have HR4 := Lib.hid (mrow_va hd4); clear hd4)
                    | ((with_reducible refine (mtake_no HR5.out HC2.out).mono ?_); rintro e w6 ⟨rfl, pv6, bv6, rv6, hd6⟩; have HR6 := Lib.hid hd6; clear hd6))
                  | (go_at_call 53; (with_reducible refine (HAD.out _ _ _ _ HR4.out).mono ?_); rintro e w5 ⟨rfl, pv5, bv5, rv5, hd5⟩; have HR5 := Lib.hid hd5; clear hd5))
                go_ret
                rw [← HROW.out]
                exact ⟨rfl, _, _, _, _, _, rfl, rfl, rfl, HR6.out⟩
            | none =>
              rw [hE] at hrow
              have HE := Lib.hid hE
              match R, HR3, HE, hrow, HL with
              | [], HR3, HE, hrow, HL =>
                have HROW : Hid (none = X) := Lib.hid hrow
                clear hE hrow
                go_wp2_with (first
                  | (go_at_call 52; (with_reducible refine (mtake_no HR3.out HE.out).mono ?_); rintro e w4 ⟨rfl, pv4, bv4, rv4, hd4⟩; have HR4 := Lib.hid hd4; clear hd4)
                  | (go_at_call 54; (with_reducible refine (mparam_nil HR4.out).mono ?_); rintro e w5 ⟨rfl, pv5, bv5, rv5, hd5⟩; have HR5 := Lib.hid hd5; clear hd5))
                go_ret
                rw [← HROW.out]
                exact ⟨rfl, _, _, _, _, _, rfl, rfl, rfl, HR5.out⟩
              | y :: s, HR3, HE, hrow, HL =>
                cases hP : parB ps y with
                | false =>
                  have HROW : Hid (none = X) := Lib.hid (by simpa [hP] using hrow)
                  have HP := Lib.hid hP
                  clear hE hrow hP
                  go_wp2_with (first
                    | (go_at_call 52; (with_reducible refine (mtake_no HR3.out HE.out).mono ?_); rintro e w4 ⟨rfl, pv4, bv4, rv4, hd4⟩; have HR4 := Lib.hid hd4; clear hd4)
                    | (go_at_call 54; (with_reducible refine (mparam_no HR4.out HP.out).mono ?_); rintro e w5 ⟨R5, rfl, pv5, bv5, rv5, hd5⟩; have HR5 := Lib.hid hd5; clear hd5))
                  go_ret
                  rw [← HROW.out]
                  exact ⟨rfl, _, _, _, _, _, rfl, rfl, rfl, HR5.out⟩
                | true =>
                  have HP := Lib.hid hP
                  cases hC2 : takeL cB s with
                  | some q =>
                    have HROW : Hid (some (false, ps ++ [y.x], q) = X) := Lib.hid (by simpa [hP, hC2] using hrow)
                    have HC2 := Lib.hid hC2
                    clear hE hrow hP hC2
                    go_wp2_with (first
                      | (go_at_call 52; first
                        | ((with_reducible refine (mtake_no HR3.out HE.out).mono ?_); rintro e w4 ⟨rfl, pv4, bv4, rv4, hd4⟩; have HR4 := Lib.hid hd4; clear hd4)
                        | ((with_reducible refine (mtake_yes HR5.out HC2.out).mono ?_); rintro e w6 ⟨rfl, pv6, bv6, rv6, hd6⟩; have HR6 := Lib.hid hd6; clear hd6))
                      | (go_at_call 54; (with_reducible refine (mparam_yes HR4.out HP.out).mono ?_); rintro e w5 ⟨rfl, pv5, bv5, rv5, hd5⟩; have HR5 := Lib.hid hd5; clear hd5))
                    go_ret
                    rw [← HROW.out]
                    exact ⟨rfl, _, _, _, HR6.out⟩
                  | none =>
                    have HC2 := Lib.hid hC2
                    cases hK : takeL kB s with
                    | some q =>
                      have HROW : Hid (rowL (ps ++ [y.x]) q = X) := Lib.hid (by simpa [hP, hC2, hK] using hrow)
                      have HK := Lib.hid hK
                      have HVB : Hid (memB vaB (ps ++ [y.x]) = false) := Lib.hid (by
                        rw [memB_more, HVA.out]
                        unfold parB at hP
                        simp only [Bool.and_eq_true, Bool.not_eq_true', decide_eq_false_iff_not] at hP
                        simpa using hP.1.2)
                      clear hE hrow hP hC2 hK
                      go_wp2_with (first
                        | (go_at_call 52; first
                          | ((with_reducible refine (mtake_no HR3.out HE.out).mono ?_); rintro e w4 ⟨rfl, pv4, bv4, rv4, hd4⟩; have HR4 := Lib.hid hd4; clear hd4)
                          | ((with_reducible refine (mtake_no HR5.out HC2.out).mono ?_); rintro e w6 ⟨rfl, pv6, bv6, rv6, hd6⟩; have HR6 := Lib.hid hd6; clear hd6)
                          | ((with_reducible refine (mtake_yes HR6.out HK.out).mono ?_); rintro e w7 ⟨rfl, pv7, bv7, rv7, hd7⟩; have HR7 := Lib.hid hd7; clear hd7))
                        | (go_at_call 54; (with_reducible refine (mparam_yes HR4.out HP.out).mono ?_); rintro e w5 ⟨rfl, pv5, bv5, rv5, hd5⟩; have HR5 := Lib.hid hd5; clear hd5))
                      go_roundw
                      case rel => exact ⟨rfl, _, _, _, _, _, HR7.out, HROW.out, HVB.out⟩
                      case measure =>
                        have h1 := HR7.out.restLen
                        have h2 := HL.out
                        have h3 := mtake_len HK.out
                        simp only [List.length_cons] at h2
                        omega
                    | none =>
                      have HROW : Hid (none = X) := Lib.hid (by simpa [hP, hC2, hK] using hrow)
                      have HK := Lib.hid hK
                      clear hE hrow hP hC2 hK
                      go_wp2_with (first
                        | (go_at_call 52; first
                          | ((with_reducible refine (mtake_no HR3.out HE.out).mono ?_); rintro e w4 ⟨rfl, pv4, bv4, rv4, hd4⟩; have HR4 := Lib.hid hd4; clear hd4)
                          | ((with_reducible refine (mtake_no HR5.out HC2.out).mono ?_); rintro e w6 ⟨rfl, pv6, bv6, rv6, hd6⟩; have HR6 := Lib.hid hd6; clear hd6)
                          | ((with_reducible refine (mtake_no HR6.out HK.out).mono ?_); rintro e w7 ⟨rfl, pv7, bv7, rv7, hd7⟩; have HR7 := Lib.hid hd7; clear hd7))
                        | (go_at_call 54; (with_reducible refine (mparam_yes HR4.out HP.out).mono ?_); rintro e w5 ⟨rfl, pv5, bv5, rv5, hd5⟩; have HR5 := Lib.hid hd5; clear hd5))
                      go_ret
                      rw [← HROW.out]
                      exact ⟨rfl, _, _, _, _, _, rfl, rfl, rfl, HR7.out⟩

end Go.Proofs.Ytmghocfkekggaaa
