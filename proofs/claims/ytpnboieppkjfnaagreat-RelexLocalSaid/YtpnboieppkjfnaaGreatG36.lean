/-
  Texts of the proof, put together: ReE.
-/
import Derived.Test.YtpnboieppkjfnaaGreatG35

/-
  lex of an anew, walked.
-/
namespace Go.Proofs.YtpnboieppkjfnaaGreat
open Go.RowKit

/-- Lines and diagnostics in rows that are new. -/
def RowsP (W : World) (F : ByteArray) (R : Acc) (e : Ending) (w' : World) : Prop :=
  ∃ la n lc da m dc, e = .returned (.tuple #[.slice la n lc, .slice da m dc]) ∧ LRow W F 87 (.slice la n lc) R.lines w' ∧ DRow W F (.slice da m dc) R.diags w'

theorem lines_at (l : List UInt8) (h : l.length ≤ 70000) (W : World) : Calls Tryz.prog 88 #[.string ⟨#[]⟩, .string ⟨l.toArray⟩] W (RowsP W Efile (FL l)) := by
  have := lines_any ⟨#[]⟩ ⟨l.toArray⟩ W (by show l.toArray.size ≤ _; simp; omega) (by decide)
  refine this.mono ?_
  rintro e w' ⟨la, n, lc, da, m, dc, rfl, -, -, h1, h2⟩
  rw [show (⟨l.toArray⟩ : ByteArray).data.toList = l from by simp, show (⟨l.toArray⟩ : ByteArray).size = l.length from by show l.toArray.size = _; simp] at h1 h2
  exact ⟨la, n, lc, da, m, dc, rfl, h1, h2⟩

def tailN (E : AE) (n : Nat) : List UInt8 := seg E.l (plaN E n) (plaN E (n + 1))

def LSpec (E : AE) (f n n' : Nat) : Prop :=
  n ≤ n' ∧ n' ≤ E.Ts.length ∧ (n' = E.Ts.length ∨ opnA (FL (partN E f n')) = false) ∧ (n' = n ∨ opnA (FL (partN E f n)) = true)
def LxPost (E : AE) (f n : Nat) (w : World) (e : Ending) (w' : World) : Prop :=
  ∃ n', E.At f n' w' ∧ LSpec E f n n' ∧ Below w.heap.size w w' ∧ RowsP w Efile (FL (partN E f n')) e w'

def LMid (E : AE) (f n m : Nat) (wb : Bool) : Prop := n ≤ m ∧ m ≤ E.Ts.length ∧ (m = E.Ts.length ∨ opnA (FL (partN E f m)) = wb)

theorem LRow.lower {W X : World} {F : ByteArray} {T : TypeId} {v : Value} {lines : List Ln} {w : World} (h : LRow X F T v lines w) (b : Below W.heap.size W X) : LRow W F T v lines w := by
  obtain ⟨P, h1, h2, h3⟩ := h
  exact ⟨P, h1, Up.lower h2 b, fun p hp => Up.lower (h3 p hp) b⟩
theorem RowsP.lower {W X : World} {F : ByteArray} {R : Acc} {e : Ending} {w : World} (h : RowsP X F R e w) (b : Below W.heap.size W X) : RowsP W F R e w := by
  obtain ⟨la, n, lc, da, m, dc, h1, h2, h3⟩ := h
  exact ⟨la, n, lc, da, m, dc, h1, h2.lower b, Up.lower h3 b⟩

set_option maxRecDepth 100000 in
set_option maxHeartbeats 3200000 in
theorem lexA_any {E : AE} {f n : Nat} {W w : World} (hW : Below W.heap.size W w) (haW : W.heap.size ≤ E.a) (h : E.At f n w) (ho : E.Ok) (hg : E.Geo) (hf : f ≤ E.lf) (hn0 : E.n0 ≤ n) (hn : n ≤ E.Ts.length) (hop : ∀ m, n ≤ m → m + 1 < E.Ts.length → opnA (FL (partN E f m)) = true → opnA (FL (partN E f (m + 1))) = opnA (FL ([47, 42] ++ tailN E m))) (hpm : ∀ m, n ≤ m → m < E.Ts.length → plaN E m ≤ plaN E (m + 1)) :
    Calls Tryz.prog 69 #[.pointer (some ⟨E.a, 0, none⟩)] w (LxPost E f n W) := by
  have HW := Lib.hid hW
  have hnot : ∀ (x : Bool) (w : World), (Op.unary .not (.bool x)).run Tryz.prog w = .ok (.bool (!x)) w := fun _ _ => rfl
  have hnew := ho.new
  have hlen := h.len
  have hpl := partN_len E f n
  have HPA : Hid (∀ X : World, Below w.heap.size w X → Calls Tryz.prog 87 #[.pointer (some ⟨E.a, 0, none⟩)] X (fun e w' => e = .returned (.string ⟨(partN E f n).toArray⟩) ∧ Below X.heap.size X w')) := Lib.hid (fun X hX => part_at (h.below hX) ho hg hf hn0 hn)
  have HLN : Hid (∀ X : World, Calls Tryz.prog 88 #[.string ⟨#[]⟩, .string ⟨(partN E f n).toArray⟩] X (RowsP X Efile (FL (partN E f n)))) := Lib.hid (fun X => lines_at _ (by omega) X)
  obtain ⟨ad, cap, hev, hc1, hc2, -⟩ := krow_form h.row
  have ha := h.cells.1
  have HA := Lib.hid h
  have HO := Lib.hid ho
  have HGE := Lib.hid hg
  have HOP := Lib.hid hop
  have HPM := Lib.hid hpm
  have HEV := Lib.hid hev
  have HLEN := Lib.hid hlen
  unfold maxLen at hc2
  clear h ho hg hop hpm hev hpl hlen
  go_enter Tryz.func69, Tryz.ntmps69
  go_wp2_with (first
    | (go_at_call 87; (with_reducible refine (HPA.out _ (Below.refl _ _)).mono ?_); rintro e w1 ⟨rfl, b1⟩; have HB1 := Lib.hid b1; clear b1)
    | (go_at_call 88; (with_reducible refine (HLN.out _).mono ?_); rintro e w2 ⟨la, ln, lc, da, dn, dc, rfl, hl, hd⟩; have HL := Lib.hid hl; have HD := Lib.hid hd; clear hl hd))
  have HB2 : Hid (Below w.heap.size w w2) := Lib.hid (below_up HB1.out HL.out.low)
  have HA2 := Lib.hid (HA.out.below HB2.out)
  obtain ⟨-, c0, -, -, -, c6⟩ := HA2.out.cells
  rw [HEV.out] at c0
  have hat : LinesAt Efile (FL (partN E f n)).lines (.slice la ln lc) w2 := HL.out.at
  have HFI : Hid (∀ X : World, Below w2.heap.size w2 X → LSpec E f n n → LxPost E f n W (.returned (.tuple #[.slice la ln lc, .slice da dn dc])) X) := Lib.hid (fun X hX hs => ⟨n, HA2.out.below hX, hs, below_up (below_up HW.out HB2.out) hX, la, ln, lc, da, dn, dc, rfl, (HL.out.lower (below_up HW.out HB1.out)).over hX, DRow.over (Up.lower HD.out (below_up HW.out HB1.out)) hX⟩)
  have hE : (E.K.length : Int) = (E.Ts.length : Int) := by have := HLEN.out; omega
  by_cases hlt : n = E.Ts.length
  · have hI : ((n : Int) == (E.K.length : Int)) = true := by rw [beq_iff_eq]; omega
    have HS : Hid (LSpec E f n n) := Lib.hid ⟨Nat.le_refl _, hn, .inl hlt, .inl rfl⟩
    clear hat hlt hE
    go_quiet (fail)
    go_wp2
    go_ret2
    exact HFI.out _ (Below.of_drews _ _) HS.out
  · have hI : ((n : Int) == (E.K.length : Int)) = false := by rw [beq_eq_false_iff_ne]; omega
    cases hop : opnA (FL (partN E f n)) with
    | false =>
      have HS : Hid (LSpec E f n n) := Lib.hid ⟨Nat.le_refl _, hn, .inr hop, .inl rfl⟩
      have HOPN : Hid (∀ X : World, Below w2.heap.size w2 X → Calls Tryz.prog 89 #[.slice la ln lc] X (BoolPost false X)) := Lib.hid (fun X hX => by
        have h := open_any (LinesAt.next hat hX)
        rw [← opnA_ln, hop] at h
        exact h)
      clear hat hlt hE hop
      go_quiet ((go_at_call 89; exact quiet_bool (HOPN.out _ (Below.of_drews _ _))))
      go_wp2
      go_ret2
      exact HFI.out _ (Below.of_drews _ _) HS.out
    | true =>
      have HOPN : Hid (∀ X : World, Below w2.heap.size w2 X → Calls Tryz.prog 89 #[.slice la ln lc] X (BoolPost true X)) := Lib.hid (fun X hX => by
        have h := open_any (LinesAt.next hat hX)
        rw [← opnA_ln, hop] at h
        exact h)
      have HM0 : Hid (LMid E f n n true) := Lib.hid ⟨Nat.le_refl _, hn, .inr hop⟩
      have HOP0 := Lib.hid hop
      have HLT := Lib.hid hlt
      clear hat hlt hE hop
      go_quiet ((go_at_call 89; exact quiet_bool (HOPN.out _ (Below.of_drews _ _))))
      obtain ⟨w3, hw3⟩ : ∃ w3, w2.drewN nq = w3 := ⟨_, rfl⟩
      have HB3 : Hid (Below w.heap.size w w3) := Lib.hid (by rw [← hw3]; exact below_up HB2.out (Below.of_drews _ _))
      have HA3 : Hid (E.At f n w3) := Lib.hid (HA.out.below HB3.out)
      rw [hw3]
      clear hw3 c0 c6 HFI HOPN HL HD HB2 HA2 HB1
      go_wp2
      go_loopg [6] (E.Ts.length) (fun gk t wr => ∃ (wb : Bool) (m : Nat), t = .bool wb ∧ E.At f m wr ∧ LMid E f n m wb ∧ E.Ts.length - m ≤ gk ∧ Below W.heap.size W wr)
      case atStart => exact ⟨true, n, rfl, HA3.out, HM0.out, Nat.sub_le _ _, below_up HW.out HB3.out⟩
      case round =>
        obtain ⟨wb, m, rfl, hA, hM, hgk, hB⟩ := hrel
        have hM' := hM
        obtain ⟨m1, m2, m3⟩ := hM'
        obtain ⟨ha2, c0, -, -, -, c6⟩ := hA.cells
        rw [HEV.out] at c0
        have hE : E.K.length = E.Ts.length := HLEN.out
        have HM := Lib.hid hM
        have HGK := Lib.hid hgk
        have HB := Lib.hid hB
        have HA := Lib.hid hA
        have hplm := partN_len E f m
        have HPAm : Hid (∀ X : World, Below wr.heap.size wr X → Calls Tryz.prog 87 #[.pointer (some ⟨E.a, 0, none⟩)] X (fun e w' => e = .returned (.string ⟨(partN E f m).toArray⟩) ∧ Below X.heap.size X w')) := Lib.hid (fun X hX => part_at (hA.below hX) HO.out HGE.out hf (Nat.le_trans hn0 m1) m2)
        have HLNm : Hid (∀ X : World, Calls Tryz.prog 88 #[.string ⟨#[]⟩, .string ⟨(partN E f m).toArray⟩] X (RowsP X Efile (FL (partN E f m)))) := Lib.hid (fun X => lines_at _ (by omega) X)
        by_cases hgo : wb = true ∧ m < E.Ts.length
        · obtain ⟨rfl, hlt⟩ := hgo
          have hop : opnA (FL (partN E f m)) = true := by
            rcases m3 with h | h
            · omega
            · exact h
          have hpl1 := (HGE.out.place m (Nat.le_trans hn0 m1) m2)
          have hpl2 := (HGE.out.place (m + 1) (by omega) hlt)
          have HP0 : Hid (∀ X : World, Below wr.heap.size wr X → Calls Tryz.prog 91 #[.pointer (some ⟨E.a, 0, none⟩), .int .i64 (m : Int)] X (NatBel (plaN E m) X)) := Lib.hid (fun X hX => place_any (HA.out.below hX) HO.out m m2 hpl1.1)
          have HP1 : Hid (∀ X : World, Below wr.heap.size wr X → Calls Tryz.prog 91 #[.pointer (some ⟨E.a, 0, none⟩), .int .i64 ((m : Int) + 1)] X (NatBel (plaN E (m + 1)) X)) := Lib.hid (fun X hX => place_any (HA.out.below hX) HO.out (m + 1) hlt hpl2.1)
          obtain ⟨tb, htb⟩ : ∃ tb : ByteArray, (⟨(tailN E m).toArray⟩ : ByteArray) = tb := ⟨_, rfl⟩
          have htl : tb.data.toList = tailN E m := by rw [← htb]
          have htz : tb.size = (tailN E m).length := by rw [← htb]; rfl
          have htm : (tailN E m).length ≤ E.l.length := by unfold tailN seg; rw [List.length_take, List.length_drop]; omega
          have HSL : Hid (∀ X : World, Below wr.heap.size wr X → Calls Tryz.prog 90 #[.pointer (some ⟨E.a, 0, none⟩), .int .i64 (plaN E m : Int), .int .i64 (plaN E (m + 1) : Int)] X (fun e w' => e = .returned (.string tb) ∧ Below X.heap.size X w')) := Lib.hid (fun X hX => htb ▸ sliceA_any (HA.out.below hX) HO.out _ _ (HPM.out m m1 hlt) hpl2.2)
          have HLT : Hid (∀ X : World, Calls Tryz.prog 88 #[.string ⟨#[]⟩, .string (⟨#[47, 42]⟩ ++ tb)] X (RowsP X Efile (FL ([47, 42] ++ tailN E m)))) := Lib.hid (fun X => by
            have h := lines_at ([47, 42] ++ tailN E m) (by rw [List.length_append]; simp; omega) X
            have e : (⟨([47, 42] ++ tailN E m).toArray⟩ : ByteArray) = ⟨#[47, 42]⟩ ++ tb := by
              rw [← htb]
              apply ByteArray.ext
              simp [ByteArray.data_append]
            rw [e] at h
            exact h)
          have hbig : ((⟨#[47, 42]⟩ : ByteArray).size + tb.size > 9223372036854775807) = False := by
            rw [htz]
            exact eq_false (by show ¬ (2 + _ > _); omega)
          have hbig2 : (2 + tb.size > 9223372036854775807) = False := by
            rw [htz]
            exact eq_false (by omega)
          have hbig3 : tb.size ≤ 70000 := by rw [htz]; omega
          have hwn : IntKind.i64.wrap ((m : Int) + 1) = (m : Int) + 1 := IntWalk.i64_in _ (by have := HGE.out.few; omega)
          have hI : decide (m < E.K.length) = true := decide_eq_true (by omega)
          have hJ : (m : Int) < (E.K.length : Int) := by omega
          have HNX : Hid (∀ (X : World) (b : Bool), E.At f m X → Below W.heap.size W X → opnA (FL ([47, 42] ++ tailN E m)) = b → ∃ (wb : Bool) (m' : Nat), Value.bool b = .bool wb ∧ E.At f m' (X.setCell ⟨E.a, 6, none⟩ (.int .i64 ((m : Int) + 1))) ∧ LMid E f n m' wb ∧ E.Ts.length - m' ≤ E.Ts.length - (m + 1) ∧ Below W.heap.size W (X.setCell ⟨E.a, 6, none⟩ (.int .i64 ((m : Int) + 1)))) := Lib.hid (fun X b hX hbX hb => by
            refine ⟨b, m + 1, rfl, hX.set (f' := f) (n' := m + 1) (j := 6) (v := (m : Int) + 1) rfl, ⟨by omega, hlt, ?_⟩, Nat.le_refl _, hbX.setCell haW _⟩
            by_cases he : m + 1 = E.Ts.length
            · exact .inl he
            · exact .inr ((HOP.out m m1 (by omega) hop).trans hb))
          have HMS : Hid (E.Ts.length - (m + 1) < E.Ts.length - m) := Lib.hid (by omega)
          obtain ⟨bo, hbo⟩ : ∃ bo, opnA (FL ([47, 42] ++ tailN E m)) = bo := ⟨_, rfl⟩
          have HBO := Lib.hid hbo
          have HI := Lib.hid hI
          clear hbo hop hpl1 hpl2 htb htl htz htm hM hgk hB hA m3 hE hplm
          go_wp2
          go_quiet (fail)
          obtain ⟨x0, hx0⟩ : ∃ x0, wr.drewN nq = x0 := ⟨_, rfl⟩
          have HX0 : Hid (Below wr.heap.size wr x0) := Lib.hid (by rw [← hx0]; exact Below.of_drews _ _)
          have d6 : x0.cell? ⟨E.a, 6, none⟩ = some (.int .i64 (m : Int)) := bcell HX0.out c6 ha2
          have ha3 : E.a < x0.heap.size := Nat.lt_of_lt_of_le ha2 HX0.out.size
          rw [hx0]
          clear hx0 c0 c6
          have HC0 : Hid (x0.drew.cell? ⟨E.a, 6, none⟩ = some (.int .i64 (m : Int))) := Lib.hid d6
          have HXD : Hid (Below wr.heap.size wr x0.drew) := Lib.hid HX0.out.drew
          go_wp2
          go_region_held3 (fun w' => w'.cell? ⟨E.a, 6, none⟩ = some (.int .i64 (m : Int)))
            (first | exact HC0.out | exact HC5.out | exact HC4.out | exact HC3.out | exact HC2.out | exact HC1.out)
            (first
              | (go_at_call 91; first
                  | ((with_reducible refine (HP0.out _ HB2.out).mono ?_); rintro e x3 ⟨rfl, y3⟩; have HC3 := Lib.hid (bcell y3 HC2.out (Nat.lt_of_lt_of_le ha2 HB2.out.size)); have HB3 := Lib.hid (below_up HB2.out y3); clear y3)
                  | ((with_reducible refine (HP1.out _ HB1.out).mono ?_); rintro e x3 ⟨rfl, y3⟩; have HC3 := Lib.hid (bcell y3 HC1.out (Nat.lt_of_lt_of_le ha2 HB1.out.size)); have HB3 := Lib.hid (below_up HB1.out y3); clear y3)
                  | ((with_reducible refine (HP0.out _ HXD.out).mono ?_); rintro e x1 ⟨rfl, y1⟩; have HC1 := Lib.hid (bcell y1 HC0.out ha3); have HB1 := Lib.hid (show Below wr.heap.size wr x1 from below_up HXD.out y1); clear y1)
                  | ((with_reducible refine (HP1.out _ HXD.out).mono ?_); rintro e x2 ⟨rfl, y2⟩; have HC2 := Lib.hid (bcell y2 HC0.out ha3); have HB2 := Lib.hid (show Below wr.heap.size wr x2 from below_up HXD.out y2); clear y2))
              | (go_at_call 90; (with_reducible refine (HSL.out _ HB3.out).mono ?_); rintro e x4 ⟨rfl, y4⟩; have HC4 := Lib.hid (bcell y4 HC3.out (Nat.lt_of_lt_of_le ha2 HB3.out.size)); have HB4 := Lib.hid (below_up HB3.out y4); clear y4)
              | (go_at_call 88; (with_reducible refine (HLT.out _).mono ?_); rintro e x5 ⟨lb, mn, lc2, db, en, dc2, rfl, hl5, hd5⟩; have HL5 := Lib.hid hl5; have HC5 := Lib.hid (bcell hl5.low HC4.out (Nat.lt_of_lt_of_le ha2 HB4.out.size)); have HB5 := Lib.hid (below_up HB4.out hl5.low); clear hl5 hd5))
          all_goals
            have HOB : Hid (Calls Tryz.prog 89 #[.slice lb mn lc2] x5 (BoolPost bo x5)) := Lib.hid (by
              have h := open_any (LRow.at HL5.out)
              rw [← opnA_ln, HBO.out] at h
              exact h)
            have hA5 := HA.out.below HB5.out
            have r6 : x5.cell? ⟨E.a, 6, none⟩ = some (.int .i64 (m : Int)) := HC5.out
            have rz : x5.frozen? ⟨E.a, 6, none⟩ = false := hA5.free 6
            have HA5 := Lib.hid hA5
            clear hA5
            go_wp2_with (go_at_call 89; (with_reducible refine HOB.out.mono ?_); rintro e w' ⟨rfl, rfl⟩)
            go_roundg (E.Ts.length - (m + 1))
            case rel => exact HNX.out _ bo HA5.out (below_up HB.out HB5.out) HBO.out
            case measure => exact Nat.lt_of_lt_of_le HMS.out HGK.out
        · have hs : LSpec E f n m := ⟨m1, m2, by
            by_cases hq : m = E.Ts.length
            · exact .inl hq
            · rcases m3 with h | h
              · exact absurd h hq
              · refine .inr (h.trans ?_)
                cases wb with
                | false => rfl
                | true => exact absurd ⟨rfl, by omega⟩ hgo, .inr HOP0.out⟩
          have HS := Lib.hid hs
          cases wb with
          | false =>
            clear hs hgo hM hgk hB hA m3 hE hplm
            go_wp2
            go_quiet (fail)
            obtain ⟨x0, hx0⟩ : ∃ x0, wr.drewN nq = x0 := ⟨_, rfl⟩
            have HX0 : Hid (Below wr.heap.size wr x0) := Lib.hid (by rw [← hx0]; exact Below.of_drews _ _)
            rw [hx0]
            clear hx0 c0 c6
            go_wp2_with (first
              | (go_at_call 87; (with_reducible refine (HPAm.out _ HX0.out).mono ?_); rintro e x1 ⟨rfl, y1⟩; have HB1 := Lib.hid (below_up HX0.out y1); clear y1)
              | (go_at_call 88; (with_reducible refine (HLNm.out _).mono ?_); rintro e x2 ⟨lb, mn, lc2, db, en, dc2, rfl, hl2, hd2⟩; have HL2 := Lib.hid hl2; have HD2 := Lib.hid hd2; clear hl2 hd2))
            go_ret2
            exact ⟨m, HA.out.below (below_up HB1.out HL2.out.low), HS.out, below_up (below_up HB.out HB1.out) HL2.out.low, lb, mn, lc2, db, en, dc2, rfl, HL2.out.lower (below_up HB.out HB1.out), Up.lower HD2.out (below_up HB.out HB1.out)⟩
          | true =>
            have hI : decide (m < E.K.length) = false := decide_eq_false (fun h => hgo ⟨rfl, by omega⟩)
            have hJ : ¬ (m : Int) < (E.K.length : Int) := fun h => hgo ⟨rfl, by omega⟩
            clear hs hgo hM hgk hB hA m3 hE hplm
            go_wp2
            go_quiet (fail)
            obtain ⟨x0, hx0⟩ : ∃ x0, wr.drewN nq = x0 := ⟨_, rfl⟩
            have HX0 : Hid (Below wr.heap.size wr x0) := Lib.hid (by rw [← hx0]; exact Below.of_drews _ _)
            rw [hx0]
            clear hx0 c0 c6
            go_wp2_with (first
              | (go_at_call 87; (with_reducible refine (HPAm.out _ HX0.out).mono ?_); rintro e x1 ⟨rfl, y1⟩; have HB1 := Lib.hid (below_up HX0.out y1); clear y1)
              | (go_at_call 88; (with_reducible refine (HLNm.out _).mono ?_); rintro e x2 ⟨lb, mn, lc2, db, en, dc2, rfl, hl2, hd2⟩; have HL2 := Lib.hid hl2; have HD2 := Lib.hid hd2; clear hl2 hd2))
            go_ret2
            exact ⟨m, HA.out.below (below_up HB1.out HL2.out.low), HS.out, below_up (below_up HB.out HB1.out) HL2.out.low, lb, mn, lc2, db, en, dc2, rfl, HL2.out.lower (below_up HB.out HB1.out), Up.lower HD2.out (below_up HB.out HB1.out)⟩

end Go.Proofs.YtpnboieppkjfnaaGreat
