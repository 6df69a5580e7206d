/-
  Texts of the proof, put together: GdBuild, DkAwake, GcAwake.
-/
import Derived.Test.YtkmlnccdldmmpaaDoorG44
import Derived.Test.YtkmlnccdldmmpaaDoorG45
import Derived.Test.YtkmlnccdldmmpaaDoorG46
import Derived.Test.YtkmlnccdldmmpaaDoorG47
import Derived.Test.YtkmlnccdldmmpaaDoorG43
import Derived.Test.YtkmlnccdldmmpaaDoorG29
import Derived.Test.YtkmlnccdldmmpaaDoorG30
import Derived.Test.YtkmlnccdldmmpaaDoorG07
import Derived.Deep.LoopGhost
import Derived.IntWalk
import Derived.Test.YtkmlnccdldmmpaaDoorG34

/-
  The document's Build, walked.
-/
namespace Go.Proofs.YtkmlnccdldmmpaaDoor
open Go.RowKit

theorem rbuild_any {lines : List Ln} {lv : Value} {w : World} (hl : LinesAt fB lines lv w) (hn : lines.length ≤ 20000) :
    Calls Tryd.prog 25 #[lv] w (BuiltP w (buildL (ksOf lines)).1 (tells lines)) :=
  rbuild_at.2.2.2.2.2.2 (Lib.hid rbuild_A) (Lib.hid rbuild_B) (Lib.hid rbuild_C) (Lib.hid rbuild_D) (Lib.hid rbuild_E) (Lib.hid rbuild_Z) _ _ _ hl hn

end Go.Proofs.YtkmlnccdldmmpaaDoor

/-
  What the document fixes.
-/
namespace Go.Proofs.YtkmlnccdldmmpaaDoor
open Go.RowKit

def awX (k : Nat) (x : ByteArray) (sp : Bool) (f t : Nat) : Xt := ⟨(k : Int), x, sp, fB, (f : Int), (t : Int), false, []⟩
theorem awd_one : lexT ⟨#[35, 32, 100, 101, 102, 105, 110, 101, 32, 65]⟩ = [awX 5 ⟨#[35]⟩ false 0 1, awX 1 ⟨#[100, 101, 102, 105, 110, 101]⟩ true 2 8, awX 1 ⟨#[65]⟩ true 9 10] := by rfl
theorem awd_two : lexT ⟨#[37, 58]⟩ = [awX 5 ⟨#[37, 58]⟩ false 0 2] := by rfl
theorem awd_three : lexT ⟨#[35, 120]⟩ = [awX 5 ⟨#[35]⟩ false 0 1, awX 1 ⟨#[120]⟩ false 1 2] := by rfl
theorem hash_is {t : Xt} {b : Bool} (h : (decide (t.k = 5) && (t.x.data.toList == [35] || t.x.data.toList == [37, 58])) = b) : hashX t = b := by
  unfold hashX
  rw [ByteArray.toList_eq]
  exact h
theorem awd_k1 : kindL [awX 5 ⟨#[35]⟩ false 0 1, awX 1 ⟨#[100, 101, 102, 105, 110, 101]⟩ true 2 8, awX 1 ⟨#[65]⟩ true 9 10] = 9 := by
  rw [kind_two (hash_is (by decide)), if_pos (by decide)]
  decide
theorem awd_k2 : kindL [awX 5 ⟨#[37, 58]⟩ false 0 2] = 1 := kind_one (hash_is (by decide))
theorem awd_k3 : kindL [awX 5 ⟨#[35]⟩ false 0 1, awX 1 ⟨#[120]⟩ false 1 2] = 14 := by
  rw [kind_two (hash_is (by decide)), if_pos (by decide)]
  decide

set_option maxRecDepth 100000 in
set_option maxHeartbeats 6400000 in
theorem awake7_any {W : World} (hW : WordsAt 0 W) (h0 : 0 < W.heap.size) : Calls Tryd.prog 11 #[] W (TruePost W) := by
  have T1 : Hid (∀ X : World, Calls Tryd.prog 20 #[.string ⟨#[35, 32, 100, 101, 102, 105, 110, 101, 32, 65]⟩] X (ToksNew X [awX 5 ⟨#[35]⟩ false 0 1, awX 1 ⟨#[100, 101, 102, 105, 110, 101]⟩ true 2 8, awX 1 ⟨#[65]⟩ true 9 10])) := Lib.hid (fun X => awd_one ▸ lexed_any _ X (by decide))
  have T2 : Hid (∀ X : World, Calls Tryd.prog 20 #[.string ⟨#[37, 58]⟩] X (ToksNew X [awX 5 ⟨#[37, 58]⟩ false 0 2])) := Lib.hid (fun X => awd_two ▸ lexed_any _ X (by decide))
  have T3 : Hid (∀ X : World, Calls Tryd.prog 20 #[.string ⟨#[35, 120]⟩] X (ToksNew X [awX 5 ⟨#[35]⟩ false 0 1, awX 1 ⟨#[120]⟩ false 1 2])) := Lib.hid (fun X => awd_three ▸ lexed_any _ X (by decide))
  have K1 : Hid (∀ (X : World) (v : Value), ToksX [awX 5 ⟨#[35]⟩ false 0 1, awX 1 ⟨#[100, 101, 102, 105, 110, 101]⟩ true 2 8, awX 1 ⟨#[65]⟩ true 9 10] v X → Below W.heap.size W X → Calls Tryd.prog 12 #[v] X (IntNew 9 X)) := Lib.hid (fun X v h b => by
    have := kind_any h (hW.next b h0) (Nat.lt_of_lt_of_le h0 b.size)
    rw [awd_k1] at this
    exact this)
  have K0 : Hid (∀ X : World, Below W.heap.size W X → Calls Tryd.prog 12 #[.slice none 0 0] X (IntNew 0 X)) := Lib.hid (fun X b => kind_any (toksX_nil X) (hW.next b h0) (Nat.lt_of_lt_of_le h0 b.size))
  have K2 : Hid (∀ (X : World) (v : Value), ToksX [awX 5 ⟨#[37, 58]⟩ false 0 2] v X → Below W.heap.size W X → Calls Tryd.prog 12 #[v] X (IntNew 1 X)) := Lib.hid (fun X v h b => by
    have := kind_any h (hW.next b h0) (Nat.lt_of_lt_of_le h0 b.size)
    rw [awd_k2] at this
    exact this)
  have K3 : Hid (∀ (X : World) (v : Value), ToksX [awX 5 ⟨#[35]⟩ false 0 1, awX 1 ⟨#[120]⟩ false 1 2] v X → Below W.heap.size W X → Calls Tryd.prog 12 #[v] X (IntNew 14 X)) := Lib.hid (fun X v h b => by
    have := kind_any h (hW.next b h0) (Nat.lt_of_lt_of_le h0 b.size)
    rw [awd_k3] at this
    exact this)
  have R1 : Hid (∀ (X : World) (v : Value), ToksX [awX 5 ⟨#[35]⟩ false 0 1, awX 1 ⟨#[100, 101, 102, 105, 110, 101]⟩ true 2 8, awX 1 ⟨#[65]⟩ true 9 10] v X → Below W.heap.size W X → Calls Tryd.prog 15 #[v] X (ToksNew X [awX 1 ⟨#[65]⟩ true 9 10])) := Lib.hid (fun X v h b => by
    have := rest_any h (hW.next b h0) (Nat.lt_of_lt_of_le h0 b.size) (by decide) (by decide)
    rw [rest_high (by rw [awd_k1]; decide)] at this
    exact this)
  have W5 : Hid (∀ X : World, Below W.heap.size W X → Calls Tryd.prog 17 #[.int .i64 5] X (StrNew ⟨#[101, 108, 105, 102]⟩ X)) := Lib.hid (fun X b => word_any 5 (hW.next b h0))
  have W9 : Hid (∀ X : World, Below W.heap.size W X → Calls Tryd.prog 17 #[.int .i64 99] X (StrNew ⟨#[]⟩ X)) := Lib.hid (fun X b => word_any 99 (hW.next b h0))
  have E5 : ((⟨#[101, 108, 105, 102]⟩ : ByteArray).toList == (⟨#[101, 108, 105, 102]⟩ : ByteArray).toList) = true := by simp
  clear hW
  go_enter Tryd.func11, Tryd.ntmps11
  go_wp2_with (first
    | (go_at_call 20; first
        | ((with_reducible refine (T1.out _).mono ?_); rintro e w1 ⟨a1, n1, c1, rfl, hn, hx, hb⟩; have HX1 := Lib.hid hx; have HB1 := Lib.hid hb; clear hx hb hn)
        | ((with_reducible refine (T2.out _).mono ?_); rintro e w5 ⟨a5, n5, c5, rfl, hn, hx, hb⟩; have HX5 := Lib.hid hx; have HB5 := Lib.hid (below_up HB4.out hb); clear hx hb hn)
        | ((with_reducible refine (T3.out _).mono ?_); rintro e w7 ⟨a7, n7, c7, rfl, hn, hx, hb⟩; have HX7 := Lib.hid hx; have HB7 := Lib.hid (below_up HB6.out hb); clear hx hb hn))
    | (go_at_call 15; (with_reducible refine (R1.out _ _ HX1.out HB1.out).mono ?_); rintro e w2 ⟨a2, n2, c2, rfl, hn, hx, hb⟩; have HX2 := Lib.hid hx; have HB2 := Lib.hid (below_up HB1.out hb); have HX1' := Lib.hid (HX1.out.over hb); (obtain rfl : n2 = 1 := hn); clear hx hb)
    | (go_at_call 12; first
        | ((with_reducible refine (K0.out _ HB3.out).mono ?_); rintro e w4 ⟨rfl, hb⟩; have HB4 := Lib.hid (below_up HB3.out hb); clear hb)
        | ((with_reducible refine (K1.out _ _ HX1'.out HB2.out).mono ?_); rintro e w3 ⟨rfl, hb⟩; have HB3 := Lib.hid (below_up HB2.out hb); (obtain ⟨g, o, sa, sn, sc, rfl, hg, -, ⟨-, q1, -⟩, -⟩ := (HX2.out.over hb).get (k := 0) rfl); (have k1 : w3.cell? ⟨g, o + 0 * 8 + 1, none⟩ = some (.string ⟨#[65]⟩) := q1); clear q1; rw [Nat.zero_mul, Nat.add_zero] at k1; clear hb)
        | ((with_reducible refine (K2.out _ _ HX5.out HB5.out).mono ?_); rintro e w6 ⟨rfl, hb⟩; have HB6 := Lib.hid (below_up HB5.out hb); clear hb)
        | ((with_reducible refine (K3.out _ _ HX7.out HB7.out).mono ?_); rintro e w8 ⟨rfl, hb⟩; have HB8 := Lib.hid (below_up HB7.out hb); clear hb))
    | (go_at_call 17; first
        | ((with_reducible refine (W5.out _ HB8.out).mono ?_); rintro e w9 ⟨rfl, hb⟩; have HB9 := Lib.hid (below_up HB8.out hb); clear hb)
        | ((with_reducible refine (W9.out _ HB9.out).mono ?_); rintro e w10 ⟨rfl, hb⟩; have HB10 := Lib.hid (below_up HB9.out hb); clear hb)))
  go_ret
  exact ⟨rfl, HB10.out⟩

end Go.Proofs.YtkmlnccdldmmpaaDoor

/-
  What the document fixes of conditions.
-/
namespace Go.Proofs.YtkmlnccdldmmpaaDoor
open Go.RowKit

theorem lnK_dir {ln : Ln} {t0 t1 : Tk} {r : List Tk} (h : ln.toks = t0 :: t1 :: r) (h0 : t0.k = 5) (hx : t0.x = [35]) (h1 : t1.k = 1) : lnK ln = (wKind ⟨t1.x.toArray⟩, true) := by
  unfold lnK
  rw [h, List.map_cons, List.map_cons]
  have hh : hashX (xtOf fB t0) = true := hash_is (by
    unfold xtOf
    rw [h0, hx]
    rfl)
  rw [kind_two hh]
  have h2 : (xtOf fB t1).k = 1 := by unfold xtOf; rw [h1]; rfl
  rw [if_pos h2]
  rfl
theorem lnK_text {ln : Ln} {t0 : Tk} {r : List Tk} (h : ln.toks = t0 :: r) (h0 : t0.k = 1) : lnK ln = (0, true) := by
  unfold lnK
  rw [h, List.map_cons]
  have hh : hashX (xtOf fB t0) = false := hash_is (by
    unfold xtOf
    rw [h0]
    rfl)
  rw [kind_no hh]
  rfl

def awS8 : ByteArray := ⟨#[35, 105, 102, 32, 97, 10, 98, 10, 35, 101, 108, 115, 101, 10, 99, 10, 35, 101, 110, 100, 105, 102, 10, 35, 101, 110, 100, 105, 102, 10, 35, 105, 102, 32, 120, 10]⟩
def awL8 : List Ln := [⟨[⟨5, [35], false, 0, 1⟩, ⟨1, [105, 102], false, 1, 3⟩, ⟨1, [97], true, 4, 5⟩], 0, 6, false⟩, ⟨[⟨1, [98], false, 6, 7⟩], 6, 8, false⟩, ⟨[⟨5, [35], false, 8, 9⟩, ⟨1, [101, 108, 115, 101], false, 9, 13⟩], 8, 14, false⟩, ⟨[⟨1, [99], false, 14, 15⟩], 14, 16, false⟩, ⟨[⟨5, [35], false, 16, 17⟩, ⟨1, [101, 110, 100, 105, 102], false, 17, 22⟩], 16, 23, false⟩, ⟨[⟨5, [35], false, 23, 24⟩, ⟨1, [101, 110, 100, 105, 102], false, 24, 29⟩], 23, 30, false⟩, ⟨[⟨5, [35], false, 30, 31⟩, ⟨1, [105, 102], false, 31, 33⟩, ⟨1, [120], true, 34, 35⟩], 30, 36, false⟩]
theorem aw8_lines : (linesA (charsL awS8.data.toList) awS8.size).lines = awL8 := by rfl
def awK8 : List (Nat × Bool) := [(2, true), (0, true), (6, true), (0, true), (7, true), (7, true), (2, true)]
theorem wk_if : wKind ⟨(#[105, 102] : Array UInt8)⟩ = 2 := wKind_word 2 (by omega) (by omega)
theorem wk_else : wKind ⟨(#[101, 108, 115, 101] : Array UInt8)⟩ = 6 := wKind_word 6 (by omega) (by omega)
theorem wk_endif : wKind ⟨(#[101, 110, 100, 105, 102] : Array UInt8)⟩ = 7 := wKind_word 7 (by omega) (by omega)
theorem aw8_ks : ksOf awL8 = awK8 := by
  unfold ksOf awL8 awK8
  rw [List.map_cons, List.map_cons, List.map_cons, List.map_cons, List.map_cons, List.map_cons, List.map_cons, List.map_nil]
  rw [lnK_dir (ln := ⟨_, 0, 6, false⟩) rfl rfl rfl rfl, lnK_text (ln := ⟨_, 6, 8, false⟩) rfl rfl, lnK_dir (ln := ⟨_, 8, 14, false⟩) rfl rfl rfl rfl, lnK_text (ln := ⟨_, 14, 16, false⟩) rfl rfl, lnK_dir (ln := ⟨_, 16, 23, false⟩) rfl rfl rfl rfl, lnK_dir (ln := ⟨_, 23, 30, false⟩) rfl rfl rfl rfl, lnK_dir (ln := ⟨_, 30, 36, false⟩) rfl rfl rfl rfl]
  rw [show wKind ⟨([105, 102] : List UInt8).toArray⟩ = 2 from wk_if, show wKind ⟨([101, 108, 115, 101] : List UInt8).toArray⟩ = 6 from wk_else, show wKind ⟨([101, 110, 100, 105, 102] : List UInt8).toArray⟩ = 7 from wk_endif]
def awI8 : List Itm := [.mk 2 0 [(0, [.mk 0 1 []]), (2, [.mk 0 3 []])], .mk 2 6 [(6, [])]]
theorem aw8_its : (buildL (ksOf awL8)).1 = awI8 := by rw [aw8_ks]; rfl
theorem aw8_tells : tells awL8 = [⟨12, 24, 29⟩, ⟨13, 31, 33⟩] := by unfold tells; rw [aw8_ks]; rfl

/-- What is read of it. -/
theorem aw8_cells {dep : Nat} {ia : Option Addr} {im ic : Nat} {w : World} (h : ItsAt dep awI8 (.slice ia im ic) w) :
    ∃ g o aa ac g2 o2 ja jc, ia = some ⟨g, o, none⟩ ∧ im = 2 ∧ 2 ≤ ic ∧ ic ≤ maxLen ∧ g < w.heap.size ∧ w.cell? ⟨g, o + 2, none⟩ = some (.slice (some ⟨g2, o2, none⟩) 2 ac) ∧ aa = g2 ∧ 2 ≤ ac ∧ ac ≤ maxLen ∧ g2 < w.heap.size ∧ w.cell? ⟨g2, o2 + 1, none⟩ = some (.slice ja 1 jc) := by
  obtain ⟨g, o, n', cap', aa, an, ac, rfl, rfl, rfl, h4, h5, h6, h7, h8, h9, ⟨-, -, c2⟩, h11, h12⟩ := h.head
  obtain ⟨e', rfl, ha⟩ := h12 (by simp [Itm.arms])
  obtain ⟨g2, o2, m', cap2, ja, jm, jc, rfl, rfl, rfl, k4, k5, k6, k7, k8, ⟨-, d1⟩, -, hit⟩ := arms_head ha
  obtain ⟨a3, n3, c3, hv3, hn3, -, -⟩ := itsAt_form _ _ _ _ hit
  simp only [Value.slice.injEq] at hv3
  obtain ⟨rfl, rfl, rfl⟩ := hv3
  obtain ⟨a4, n4, c4, hv4, hn4, -, -⟩ := itsAt_form _ _ _ _ h
  simp only [Value.slice.injEq] at hv4
  obtain ⟨-, hn5, -⟩ := hv4
  have e1 : n' + 1 = 2 := by rw [hn5, hn4]; rfl
  have e2 : m' + 1 = 2 := h7
  have e3 : jm = 1 := hn3
  rw [e2] at c2
  rw [e3] at d1
  exact ⟨g, o, g2, cap2 + 1, g2, o2, ja, jc, rfl, e1, by omega, h5, h6, c2, rfl, by omega, k5, k6, d1⟩

theorem aw8_dg {X : World} {da : Option Addr} {dn dc : Nat} {w : World} (h : DRow X fB (.slice da dn dc) [⟨12, 24, 29⟩, ⟨13, 31, 33⟩] w) :
    ∃ gd, da = some ⟨gd, 0, none⟩ ∧ dn = 2 ∧ 2 ≤ dc ∧ dc ≤ maxLen ∧ gd < w.heap.size ∧ w.cell? ⟨gd, 0, none⟩ = some (.int .i64 12) ∧ w.cell? ⟨gd, 4, none⟩ = some (.int .i64 13) := by
  obtain ⟨da', dc', hv, h1, h2, h3⟩ := h.at
  simp only [Value.slice.injEq] at hv
  obtain ⟨rfl, rfl, rfl⟩ := hv
  obtain ⟨gd, rfl, hl, t0, -, -, -⟩ := h3 0 _ rfl
  obtain ⟨gd', he, -, t1, -, -, -⟩ := h3 1 _ rfl
  simp only [Option.some.injEq, Addr.mk.injEq, and_true] at he
  subst he
  exact ⟨gd, rfl, rfl, h1, h2, hl, t0, t1⟩

theorem aw8_deep {dep : Nat} {v : Value} {w : World} (h : ItsAt dep awI8 v w) (hd : dep ≤ 500000) : Calls Tryd.prog 32 #[v] w (IntNew 1 w) := by
  have := gdepth_any h (by omega) (by decide)
  rw [← mx_deep (its_fits _ _ _ _ h)] at this
  exact this

set_option maxRecDepth 100000 in
set_option maxHeartbeats 6400000 in
theorem awake8_any {W : World} (hW : WordsAt 0 W) (h0 : 0 < W.heap.size) : Calls Tryd.prog 21 #[] W (TruePost W) := by
  have HL : Hid (Calls Tryd.prog 24 #[.string ⟨#[35, 105, 102, 32, 97, 10, 98, 10, 35, 101, 108, 115, 101, 10, 99, 10, 35, 101, 110, 100, 105, 102, 10, 35, 101, 110, 100, 105, 102, 10, 35, 105, 102, 32, 120, 10]⟩] W (LiPost W awL8)) := Lib.hid (aw8_lines ▸ lines8_any awS8 W (by decide))
  have HB : Hid (∀ (X : World) (v : Value), LinesAt fB awL8 v X → Below W.heap.size W X → Calls Tryd.prog 23 #[v] X (BuiltP X awI8 [⟨12, 24, 29⟩, ⟨13, 31, 33⟩])) := Lib.hid (fun X v h b => by
    have := gbuild_any h (by decide) (hW.next b h0) (Nat.lt_of_lt_of_le h0 b.size)
    rw [aw8_its, aw8_tells] at this
    exact this)
  clear hW
  go_enter Tryd.func21, Tryd.ntmps21
  go_wp2_with (first
    | (go_at_call 24; (with_reducible refine HL.out.mono ?_); rintro e w1 ⟨la, ln, lc, rfl, -, hl⟩; have HL1 : Hid (LinesAt fB awL8 (.slice la ln lc) w1 ∧ Below W.heap.size W w1) := Lib.hid ⟨hl.at, hl.low⟩; clear hl)
    | (go_at_call 23; (with_reducible refine (HB.out _ _ HL1.out.1 HL1.out.2).mono ?_); rintro e w2 ⟨ia, im, ic, da, dn, dc, rfl, ⟨⟨dep, hdep, hi⟩, hdn, hd⟩⟩; have HB2 : Hid (Below W.heap.size W w2) := Lib.hid (below_up HL1.out.2 hd.2); (obtain ⟨g, o, aa, ac, g2, o2, ja, jc, rfl, rfl, hic1, hic2, hg, c2, -, hac1, hac2, hg2, d1⟩ := aw8_cells hi); (obtain ⟨gd, rfl, rfl, hdc1, hdc2, hgd, t0, t1⟩ := aw8_dg hd); unfold maxLen at hic2 hac2 hdc2; have HI2 := Lib.hid hi; have HDP : Hid (dep ≤ 500000) := Lib.hid hdep; have HDC : Hid (Calls Tryd.prog 32 #[.slice (some ⟨g, o, none⟩) 2 ic] w2 (IntNew 1 w2)) := Lib.hid (aw8_deep hi hdep); clear hi hd hdn hdep)
    | (go_at_call 32; (with_reducible refine HDC.out.mono ?_); rintro e w3 ⟨rfl, hb⟩; have HB3 := Lib.hid hb; have HI3 := Lib.hid (itsAt_over _ _ _ _ _ HI2.out hb); clear hb)
    | (go_at_call 30; (with_reducible refine (gflat_any HI3.out (by have := HDP.out; omega) (by decide)).mono ?_); rintro e w4 ⟨fa, fn, fc, rfl, hfn, hu⟩; have HB4 := Lib.hid hu.2; (obtain rfl : fn = 5 := hfn); clear hu))
  go_ret
  exact ⟨rfl, below_up HB2.out (below_up HB3.out HB4.out)⟩

end Go.Proofs.YtkmlnccdldmmpaaDoor
