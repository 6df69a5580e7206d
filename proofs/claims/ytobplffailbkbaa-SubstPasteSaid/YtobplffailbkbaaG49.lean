/-
  Texts of the proof, put together: SuPr, LSPaste, LxLift, DkRead.
-/
import Derived.Test.YtobplffailbkbaaG48
import Derived.Test.YtobplffailbkbaaG46
import Derived.Test.YtobplffailbkbaaG15
import Derived.Test.YtobplffailbkbaaG11
import Derived.Test.YtobplffailbkbaaG01
import Derived.ProofKit
import Derived.OpenShut
import Derived.ChangeMaps5
import Derived.Below
import Derived.Carry
import Derived.SliceStrings
import Derived.Test.YtobplffailbkbaaG21
import Derived.Deep.Slices
import Derived.Deep.Fields
import Derived.LaidLaws
import Derived.MakeChecks

/-
  The document's Paste, walked.
-/
namespace Go.Proofs.Ytobplffailbkbaa
open Go.RowKit Go.Maps

set_option maxRecDepth 100000 in
set_option maxHeartbeats 6400000 in
theorem rpaste_any (a b : Xt) (sa : Option Addr) (sn sc : Nat) (bv : Option Addr) (bn bc : Nat) (W : World) (hs : a.x.size + b.x.size ≤ 10000) : Calls Try.prog 10 #[tokA a (.slice sa sn sc), tokA b (.slice bv bn bc)] W (JoinPost W a b (.slice sa sn sc)) := by
  have hcat : (a.x.size + b.x.size > 9223372036854775807) = False := by
    rw [eq_iff_iff, iff_false]
    omega
  have HON : Hid (∀ X : World, Calls Try.prog 23 #[.string (a.x ++ b.x)] X (onePost (a.x ++ b.x) X)) := Lib.hid (fun X => rone_any (a.x ++ b.x) X (by rw [append_size]; exact hs))
  have HBX := Lib.hid (fun (w : World) (h : Below (W.heap.size + 1 + 1 + 1) (((W.alloc (.cells #[.int .i64 a.k, .string a.x, .bool a.sp, .string a.g, .int .i64 a.f, .int .i64 a.t, .bool a.d, .slice sa sn sc] 26)).alloc (.cells #[.int .i64 b.k, .string b.x, .bool b.sp, .string b.g, .int .i64 b.f, .int .i64 b.t, .bool b.d, .slice bv bn bc] 26)).alloc (.cells #[.int .i64 0, .string ⟨#[]⟩, .bool false, .string ⟨#[]⟩, .int .i64 0, .int .i64 0, .bool false, .slice none 0 0] 26)) w) => box3_next W a (.slice sa sn sc) _ h)
  unfold onePost at HON
  cases ho : oneL (a.x ++ b.x).data.toList with
  | none =>
    rw [ho] at HON
    have HJ : Hid (joinL a b = none) := Lib.hid (by unfold joinL; rw [ho]; rfl)
    clear ho hs
    go_enter Try.func10, Try.ntmps10
    go_wp2_with (go_at_call 23; (with_reducible refine (HON.out _).mono ?_); rintro e w1 ⟨rfl, hb1⟩; have HX1 := Lib.hid (HBX.out w1 (by simpa using hb1)); (obtain ⟨⟨c2, c3, c4, c5, c7⟩, ⟨z0, z1, z2, z3, z4, z5, z6, z7⟩, zf⟩ := HX1.out.cells); have hbig := HX1.out.big; clear hb1; simp only [oneV])
    obtain ⟨X, hX, -, hB, h7, -, -⟩ := st8_done HX1.out.res HX1.out.low (by omega) (.int .i64 0) (.string ⟨#[]⟩) (.bool false) (.string ⟨#[]⟩) (.int .i64 0) (.int .i64 0) (.bool false) (.slice none 0 0)
    rw [hX]
    obtain ⟨y0, y1, y2, y3, y4, y5, y6, y7⟩ := cells8 ((Below.heap_alloc X (.cells #[.int .i64 0, .string ⟨#[]⟩, .bool false, .string ⟨#[]⟩, .int .i64 0, .int .i64 0, .bool false, .slice none 0 0] 26) _ (row_lt h7)).trans h7)
    exact bodyPost_ret (v := .tuple #[zeroT, .bool false]) (by simp [results, Try.results10, go_sem, y0, y1, y2, y3, y4, y5, y6, y7]) rfl (join_no HJ.out (hB.alloc hB.size _))
  | some k =>
    rw [ho] at HON
    have HJ : Hid (joinL a b = some ⟨(k : Int), a.x ++ b.x, a.sp, a.g, a.f, a.t, true, a.ss⟩) := Lib.hid (by unfold joinL; rw [ho]; rfl)
    clear ho hs
    go_enter Try.func10, Try.ntmps10
    go_wp2_with (go_at_call 23; (with_reducible refine (HON.out _).mono ?_); rintro e w1 ⟨rfl, hb1⟩; have HX1 := Lib.hid (HBX.out w1 (by simpa using hb1)); (obtain ⟨⟨c2, c3, c4, c5, c7⟩, ⟨z0, z1, z2, z3, z4, z5, z6, z7⟩, zf⟩ := HX1.out.cells); have hbig := HX1.out.big; clear hb1; (have hb1 : W.heap.size < w1.heap.size := by omega); simp only [oneV])
    obtain ⟨X, hX, -, hB, h7, -, -⟩ := st8_done HX1.out.res HX1.out.low (by omega) (.int .i64 (k : Int)) (.string (a.x ++ b.x)) (.bool a.sp) (.string a.g) (.int .i64 a.f) (.int .i64 a.t) (.bool true) (.slice sa sn sc)
    rw [hX]
    have hz := (Below.heap_alloc X (.cells #[.int .i64 (k : Int), .string (a.x ++ b.x), .bool a.sp, .string a.g, .int .i64 a.f, .int .i64 a.t, .bool true, .slice sa sn sc] 26) _ (row_lt h7)).trans h7
    obtain ⟨y0, y1, y2, y3, y4, y5, y6, y7⟩ := cells8 (w := (X.alloc (.cells #[.int .i64 (k : Int), .string (a.x ++ b.x), .bool a.sp, .string a.g, .int .i64 a.f, .int .i64 a.t, .bool true, .slice sa sn sc] 26))) hz
    exact bodyPost_ret (v := .tuple #[.agg #[.int .i64 (k : Int), .string (a.x ++ b.x), .bool a.sp, .string a.g, .int .i64 a.f, .int .i64 a.t, .bool true, .slice sa sn sc], .bool true]) (by simp [results, Try.results10, go_sem, y0, y1, y2, y3, y4, y5, y6, y7]) rfl (join_yes HJ.out (hB.alloc hB.size _))

end Go.Proofs.Ytobplffailbkbaa

/-
  SubstPaste, walked.
-/
namespace Go.Proofs.Ytobplffailbkbaa
open Go.RowKit Go.Maps

theorem toksX_two {a b : Xt} {sa sb : Value} {w : World} (ha : SitsA a.ss sa w) (hb : SitsA b.ss sb w) : ToksX [a, b] (.slice (some ⟨w.heap.size, 0, none⟩) 2 2) (w.alloc (.cells #[.int .i64 a.k, .string a.x, .bool a.sp, .string a.g, .int .i64 a.f, .int .i64 a.t, .bool a.d, sa, .int .i64 b.k, .string b.x, .bool b.sp, .string b.g, .int .i64 b.f, .int .i64 b.t, .bool b.d, sb] 26)) := by
  have hB : Below w.heap.size w (w.alloc (.cells #[.int .i64 a.k, .string a.x, .bool a.sp, .string a.g, .int .i64 a.f, .int .i64 a.t, .bool a.d, sa, .int .i64 b.k, .string b.x, .bool b.sp, .string b.g, .int .i64 b.f, .int .i64 b.t, .bool b.d, sb] 26)) := (Below.refl _ _).alloc (Nat.le_refl _) _
  have hh := heap_alloc_new w (.cells #[.int .i64 a.k, .string a.x, .bool a.sp, .string a.g, .int .i64 a.f, .int .i64 a.t, .bool a.d, sa, .int .i64 b.k, .string b.x, .bool b.sp, .string b.g, .int .i64 b.f, .int .i64 b.t, .bool b.d, sb] 26)
  refine ⟨_, _, rfl, Nat.le_refl _, by unfold maxLen; omega, fun k t hk => ⟨w.heap.size, 0, rfl, by simp, ?_⟩⟩
  match k, hk with
  | 0, hk =>
    cases hk
    refine ⟨sa, ⟨?_, ?_, ?_, ?_, ?_, ?_, ?_, ?_⟩, ha.over hB⟩ <;> (rw [Lib.cell_of_heap hh]; rfl)
  | 1, hk =>
    cases hk
    refine ⟨sb, ⟨?_, ?_, ?_, ?_, ?_, ?_, ?_, ?_⟩, hb.over hB⟩ <;> (rw [Lib.cell_of_heap hh]; rfl)
  | k + 2, hk => simp at hk
theorem paste_yes {a b : Xt} (h : (pasteL a b).2 = true) : ∃ k : Int, (pasteL a b).1 = ⟨k, a.x ++ b.x, a.sp, a.g, a.f, a.t, true, a.ss⟩ := by
  unfold pasteL at h ⊢
  cases hj : joinL a b with
  | none =>
    rw [hj] at h
    cases h
  | some u =>
    unfold joinL at hj
    rw [Option.map_eq_some_iff] at hj
    obtain ⟨k, -, rfl⟩ := hj
    exact ⟨_, rfl⟩
/-- What is told of a paste, the token's parts laid open. -/
def PasteAt (W : World) (p : Xt) (ok : Bool) (e : Ending) (w' : World) : Prop := ∃ a n c, e = .returned (.tuple #[.agg #[.int .i64 p.k, .string p.x, .bool p.sp, .string p.g, .int .i64 p.f, .int .i64 p.t, .bool p.d, .slice a n c], .bool ok]) ∧ SitsA p.ss (.slice a n c) w' ∧ Below W.heap.size W w'

set_option maxRecDepth 100000 in
set_option maxHeartbeats 12800000 in
theorem paste_law {a b : Xt} {sa sb : Value} (W : World) (ha : SitsA a.ss sa W) (hb : SitsA b.ss sb W) : Calls Try.prog 3 #[.agg #[.int .i64 a.k, .string a.x, .bool a.sp, .string a.g, .int .i64 a.f, .int .i64 a.t, .bool a.d, sa], .agg #[.int .i64 b.k, .string b.x, .bool b.sp, .string b.g, .int .i64 b.f, .int .i64 b.t, .bool b.d, sb]] W (TruePost W) := by
  obtain ⟨sa, sn, sc, rfl, -⟩ := ha.form
  obtain ⟨sb, bn, bc, rfl, -⟩ := hb.form
  have HA : Hid (∀ X : World, Calls Try.prog 8 #[] X (TruePost X)) := Lib.hid (fun X => awake11_any X)
  have hw0 : Below W.heap.size W ((W.alloc (.cells #[.int .i64 a.k, .string a.x, .bool a.sp, .string a.g, .int .i64 a.f, .int .i64 a.t, .bool a.d, .slice sa sn sc] 26)).alloc (.cells #[.int .i64 b.k, .string b.x, .bool b.sp, .string b.g, .int .i64 b.f, .int .i64 b.t, .bool b.d, .slice sb bn bc] 26)) := ((Below.refl _ _).alloc (Nat.le_refl _) _).alloc (by simp) _
  have hh1 := blk_new1 W (.cells #[.int .i64 a.k, .string a.x, .bool a.sp, .string a.g, .int .i64 a.f, .int .i64 a.t, .bool a.d, .slice sa sn sc] 26) (.cells #[.int .i64 b.k, .string b.x, .bool b.sp, .string b.g, .int .i64 b.f, .int .i64 b.t, .bool b.d, .slice sb bn bc] 26)
  have hh2 := blk_new2 W (.cells #[.int .i64 a.k, .string a.x, .bool a.sp, .string a.g, .int .i64 a.f, .int .i64 a.t, .bool a.d, .slice sa sn sc] 26) (.cells #[.int .i64 b.k, .string b.x, .bool b.sp, .string b.g, .int .i64 b.f, .int .i64 b.t, .bool b.d, .slice sb bn bc] 26)
  obtain ⟨W2, hW2⟩ : ∃ X, ((W.alloc (.cells #[.int .i64 a.k, .string a.x, .bool a.sp, .string a.g, .int .i64 a.f, .int .i64 a.t, .bool a.d, .slice sa sn sc] 26)).alloc (.cells #[.int .i64 b.k, .string b.x, .bool b.sp, .string b.g, .int .i64 b.f, .int .i64 b.t, .bool b.d, .slice sb bn bc] 26)) = X := ⟨_, rfl⟩
  have hZ : ∀ X : World, Below W2.heap.size W2 X → (X.cell? ⟨W.heap.size, 0, none⟩ = some (.int .i64 a.k) ∧ X.cell? ⟨W.heap.size, 1, none⟩ = some (.string a.x) ∧ X.cell? ⟨W.heap.size, 2, none⟩ = some (.bool a.sp) ∧ X.cell? ⟨W.heap.size, 3, none⟩ = some (.string a.g) ∧ X.cell? ⟨W.heap.size, 4, none⟩ = some (.int .i64 a.f) ∧ X.cell? ⟨W.heap.size, 5, none⟩ = some (.int .i64 a.t) ∧ X.cell? ⟨W.heap.size, 6, none⟩ = some (.bool a.d) ∧ X.cell? ⟨W.heap.size, 7, none⟩ = some (.slice sa sn sc)) ∧ (X.cell? ⟨W.heap.size + 1, 0, none⟩ = some (.int .i64 b.k) ∧ X.cell? ⟨W.heap.size + 1, 1, none⟩ = some (.string b.x) ∧ X.cell? ⟨W.heap.size + 1, 2, none⟩ = some (.bool b.sp) ∧ X.cell? ⟨W.heap.size + 1, 3, none⟩ = some (.string b.g) ∧ X.cell? ⟨W.heap.size + 1, 4, none⟩ = some (.int .i64 b.f) ∧ X.cell? ⟨W.heap.size + 1, 5, none⟩ = some (.int .i64 b.t) ∧ X.cell? ⟨W.heap.size + 1, 6, none⟩ = some (.bool b.d) ∧ X.cell? ⟨W.heap.size + 1, 7, none⟩ = some (.slice sb bn bc)) := fun X hX =>
    ⟨cells8 ((hX.block _ (row_lt (hW2 ▸ hh1))).trans (hW2 ▸ hh1)), cells8 ((hX.block _ (row_lt (hW2 ▸ hh2))).trans (hW2 ▸ hh2))⟩
  have HZ := Lib.hid hZ
  obtain ⟨⟨y0, y1, y2, y3, y4, y5, y6, y7⟩, z0, z1, z2, z3, z4, z5, z6, z7⟩ := hZ W2 (Below.refl _ _)
  obtain ⟨⟨y0, y1, y2, y3, y4, y5, y6, y7⟩, z0, z1, z2, z3, z4, z5, z6, z7⟩ := hZ W2 (Below.refl _ _)
  obtain ⟨⟨y0, y1, y2, y3, y4, y5, y6, y7⟩, z0, z1, z2, z3, z4, z5, z6, z7⟩ := hZ W2 (Below.refl _ _)
  obtain ⟨⟨y0, y1, y2, y3, y4, y5, y6, y7⟩, z0, z1, z2, z3, z4, z5, z6, z7⟩ := hZ W2 (Below.refl _ _)
  obtain ⟨⟨y0, y1, y2, y3, y4, y5, y6, y7⟩, z0, z1, z2, z3, z4, z5, z6, z7⟩ := hZ W2 (Below.refl _ _)
  obtain ⟨⟨y0, y1, y2, y3, y4, y5, y6, y7⟩, z0, z1, z2, z3, z4, z5, z6, z7⟩ := hZ W2 (Below.refl _ _)
  have HB2 : Hid (Below W.heap.size W W2) := Lib.hid (hW2 ▸ hw0)
  have HFE : Hid (Calls Try.prog 7 #[.slice (some ⟨W2.heap.size, 0, none⟩) 2 2, .int .i64 2] (W2.alloc (.cells #[.int .i64 a.k, .string a.x, .bool a.sp, .string a.g, .int .i64 a.f, .int .i64 a.t, .bool a.d, .slice sa sn sc, .int .i64 b.k, .string b.x, .bool b.sp, .string b.g, .int .i64 b.f, .int .i64 b.t, .bool b.d, .slice sb bn bc] 26)) (BoolPost (fewB [a, b] 2) (W2.alloc (.cells #[.int .i64 a.k, .string a.x, .bool a.sp, .string a.g, .int .i64 a.f, .int .i64 a.t, .bool a.d, .slice sa sn sc, .int .i64 b.k, .string b.x, .bool b.sp, .string b.g, .int .i64 b.f, .int .i64 b.t, .bool b.d, .slice sb bn bc] 26)))) := Lib.hid (few_any (toksX_two (ha.over HB2.out) (hb.over HB2.out)) 2 (by omega))
  obtain ⟨W3, hW3⟩ : ∃ X, (W2.alloc (.cells #[.int .i64 a.k, .string a.x, .bool a.sp, .string a.g, .int .i64 a.f, .int .i64 a.t, .bool a.d, .slice sa sn sc, .int .i64 b.k, .string b.x, .bool b.sp, .string b.g, .int .i64 b.f, .int .i64 b.t, .bool b.d, .slice sb bn bc] 26)) = X := ⟨_, rfl⟩
  have HB23 : Hid (Below W2.heap.size W2 W3) := Lib.hid (hW3 ▸ (Below.refl _ _).alloc (Nat.le_refl _) _)
  have HB3 := Lib.hid (below_up HB2.out HB23.out)
  rw [hW3] at HFE
  have HSA := Lib.hid ha
  have HSB := Lib.hid hb
  obtain ⟨fw, hfw⟩ : ∃ f, fewB [a, b] 2 = f := ⟨_, rfl⟩
  rw [hfw] at HFE
  clear hw0 hh1 hh2 ha hb hZ
  cases fw with
  | false =>
    clear hfw HZ
    go_enter Try.func3, Try.ntmps3
    go_wp2_with (first
      | (go_at_call 7; (try rw [hW2]); (try rw [hW3]); (with_reducible refine HFE.out.mono ?_); rintro e w3 ⟨rfl, hw⟩; subst hw; clear y0 y1 y2 y3 y4 y5 y6 y7 z0 z1 z2 z3 z4 z5 z6 z7)
      | (go_at_call 8; (with_reducible refine (HA.out _).mono ?_); rintro e w4 ⟨rfl, hb⟩; have HB4 := Lib.hid (below_up HB3.out hb); clear hb))
    go_ret
    exact ⟨rfl, HB4.out⟩
  | true =>
    obtain ⟨-, hs⟩ := few_is hfw
    have hs1 := hs a (by simp)
    have hs2 := hs b (by simp)
    obtain ⟨⟨p, ok⟩, hpo⟩ : ∃ p, pasteL a b = p := ⟨_, rfl⟩
    have HP1 : Hid (∀ X : World, SitsA a.ss (.slice sa sn sc) X → Calls Try.prog 9 #[.agg #[.int .i64 a.k, .string a.x, .bool a.sp, .string a.g, .int .i64 a.f, .int .i64 a.t, .bool a.d, .slice sa sn sc], .agg #[.int .i64 b.k, .string b.x, .bool b.sp, .string b.g, .int .i64 b.f, .int .i64 b.t, .bool b.d, .slice sb bn bc]] X (PasteAt X p ok)) := Lib.hid (fun X hX => (spaste11_any a b sa sn sc sb bn bc X hX (by omega) (by omega)).mono fun e w' h => by
      unfold PastePost at h
      rw [hpo] at h
      exact h)
    have HP2 : Hid (∀ X : World, SitsA a.ss (.slice sa sn sc) X → Calls Try.prog 10 #[.agg #[.int .i64 a.k, .string a.x, .bool a.sp, .string a.g, .int .i64 a.f, .int .i64 a.t, .bool a.d, .slice sa sn sc], .agg #[.int .i64 b.k, .string b.x, .bool b.sp, .string b.g, .int .i64 b.f, .int .i64 b.t, .bool b.d, .slice sb bn bc]] X (PasteAt X p ok)) := Lib.hid (fun X hX => (rpaste_any a b sa sn sc sb bn bc X (by omega)).mono fun e w' h => by
      have h := join_paste h hX
      unfold PastePost at h
      rw [hpo] at h
      exact h)
    have HY : Hid (ok = true → ∃ k : Int, p = ⟨k, a.x ++ b.x, a.sp, a.g, a.f, a.t, true, a.ss⟩) := Lib.hid (fun h => by
      have := paste_yes (a := a) (b := b) (by rw [hpo]; exact h)
      rw [hpo] at this
      exact this)
    have HPO := Lib.hid hpo
    have hcat : (a.x.size + b.x.size > 9223372036854775807) = False := by
      rw [eq_iff_iff, iff_false]
      omega
    have hok : (ok != ok) = false := by cases ok <;> rfl
    clear hfw hs hs1 hs2 hpo
    clear HPO
    cases ok
    case false =>
      go_enter Try.func3, Try.ntmps3
      go_wp2_with (first
        | (go_at_call 7; (try rw [hW2]); (try rw [hW3]); (with_reducible refine HFE.out.mono ?_); rintro e w3 ⟨rfl, hw⟩; subst hw; clear y0 y1 y2 y3 y4 y5 y6 y7 z0 z1 z2 z3 z4 z5 z6 z7; (obtain ⟨⟨y0, y1, y2, y3, y4, y5, y6, y7⟩, z0, z1, z2, z3, z4, z5, z6, z7⟩ := HZ.out _ HB23.out); have HSA3 := Lib.hid (HSA.out.over HB3.out))
        | (go_at_call 9; (with_reducible refine (HP1.out _ HSA3.out).mono ?_); rintro e w4 ⟨ta, tn, tc, rfl, hsp, hb⟩; have HB4 := Lib.hid (below_up HB3.out hb); have HB24 := Lib.hid (below_up HB23.out hb); have HSP4 := Lib.hid hsp; have HSA4 := Lib.hid (HSA3.out.over hb); clear hb hsp y0 y1 y2 y3 y4 y5 y6 y7 z0 z1 z2 z3 z4 z5 z6 z7; have hb5 := below_up HB24.out ((Below.refl w4.heap.size w4).alloc (Nat.le_refl _) (.cells #[.int .i64 p.k, .string p.x, .bool p.sp, .string p.g, .int .i64 p.f, .int .i64 p.t, .bool p.d, .slice ta tn tc] 26)); (obtain ⟨⟨y0, y1, y2, y3, y4, y5, y6, y7⟩, z0, z1, z2, z3, z4, z5, z6, z7⟩ := HZ.out _ hb5); clear hb5)
        | (go_at_call 10; (with_reducible refine (HP2.out _ (HSA4.out.over ((Below.refl w4.heap.size w4).alloc (Nat.le_refl _) (_)))).mono ?_); rintro e w5 ⟨ua, un, uc, rfl, hsp, hb⟩; have HT5 := Lib.hid ((hb.block w4.heap.size (by simp)).trans (heap_alloc_new w4 (.cells #[.int .i64 p.k, .string p.x, .bool p.sp, .string p.g, .int .i64 p.f, .int .i64 p.t, .bool p.d, .slice ta tn tc] 26))); have hb := below_up ((Below.refl w4.heap.size w4).alloc (Nat.le_refl _) (_)) hb; have HB5 := Lib.hid (below_up HB4.out hb); have HB25 := Lib.hid (below_up HB24.out hb); have HSQ5 := Lib.hid hsp; have HSP5 := Lib.hid (HSP4.out.over hb); clear hb hsp y0 y1 y2 y3 y4 y5 y6 y7 z0 z1 z2 z3 z4 z5 z6 z7; (obtain ⟨t0, t1, t2, t3, t4, t5, t6, t7⟩ := cells8 ((((Below.refl w5.heap.size w5).alloc (Nat.le_refl _) (.cells #[.int .i64 p.k, .string p.x, .bool p.sp, .string p.g, .int .i64 p.f, .int .i64 p.t, .bool p.d, .slice ua un uc] 26)).block _ (row_lt HT5.out)).trans HT5.out)))
        | (go_at_call 11; (with_reducible refine (sameTok_any _ (HSP5.out.over ((Below.refl w5.heap.size w5).alloc (Nat.le_refl _) (_))) (HSQ5.out.over ((Below.refl w5.heap.size w5).alloc (Nat.le_refl _) (_)))).mono ?_); rintro e w6 ⟨rfl, hb⟩; have hb := below_up ((Below.refl w5.heap.size w5).alloc (Nat.le_refl _) (_)) hb; have HT6 := Lib.hid ((hb.block _ (row_lt HT5.out)).trans HT5.out); have HB6 := Lib.hid (below_up HB5.out hb); have HB26 := Lib.hid (below_up HB25.out hb); clear hb t0 t1 t2 t3 t4 t5 t6 t7; (obtain ⟨t0, t1, t2, t3, t4, t5, t6, t7⟩ := cells8 HT6.out); (obtain ⟨⟨y0, y1, y2, y3, y4, y5, y6, y7⟩, z0, z1, z2, z3, z4, z5, z6, z7⟩ := HZ.out _ HB26.out))
        | (go_at_call 8; (with_reducible refine (HA.out _).mono ?_); rintro e w7 ⟨rfl, hb⟩; have HB7 := Lib.hid (below_up HB6.out hb); clear hb))
      go_ret
      exact ⟨rfl, HB7.out⟩
    case true =>
      go_enter Try.func3, Try.ntmps3
      go_wp2_with (first
        | (go_at_call 7; (try rw [hW2]); (try rw [hW3]); (with_reducible refine HFE.out.mono ?_); rintro e w3 ⟨rfl, hw⟩; subst hw; clear y0 y1 y2 y3 y4 y5 y6 y7 z0 z1 z2 z3 z4 z5 z6 z7; (obtain ⟨⟨y0, y1, y2, y3, y4, y5, y6, y7⟩, z0, z1, z2, z3, z4, z5, z6, z7⟩ := HZ.out _ HB23.out); have HSA3 := Lib.hid (HSA.out.over HB3.out))
        | (go_at_call 9; (with_reducible refine (HP1.out _ HSA3.out).mono ?_); rintro e w4 ⟨ta, tn, tc, rfl, hsp, hb⟩; have HB4 := Lib.hid (below_up HB3.out hb); have HB24 := Lib.hid (below_up HB23.out hb); have HSP4 := Lib.hid hsp; have HSA4 := Lib.hid (HSA3.out.over hb); clear hb hsp y0 y1 y2 y3 y4 y5 y6 y7 z0 z1 z2 z3 z4 z5 z6 z7; have hb5 := below_up HB24.out ((Below.refl w4.heap.size w4).alloc (Nat.le_refl _) (.cells #[.int .i64 p.k, .string p.x, .bool p.sp, .string p.g, .int .i64 p.f, .int .i64 p.t, .bool p.d, .slice ta tn tc] 26)); (obtain ⟨⟨y0, y1, y2, y3, y4, y5, y6, y7⟩, z0, z1, z2, z3, z4, z5, z6, z7⟩ := HZ.out _ hb5); clear hb5)
        | (go_at_call 10; (with_reducible refine (HP2.out _ (HSA4.out.over ((Below.refl w4.heap.size w4).alloc (Nat.le_refl _) (_)))).mono ?_); rintro e w5 ⟨ua, un, uc, rfl, hsp, hb⟩; have HT5 := Lib.hid ((hb.block w4.heap.size (by simp)).trans (heap_alloc_new w4 (.cells #[.int .i64 p.k, .string p.x, .bool p.sp, .string p.g, .int .i64 p.f, .int .i64 p.t, .bool p.d, .slice ta tn tc] 26))); have hb := below_up ((Below.refl w4.heap.size w4).alloc (Nat.le_refl _) (_)) hb; have HB5 := Lib.hid (below_up HB4.out hb); have HB25 := Lib.hid (below_up HB24.out hb); have HSQ5 := Lib.hid hsp; have HSP5 := Lib.hid (HSP4.out.over hb); clear hb hsp y0 y1 y2 y3 y4 y5 y6 y7 z0 z1 z2 z3 z4 z5 z6 z7; (obtain ⟨t0, t1, t2, t3, t4, t5, t6, t7⟩ := cells8 ((((Below.refl w5.heap.size w5).alloc (Nat.le_refl _) (.cells #[.int .i64 p.k, .string p.x, .bool p.sp, .string p.g, .int .i64 p.f, .int .i64 p.t, .bool p.d, .slice ua un uc] 26)).block _ (row_lt HT5.out)).trans HT5.out)))
        | (go_at_call 11; (with_reducible refine (sameTok_any _ (HSP5.out.over ((Below.refl w5.heap.size w5).alloc (Nat.le_refl _) (_))) (HSQ5.out.over ((Below.refl w5.heap.size w5).alloc (Nat.le_refl _) (_)))).mono ?_); rintro e w6 ⟨rfl, hb⟩; have hb := below_up ((Below.refl w5.heap.size w5).alloc (Nat.le_refl _) (_)) hb; have HT6 := Lib.hid ((hb.block _ (row_lt HT5.out)).trans HT5.out); have HB6 := Lib.hid (below_up HB5.out hb); have HB26 := Lib.hid (below_up HB25.out hb); clear hb t0 t1 t2 t3 t4 t5 t6 t7; (obtain ⟨t0, t1, t2, t3, t4, t5, t6, t7⟩ := cells8 HT6.out); (obtain ⟨⟨y0, y1, y2, y3, y4, y5, y6, y7⟩, z0, z1, z2, z3, z4, z5, z6, z7⟩ := HZ.out _ HB26.out); ((obtain ⟨k, hpk⟩ := HY.out trivial); (have e1 : p.x = a.x ++ b.x := by rw [hpk]); (have e2 : p.sp = a.sp := by rw [hpk]); (have e3 : p.g = a.g := by rw [hpk]); (have e4 : p.f = a.f := by rw [hpk]); (have e5 : p.t = a.t := by rw [hpk]); (have e6 : p.d = true := by rw [hpk]); clear hpk))
        | (go_at_call 8; (with_reducible refine (HA.out _).mono ?_); rintro e w7 ⟨rfl, hb⟩; have HB7 := Lib.hid (below_up HB6.out hb); clear hb))
      go_ret
      exact ⟨rfl, HB7.out⟩

end Go.Proofs.Ytobplffailbkbaa

/-
  From a law's walk to its statement: each argument reads behind the call as it did.
-/
namespace Go.Proofs.Ytobplffailbkbaa
open Go.ChangeShapes Go.WideShapes Go.ChangeAt Go.RowKit

theorem lift_own : ownKnob Try.prog.godebug = none := by kernel_rfl
theorem lift_laid : laidOutB Try.prog = true := by kernel_rfl

/-- The post of a law that writes nothing that it was given, and says nothing of reading again. -/
theorem post_keep {H : Type} {enc : TypeId × Value → H} {P : Program} {f : Func} {s : ChangeSpec} {apart fresh handsOn : Bool} {W W' : World} {args : Array Value} {v : Value} {ds gs : List (DataW H)} {before pa : List MemPlace}
    (hW : DataW.Whole enc P f.params.toList s.vars apart W args.toList ds gs before)
    (hres : ∀ (b : Nat) (sp : Nat → Bool) (hd : Bool), DataW.TrodAll enc P W' b sp hd f.resultTypes.toList (v.resultList f.resultTypes.size) (s.fn H (ds ++ gs)).results [])
    (hargs : DataW.TrodAll enc P W' 0 (fun b => decide (b < W.heap.size)) true f.params.toList args.toList (s.fn H (ds ++ gs)).args pa)
    (hvars : ∀ sp : Nat → Bool, DataW.TrodVars enc P W' sp s.vars (s.fn H (ds ++ gs)).vars []) (hb : Below W.heap.size W W') :
    s.post enc P f apart fresh handsOn false W args v W' :=
  ⟨ds, gs, before, [], pa, [], hW, hres _ _ _, hargs, hvars _, hb.frame _, fun h => by cases h⟩

end Go.Proofs.Ytobplffailbkbaa

/-
  Tokens that came in, as the laws read them; and the table of words, as it lies when a call begins.
-/
namespace Go.Proofs.Ytobplffailbkbaa
open Go.ChangeShapes Go.WideShapes Go.ChangeAt Go.RowKit Go.ChangeMaps

theorem lift_cellTok : Try.prog.cellsOf 26 = 8 := by kernel_rfl
theorem lift_cellSit : Try.prog.cellsOf 48 = 5 := by kernel_rfl
theorem lift_cellSpan : Try.prog.cellsOf 23 = 3 := by kernel_rfl
theorem lift_cellSl : Try.prog.cellsOf 24 = 1 := by kernel_rfl
theorem lift_cellInt : Try.prog.cellsOf 3 = 1 := by kernel_rfl
theorem lift_cellStr : Try.prog.cellsOf 9 = 1 := by kernel_rfl
theorem lift_cellBool : Try.prog.cellsOf 4 = 1 := by kernel_rfl

theorem read_spot {W : World} {a : Addr} {v : Value} (h : W.cell? a = some v) : ∃ g o, a = ⟨g, o, none⟩ ∧ g < W.heap.size := by
  obtain ⟨g, o, sp⟩ := a
  have hsp : sp = none := by simpa using World.cell?_spot h
  subst hsp
  exact ⟨g, o, rfl, World.block_lt_of_cell? W _ h⟩

section
variable {H : Type} {enc : TypeId × Value → H} {W : World} {base : Nat} {sp : Nat → Bool} {held : Bool} {fuel : Nat}

set_option maxRecDepth 100000 in
theorem read_span {cs : List Value} {x : DataW H × List MemPlace} (h : DataW.trod enc Try.prog W base sp held fuel 23 cs = some x) : ∃ (s : ByteArray) (f t : Int), cs = [.string s, .int .i64 f, .int .i64 t] := by
  obtain ⟨ys, n', -, -, hcl, hyl, hf⟩ := DataW.trod_struct Try.underlying23 h
  rw [lift_cellSpan] at hcl
  match cs, hcl with
  | [c0, c1, c2], _ =>
    match ys, hyl with
    | [y0, y1, y2], _ =>
      have f0 := hf 0 _ rfl
      have f1 := hf 1 _ rfl
      have f2 := hf 2 _ rfl
      simp [lift_cellInt, lift_cellStr] at f0 f1 f2
      obtain ⟨s0, e0, -, -⟩ := DataW.trod_string Try.underlying9 f0
      obtain ⟨n1, e1, -, -⟩ := DataW.trod_int Try.underlying3 f1
      obtain ⟨n2, e2, -, -⟩ := DataW.trod_int Try.underlying3 f2
      simp only [List.cons.injEq, and_true] at e0 e1 e2
      subst e0 e1 e2
      exact ⟨s0, n1, n2, rfl⟩

set_option maxRecDepth 100000 in
theorem read_site {cs : List Value} {x : DataW H × List MemPlace} (h : DataW.trod enc Try.prog W base sp held fuel 48 cs = some x) : ∃ s : Xs, cs = scell s := by
  obtain ⟨ys, n', -, -, hcl, hyl, hf⟩ := DataW.trod_struct Try.underlying48 h
  rw [lift_cellSit] at hcl
  match cs, hcl with
  | [c0, c1, c2, c3, c4], _ =>
    match ys, hyl with
    | [y0, y1, y2], _ =>
      have f0 := hf 0 _ rfl
      have f1 := hf 1 _ rfl
      have f2 := hf 2 _ rfl
      simp [lift_cellSpan, lift_cellStr, lift_cellBool] at f0 f1 f2
      obtain ⟨s0, e0, -, -⟩ := DataW.trod_string Try.underlying9 f0
      obtain ⟨s1, n1, n2, e1⟩ := read_span f1
      obtain ⟨b2, e2, -⟩ := DataW.trod_bool Try.underlying4 f2
      simp only [List.cons.injEq, and_true] at e0 e1 e2
      obtain ⟨rfl, rfl, rfl⟩ := e1
      subst e0 e2
      exact ⟨⟨s0, s1, n1, n2, b2⟩, rfl⟩

set_option maxRecDepth 100000 in
theorem read_sites {a : Option Addr} {len cap : Nat} {x : DataW H × List MemPlace} (h : DataW.trod enc Try.prog W base sp held fuel 24 [.slice a len cap] = some x) : ∃ S : List Xs, SitsA S (.slice a len cap) W := by
  rcases Go.Deep.open_slice Try.underlying24 h with ⟨hcs, -⟩ | ⟨a0, len', cap', m, fu, D, Pl, hcs, -, hl, hm, hmm, -, hi⟩
  · simp only [List.cons.injEq, Value.slice.injEq, and_true] at hcs
    obtain ⟨rfl, rfl, rfl⟩ := hcs
    exact ⟨[], sits_nil W⟩
  · simp only [List.cons.injEq, Value.slice.injEq, and_true] at hcs
    obtain ⟨rfl, rfl, rfl⟩ := hcs
    have hlm : len ≤ m := by
      rw [hmm]
      split <;> omega
    have hz : 0 < len → ∃ g o, a0 = ⟨g, o, none⟩ ∧ g < W.heap.size := fun h0 => by
      obtain ⟨cs', hc, ht'⟩ := hi 0 (by omega)
      rw [lift_cellSit] at hc
      obtain ⟨-, hcl, hat⟩ := World.cells?_some hc
      obtain ⟨s, rfl⟩ := read_site ht'
      have g0 := hat 0 (by omega)
      rw [Go.Deep.add_add, show a0.add (0 * 5 + 0) = a0 from by simp [Addr.add]] at g0
      exact read_spot g0
    obtain ⟨S, hSl, hSp⟩ := pick_list (fun i (s : Xs) => ∃ g o, a0 = ⟨g, o, none⟩ ∧ g < W.heap.size ∧ SitA s g (o + i * 5) W) len (fun i hil => by
      obtain ⟨cs', hc, ht'⟩ := hi i (by omega)
      rw [lift_cellSit] at hc
      obtain ⟨-, hcl, hat⟩ := World.cells?_some hc
      obtain ⟨s, rfl⟩ := read_site ht'
      have g0 := hat 0 (by omega)
      have g1 := hat 1 (by omega)
      have g2 := hat 2 (by omega)
      have g3 := hat 3 (by omega)
      have g4 := hat 4 (by omega)
      rw [Go.Deep.add_add] at g0 g1 g2 g3 g4
      obtain ⟨g, o0, rfl, hg⟩ := hz (by omega)
      rw [addr_off] at g0 g1 g2 g3 g4
      exact ⟨s, g, o0, rfl, hg, g0, g1, g2, g3, g4⟩)
    refine ⟨S, some a0, cap, by rw [hSl], by omega, hm, fun k s hs => ?_⟩
    obtain ⟨g, o, ha, hg, hc⟩ := hSp k s hs
    exact ⟨g, o, by rw [ha], hg, hc⟩

set_option maxRecDepth 100000 in
theorem read_token {cs : List Value} {x : DataW H × List MemPlace} (h : DataW.trod enc Try.prog W base sp held fuel 26 cs = some x) : ∃ (t : Xt) (sv : Value), cs = xcell (t, sv) ∧ SitsA t.ss sv W := by
  obtain ⟨ys, n', -, -, hcl, hyl, hf⟩ := DataW.trod_struct Try.underlying26 h
  rw [lift_cellTok] at hcl
  match cs, hcl with
  | [c0, c1, c2, c3, c4, c5, c6, c7], _ =>
    match ys, hyl with
    | [y0, y1, y2, y3, y4, y5], _ =>
      have f0 := hf 0 _ rfl
      have f1 := hf 1 _ rfl
      have f2 := hf 2 _ rfl
      have f3 := hf 3 _ rfl
      have f4 := hf 4 _ rfl
      have f5 := hf 5 _ rfl
      simp [lift_cellSpan, lift_cellStr, lift_cellBool, lift_cellInt, lift_cellSl] at f0 f1 f2 f3 f4 f5
      obtain ⟨n0, e0, -, -⟩ := DataW.trod_int Try.underlying3 f0
      obtain ⟨s1, e1, -, -⟩ := DataW.trod_string Try.underlying9 f1
      obtain ⟨b2, e2, -⟩ := DataW.trod_bool Try.underlying4 f2
      obtain ⟨s3, n3, m3, e3⟩ := read_span f3
      obtain ⟨b4, e4, -⟩ := DataW.trod_bool Try.underlying4 f4
      have hs5 : ∃ a len cap, c7 = .slice a len cap := by
        rcases Go.Deep.open_slice Try.underlying24 f5 with ⟨hcs, -⟩ | ⟨a0, len', cap', m, fu, D, Pl, hcs, -⟩
        · simp only [List.cons.injEq, and_true] at hcs
          exact ⟨_, _, _, hcs⟩
        · simp only [List.cons.injEq, and_true] at hcs
          exact ⟨_, _, _, hcs⟩
      obtain ⟨a5, len5, cap5, rfl⟩ := hs5
      obtain ⟨S, hS⟩ := read_sites f5
      simp only [List.cons.injEq, and_true] at e0 e1 e2 e3 e4
      obtain ⟨rfl, rfl, rfl⟩ := e3
      subst e0 e1 e2 e4
      exact ⟨⟨n0, s1, b2, s3, n3, m3, b4, S⟩, _, rfl, hS⟩

set_option maxRecDepth 100000 in
theorem read_toks {a : Option Addr} {len cap : Nat} {x : DataW H × List MemPlace} (h : DataW.trod enc Try.prog W base sp held fuel 28 (Value.cells (.slice a len cap)).toList = some x) : ∃ T : List Xt, ToksX T (.slice a len cap) W := by
  rcases Go.Deep.open_slice Try.underlying28 h with ⟨hcs, -⟩ | ⟨a0, len', cap', m, fu, D, Pl, hcs, -, hl, hm, hmm, -, hi⟩
  · simp [Value.cells] at hcs
    obtain ⟨rfl, rfl, rfl⟩ := hcs
    exact ⟨[], toksX_nil W⟩
  · simp [Value.cells] at hcs
    obtain ⟨rfl, rfl, rfl⟩ := hcs
    have hlm : len ≤ m := by
      rw [hmm]
      split <;> omega
    have hz : 0 < len → ∃ g o, a0 = ⟨g, o, none⟩ ∧ g < W.heap.size := fun h0 => by
      obtain ⟨cs', hc, ht'⟩ := hi 0 (by omega)
      rw [lift_cellTok] at hc
      obtain ⟨-, hcl, hat⟩ := World.cells?_some hc
      obtain ⟨t, sv, rfl, hs⟩ := read_token ht'
      have g0 := hat 0 (by omega)
      rw [Go.Deep.add_add, show a0.add (0 * 8 + 0) = a0 from by simp [Addr.add]] at g0
      exact read_spot g0
    obtain ⟨T, hTl, hTp⟩ := pick_list (fun i (t : Xt) => ∃ g o, a0 = ⟨g, o, none⟩ ∧ g < W.heap.size ∧ ∃ sv, TokX t sv g (o + i * 8) W ∧ SitsA t.ss sv W) len (fun i hil => by
      obtain ⟨cs', hc, ht'⟩ := hi i (by omega)
      rw [lift_cellTok] at hc
      obtain ⟨-, hcl, hat⟩ := World.cells?_some hc
      obtain ⟨t, sv, rfl, hs⟩ := read_token ht'
      have g0 := hat 0 (by omega)
      have g1 := hat 1 (by omega)
      have g2 := hat 2 (by omega)
      have g3 := hat 3 (by omega)
      have g4 := hat 4 (by omega)
      have g5 := hat 5 (by omega)
      have g6 := hat 6 (by omega)
      have g7 := hat 7 (by omega)
      rw [Go.Deep.add_add] at g0 g1 g2 g3 g4 g5 g6 g7
      obtain ⟨g, o0, rfl, hg⟩ := hz (by omega)
      rw [addr_off] at g0 g1 g2 g3 g4 g5 g6 g7
      exact ⟨t, g, o0, rfl, hg, sv, ⟨g0, g1, g2, g3, g4, g5, g6, g7⟩, hs⟩)
    refine ⟨T, some a0, cap, by rw [hTl], by omega, hm, fun k t ht => ?_⟩
    obtain ⟨g, o, ha, hg, sv, hc⟩ := hTp k t ht
    exact ⟨g, o, by rw [ha], hg, sv, hc⟩
end

/-- An array of texts. -/
theorem cells_strs {H : Type} {enc : TypeId × Value → H} {w : World} {base : Nat} {sp : Nat → Bool} {held : Bool} {fuel : Nat} {t e : TypeId} {n : Nat} {cs : List Value} {zs : List (List UInt8)} {p : List MemPlace}
    (ht : Try.prog.underlying t = some (.array n e)) (he : Try.prog.underlying e = some .string) (hce : Try.prog.cellsOf e = 1)
    (h : DataW.trod enc Try.prog w base sp held fuel t cs = some (DataW.agg (zs.map fun z => (DataW.lit (Lit.string z) : DataW H)), p)) : ∀ (i : Nat) (z : List UInt8), zs[i]? = some z → cs[i]? = some (.string ⟨z.toArray⟩) := by
  obtain ⟨xs, m, -, hx, hcl, hxl, hat⟩ := DataW.trod_array ht h
  intro i z hz
  have hxs : xs.map (·.1) = zs.map fun z => (DataW.lit (.string z) : DataW H) := by
    have := congrArg Prod.fst hx
    simpa using this.symm
  have hi : i < n := by
    have h1 := (List.getElem?_eq_some_iff.1 hz).1
    have h2 := congrArg List.length hxs
    simp at h2
    omega
  have h1 := hat i hi
  rw [hce, Nat.mul_one] at h1
  have h2 : (xs.map (·.1))[i]? = some (DataW.lit (.string z)) := by
    rw [hxs, List.getElem?_map, hz]
    rfl
  rw [List.getElem?_map, Option.map_eq_some_iff] at h2
  obtain ⟨y, hy, hy1⟩ := h2
  rw [hy] at h1
  obtain ⟨s, hs, hys, -⟩ := DataW.trod_string he h1
  rw [hys] at hy1
  simp only [DataW.lit.injEq, Lit.string.injEq] at hy1
  have h3 : cs[i]? = some (.string s) := by
    have := congrArg (·[0]?) hs
    simpa [List.getElem?_take, List.getElem?_drop] using this
  rw [h3, ← hy1]

end Go.Proofs.Ytobplffailbkbaa
