/-
  Texts of the proof, put together: DkCard.
-/
import Derived.Test.YtlnlpahmfpjjdaaDoorG33
import Derived.Test.YtlnlpahmfpjjdaaDoorG58
import Derived.Test.YtlnlpahmfpjjdaaDoorG59
import Derived.Test.YtlnlpahmfpjjdaaDoorRows

/-
  What the listed table holds, and the laws as the lifts want them.
-/
namespace Go.Proofs.YtlnlpahmfpjjdaaDoor
open Go.ChangeShapes Go.WideShapes Go.ChangeAt Go.RowKit Go.ChangeMaps

def wordsL : List (List UInt8) := [[], [], [105, 102], [105, 102, 100, 101, 102], [105, 102, 110, 100, 101, 102], [101, 108, 105, 102], [101, 108, 115, 101], [101, 110, 100, 105, 102], [105, 110, 99, 108, 117, 100, 101], [100, 101, 102, 105, 110, 101], [117, 110, 100, 101, 102], [108, 105, 110, 101], [101, 114, 114, 111, 114], [112, 114, 97, 103, 109, 97]]
theorem wordsL_at : ∀ i, i < 14 → ∃ z, wordsL[i]? = some z ∧ (⟨z.toArray⟩ : ByteArray) = wB i := by
  intro i hi
  have : i = 0 ∨ i = 1 ∨ i = 2 ∨ i = 3 ∨ i = 4 ∨ i = 5 ∨ i = 6 ∨ i = 7 ∨ i = 8 ∨ i = 9 ∨ i = 10 ∨ i = 11 ∨ i = 12 ∨ i = 13 := by omega
  rcases this with rfl | rfl | rfl | rfl | rfl | rfl | rfl | rfl | rfl | rfl | rfl | rfl | rfl | rfl <;> exact ⟨_, rfl, rfl⟩
theorem wordsL_is {H : Type} : (Rows.laid_oxbow_direct_words : DataW H) = DataW.agg (wordsL.map fun z => (DataW.lit (Lit.string z) : DataW H)) := rfl
theorem words_global : Tryd.prog.globalNamed "oxbow/direct.words" = some 0 := by kernel_rfl
theorem words_type : (Tryd.prog.globals[0]?).map (·.type) = some 78 := by kernel_rfl

theorem words_laid {W : World} (h : laidMetH Tryd.prog [("oxbow/direct.words", Rows.laid_oxbow_direct_words)] W) : WordsAt 0 W ∧ 0 < W.heap.size := by
  rw [MakeChecks.laidMetH_plain _ _ _ (by kernel_rfl)] at h
  obtain ⟨ps, ⟨g', t', cs, fuel, p, q, hg', ht', hvar, hd, _, _⟩, _⟩ := h
  obtain rfl := Option.some.inj (words_global.symm.trans hg')
  obtain rfl := Option.some.inj (words_type.symm.trans ht')
  rw [wordsL_is] at hd
  have hc := cells_strs Tryd.underlying78 Tryd.underlying9 lift_cellStr hd
  have hw : WordsAt 0 W := fun i hi => by
    obtain ⟨z, hz, hb⟩ := wordsL_at i hi
    have h1 := hc i z hz
    rw [World.var?_cell words_global hvar i, ← hb, ← h1]
    simp
  exact ⟨hw, World.block_lt_of_cell? W _ (hw 0 (by omega))⟩

theorem kinds_all {a : Option Addr} {n cap : Nat} {T : List Xt} (kd : Int) (W : World) (h : ToksX T (.slice a n cap) W) (hW : WordsAt 0 W) (h0 : 0 < W.heap.size) :
    Calls Tryd.prog 3 #[.slice a n cap, .int .i64 kd] W fun e w' => e = .returned (.bool true) ∧ Below W.heap.size W w' := kinds_law kd h hW h0
theorem rest_all {a : Option Addr} {n cap : Nat} {T : List Xt} (W : World) (h : ToksX T (.slice a n cap) W) (hW : WordsAt 0 W) (h0 : 0 < W.heap.size) :
    Calls Tryd.prog 5 #[.slice a n cap] W fun e w' => e = .returned (.bool true) ∧ Below W.heap.size W w' := rest_law h hW h0

end Go.Proofs.YtlnlpahmfpjjdaaDoor
