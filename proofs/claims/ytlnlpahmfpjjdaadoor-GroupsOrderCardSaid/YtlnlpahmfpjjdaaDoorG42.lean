/-
  Texts of the proof, put together: GcCard, GrRead.
-/
import Derived.Test.YtlnlpahmfpjjdaaDoorG33
import Derived.Test.YtlnlpahmfpjjdaaDoorRows
import Derived.Test.YtlnlpahmfpjjdaaDoorG13
import Derived.Test.YtlnlpahmfpjjdaaDoorG14
import Derived.Deep.Slices
import Derived.Deep.Fields

/-
  What the listed table holds.
-/
namespace Go.Proofs.YtlnlpahmfpjjdaaDoor
open Go.ChangeShapes Go.WideShapes Go.ChangeAt Go.RowKit Go.ChangeMaps

def words8L : List (List UInt8) := [[], [], [105, 102], [105, 102, 100, 101, 102], [105, 102, 110, 100, 101, 102], [101, 108, 105, 102], [101, 108, 115, 101], [101, 110, 100, 105, 102], [105, 110, 99, 108, 117, 100, 101], [100, 101, 102, 105, 110, 101], [117, 110, 100, 101, 102], [108, 105, 110, 101], [101, 114, 114, 111, 114], [112, 114, 97, 103, 109, 97]]
theorem words8L_at : ∀ i, i < 14 → ∃ z, words8L[i]? = some z ∧ (⟨z.toArray⟩ : ByteArray) = wB i := by
  intro i hi
  have : i = 0 ∨ i = 1 ∨ i = 2 ∨ i = 3 ∨ i = 4 ∨ i = 5 ∨ i = 6 ∨ i = 7 ∨ i = 8 ∨ i = 9 ∨ i = 10 ∨ i = 11 ∨ i = 12 ∨ i = 13 := by omega
  rcases this with rfl | rfl | rfl | rfl | rfl | rfl | rfl | rfl | rfl | rfl | rfl | rfl | rfl | rfl <;> exact ⟨_, rfl, rfl⟩
theorem words8L_is {H : Type} : (Rows.laid_oxbow_direct_words : DataW H) = DataW.agg (words8L.map fun z => (DataW.lit (Lit.string z) : DataW H)) := rfl
theorem words8_global : Tryd.prog.globalNamed "oxbow/direct.words" = some 0 := by kernel_rfl
theorem words8_type : (Tryd.prog.globals[0]?).map (·.type) = some 78 := by kernel_rfl

theorem words8_laid {W : World} (h : laidMetH Tryd.prog [("oxbow/direct.words", Rows.laid_oxbow_direct_words)] W) : WordsAt 0 W ∧ 0 < W.heap.size := by
  rw [MakeChecks.laidMetH_plain _ _ _ (by kernel_rfl)] at h
  obtain ⟨ps, ⟨g', t', cs, fuel, p, q, hg', ht', hvar, hd, _, _⟩, _⟩ := h
  obtain rfl := Option.some.inj (words8_global.symm.trans hg')
  obtain rfl := Option.some.inj (words8_type.symm.trans ht')
  rw [words8L_is] at hd
  have hc := cells_strs Tryd.underlying78 Tryd.underlying9 lift_cellStr hd
  have hw : WordsAt 0 W := fun i hi => by
    obtain ⟨z, hz, hb⟩ := words8L_at i hi
    have h1 := hc i z hz
    rw [World.var?_cell words8_global hvar i, ← hb, ← h1]
    simp
  exact ⟨hw, World.block_lt_of_cell? W _ (hw 0 (by omega))⟩

end Go.Proofs.YtlnlpahmfpjjdaaDoor

/-
  Items that came in, as the law reads them.
-/
namespace Go.Proofs.YtlnlpahmfpjjdaaDoor
open Go.ChangeShapes Go.WideShapes Go.ChangeAt Go.RowKit Go.ChangeMaps

theorem lift_cellItm : Tryd.prog.cellsOf 102 = 3 := by kernel_rfl
theorem lift_cellArm : Tryd.prog.cellsOf 99 = 2 := by kernel_rfl
theorem lift_cellArms : Tryd.prog.cellsOf 100 = 1 := by kernel_rfl
theorem lift_cellItms : Tryd.prog.cellsOf 47 = 1 := by kernel_rfl
theorem lift_cellInt8 : Tryd.prog.cellsOf 3 = 1 := by kernel_rfl

theorem spot8 {W : World} {a : Addr} {v : Value} (h : W.cell? a = some v) : ∃ g o, a = ⟨g, o, none⟩ ∧ g < W.heap.size := by
  obtain ⟨g, o, sp⟩ := a
  have hsp : sp = none := by simpa using World.cell?_spot h
  subst hsp
  exact ⟨g, o, rfl, World.block_lt_of_cell? W _ h⟩

section
variable {H : Type} {enc : TypeId × Value → H} {W : World} {base : Nat} {sp : Nat → Bool} {held : Bool}

/-- A slice that is read is nil, or its elements lie behind one another. -/
theorem open_row {t e : TypeId} {size fuel : Nat} {cs : List Value} {x : DataW H × List MemPlace} (ht : Tryd.prog.underlying t = some (.slice e)) (hc : Tryd.prog.cellsOf e = size) (hpos : 0 < size) (h : DataW.trod enc Tryd.prog W base sp held fuel t cs = some x) :
    ∃ a len cap, cs = [.slice a len cap] ∧ len ≤ cap ∧ cap ≤ maxLen ∧ (len = 0 ∨ ∃ g o n, fuel = n + 1 ∧ a = some ⟨g, o, none⟩ ∧ g < W.heap.size ∧ ∀ i, i < len → ∃ cs', cs'.length = size ∧ (∀ j u, cs'[j]? = some u → W.cell? ⟨g, o + (i * size + j), none⟩ = some u) ∧ ∃ y, DataW.trod enc Tryd.prog W base sp held n e cs' = some y) := by
  rcases DataW.trod_slice ht h with ⟨rfl, -⟩ | ⟨a0, len, cap, elems, rest, n, hf, rfl, -, -, hl, hm, hel, hi, -⟩
  · exact ⟨none, 0, 0, rfl, Nat.le_refl _, Nat.zero_le _, .inl rfl⟩
  · refine ⟨some a0, len, cap, rfl, hl, hm, ?_⟩
    rcases Nat.eq_zero_or_pos len with h0 | h0
    · exact .inl h0
    · right
      have hget : ∀ i, i < len → ∃ cs', cs'.length = size ∧ (∀ j u, cs'[j]? = some u → W.cell? (a0.add (i * size + j)) = some u) ∧ ∃ y, DataW.trod enc Tryd.prog W base sp held n e cs' = some y := fun i hil => by
        have h1 := hi i hil
        rw [List.getElem?_eq_getElem (by omega), Option.bind_eq_some_iff] at h1
        obtain ⟨cs', hcs, hy⟩ := h1
        rw [hc] at hcs
        obtain ⟨-, hcl, hat⟩ := World.cells?_some hcs
        refine ⟨cs', hcl, fun j u hu => ?_, _, hy⟩
        have h2 := hat j (by have := (List.getElem?_eq_some_iff.1 hu).1; omega)
        rw [Go.Deep.add_add] at h2
        rw [h2, hu]
      obtain ⟨cs0, hl0, hat0, -⟩ := hget 0 h0
      obtain ⟨u, hu⟩ : ∃ u, cs0[0]? = some u := ⟨_, List.getElem?_eq_getElem (by omega)⟩
      have h3 := hat0 0 u hu
      rw [show a0.add (0 * size + 0) = a0 from by simp [Addr.add]] at h3
      obtain ⟨g, o, rfl, hg⟩ := spot8 h3
      refine ⟨g, o, n, hf, rfl, hg, fun i hil => ?_⟩
      obtain ⟨cs', k1, k2, k3⟩ := hget i hil
      exact ⟨cs', k1, fun j u hu => by have := k2 j u hu; rw [addr_off] at this; exact this, k3⟩

set_option maxRecDepth 100000 in
theorem read_items : ∀ (fuel : Nat) (a : Option Addr) (len cap : Nat) (x : DataW H × List MemPlace), DataW.trod enc Tryd.prog W base sp held fuel 47 [.slice a len cap] = some x → ∃ l : List Itm, ItsAt fuel l (.slice a len cap) W := by
  intro fuel
  induction fuel using Nat.strongRecOn with
  | ind fuel ih =>
    intro a len cap x h
    obtain ⟨a', len', cap', hcs, hl, hm, hcase⟩ := open_row Tryd.underlying47 lift_cellItm (by decide) h
    simp only [List.cons.injEq, Value.slice.injEq, and_true] at hcs
    obtain ⟨rfl, rfl, rfl⟩ := hcs
    rcases hcase with rfl | ⟨g, o, n, rfl, rfl, hg, hat⟩
    · refine ⟨[], its_up (Nat.zero_le _) ⟨a, cap, rfl, hl, hm, fun k s h => by simp at h⟩⟩
    · obtain ⟨l, hll, hlp⟩ := pick_list (fun i (it : Itm) => ∃ av, ItmA it av g (o + i * 3) W ∧ ArmsOf (ItsAt n) it.arms av W) len (fun i hil => by
        obtain ⟨cs', hcl, hc, y, hy⟩ := hat i hil
        obtain ⟨ys, n1, hn1, -, -, hyl, hf⟩ := DataW.trod_struct Tryd.underlying102 hy
        match cs', hcl with
        | [c0, c1, c2], _ =>
          match ys, hyl with
          | [y0, y1, y2], _ =>
            have f0 := hf 0 _ rfl
            have f1 := hf 1 _ rfl
            have f2 := hf 2 _ rfl
            simp [lift_cellInt8, lift_cellArms] at f0 f1 f2
            obtain ⟨n0, e0, -, -⟩ := DataW.trod_int Tryd.underlying3 f0
            obtain ⟨m1, e1, -, -⟩ := DataW.trod_int Tryd.underlying3 f1
            simp only [List.cons.injEq, and_true] at e0 e1
            subst e0 e1
            obtain ⟨aa, al, ac, hac, hal, ham, hacase⟩ := open_row Tryd.underlying100 lift_cellArm (by decide) f2
            simp only [List.cons.injEq, and_true] at hac
            subst hac
            have g0 := hc 0 _ rfl
            have g1 := hc 1 _ rfl
            have g2 := hc 2 _ rfl
            rw [show o + (i * 3 + 0) = o + i * 3 from by omega] at g0
            rw [show o + (i * 3 + 1) = o + i * 3 + 1 from by omega] at g1
            rw [show o + (i * 3 + 2) = o + i * 3 + 2 from by omega] at g2
            have harms : ∃ qs : List (Int × List Itm), ArmsOf (ItsAt n) qs (.slice aa al ac) W := by
              rcases hacase with rfl | ⟨g', o', n2, hn2, rfl, hg', hat'⟩
              · exact ⟨[], aa, ac, rfl, hal, ham, fun k s h => by simp at h⟩
              · obtain ⟨qs, hql, hqp⟩ := pick_list (fun j (q : Int × List Itm) => ∃ iv, ArmA q iv g' (o' + j * 2) W ∧ ItsAt n q.2 iv W) al (fun j hjl => by
                  obtain ⟨ds', hdl, hd, z, hz⟩ := hat' j hjl
                  obtain ⟨zs, n3, hn3, -, -, hzl, hzf⟩ := DataW.trod_struct Tryd.underlying99 hz
                  match ds', hdl with
                  | [b0, b1], _ =>
                    match zs, hzl with
                    | [z0, z1], _ =>
                      have q0 := hzf 0 _ rfl
                      have q1 := hzf 1 _ rfl
                      simp [lift_cellInt8, lift_cellItms] at q0 q1
                      obtain ⟨m0, r0, -, -⟩ := DataW.trod_int Tryd.underlying3 q0
                      simp only [List.cons.injEq, and_true] at r0
                      subst r0
                      have hform : ∃ ia im ic, b1 = .slice ia im ic := by
                        obtain ⟨ia, im, ic, he, -⟩ := open_row Tryd.underlying47 lift_cellItm (by decide) q1
                        simp only [List.cons.injEq, and_true] at he
                        exact ⟨ia, im, ic, he⟩
                      obtain ⟨ia, im, ic, rfl⟩ := hform
                      obtain ⟨l2, hl2⟩ := ih n3 (by omega) ia im ic _ q1
                      have s0 := hd 0 _ rfl
                      have s1 := hd 1 _ rfl
                      rw [show o' + (j * 2 + 0) = o' + j * 2 from by omega] at s0
                      rw [show o' + (j * 2 + 1) = o' + j * 2 + 1 from by omega] at s1
                      exact ⟨(m0, l2), _, ⟨s0, s1⟩, its_up (by omega) hl2⟩)
                exact ⟨qs, some ⟨g', o', none⟩, ac, by rw [hql], by omega, ham, fun j q hq => ⟨g', o', rfl, hg', hqp j q hq⟩⟩
            obtain ⟨qs, hqs⟩ := harms
            exact ⟨.mk n0 m1 qs, _, ⟨g0, g1, g2⟩, hqs⟩)
      exact ⟨l, some ⟨g, o, none⟩, cap, by rw [hll], by omega, hm, fun k it hit => ⟨g, o, rfl, hg, hlp k it hit⟩⟩
end

end Go.Proofs.YtlnlpahmfpjjdaaDoor
