/-
  Texts of the proof, put together: DkRead, MtRead.
-/
import Derived.Test.YtipipookgcdfbaaG27
import Derived.Test.YtipipookgcdfbaaG43
import Derived.Deep.Slices
import Derived.Deep.Fields
import Derived.LaidLaws
import Derived.MakeChecks
import Derived.SliceStrings

/-
  Tokens that came in, as the laws read them; and the table of words, as it lies when a call begins.
-/
namespace Go.Proofs.Ytipipookgcdfbaa
open Go.ChangeShapes Go.WideShapes Go.ChangeAt Go.RowKit Go.ChangeMaps

theorem lift_cellTok : Try.prog.cellsOf 50 = 8 := by kernel_rfl
theorem lift_cellSit : Try.prog.cellsOf 67 = 5 := by kernel_rfl
theorem lift_cellSpan : Try.prog.cellsOf 25 = 3 := by kernel_rfl
theorem lift_cellSl : Try.prog.cellsOf 48 = 1 := by kernel_rfl
theorem lift_cellInt : Try.prog.cellsOf 3 = 1 := by kernel_rfl
theorem lift_cellStr : Try.prog.cellsOf 9 = 1 := by kernel_rfl
theorem lift_cellBool : Try.prog.cellsOf 4 = 1 := by kernel_rfl

theorem read_spot {W : World} {a : Addr} {v : Value} (h : W.cell? a = some v) : ∃ g o, a = ⟨g, o, none⟩ ∧ g < W.heap.size := by
  obtain ⟨g, o, sp⟩ := a
  have hsp : sp = none := by simpa using World.cell?_spot h
  subst hsp
  exact ⟨g, o, rfl, World.block_lt_of_cell? W _ h⟩

section
variable {H : Type} {enc : TypeId × Value → H} {W : World} {base : Nat} {sp : Nat → Bool} {held : Bool} {fuel : Nat}

set_option maxRecDepth 100000 in
theorem read_span {cs : List Value} {x : DataW H × List MemPlace} (h : DataW.trod enc Try.prog W base sp held fuel 25 cs = some x) : ∃ (s : ByteArray) (f t : Int), cs = [.string s, .int .i64 f, .int .i64 t] := by
  obtain ⟨ys, n', -, -, hcl, hyl, hf⟩ := DataW.trod_struct Try.underlying25 h
  rw [lift_cellSpan] at hcl
  match cs, hcl with
  | [c0, c1, c2], _ =>
    match ys, hyl with
    | [y0, y1, y2], _ =>
      have f0 := hf 0 _ rfl
      have f1 := hf 1 _ rfl
      have f2 := hf 2 _ rfl
      simp [lift_cellInt, lift_cellStr] at f0 f1 f2
      obtain ⟨s0, e0, -, -⟩ := DataW.trod_string Try.underlying9 f0
      obtain ⟨n1, e1, -, -⟩ := DataW.trod_int Try.underlying3 f1
      obtain ⟨n2, e2, -, -⟩ := DataW.trod_int Try.underlying3 f2
      simp only [List.cons.injEq, and_true] at e0 e1 e2
      subst e0 e1 e2
      exact ⟨s0, n1, n2, rfl⟩

set_option maxRecDepth 100000 in
theorem read_site {cs : List Value} {x : DataW H × List MemPlace} (h : DataW.trod enc Try.prog W base sp held fuel 67 cs = some x) : ∃ s : Xs, cs = scell s := by
  obtain ⟨ys, n', -, -, hcl, hyl, hf⟩ := DataW.trod_struct Try.underlying67 h
  rw [lift_cellSit] at hcl
  match cs, hcl with
  | [c0, c1, c2, c3, c4], _ =>
    match ys, hyl with
    | [y0, y1, y2], _ =>
      have f0 := hf 0 _ rfl
      have f1 := hf 1 _ rfl
      have f2 := hf 2 _ rfl
      simp [lift_cellSpan, lift_cellStr, lift_cellBool] at f0 f1 f2
      obtain ⟨s0, e0, -, -⟩ := DataW.trod_string Try.underlying9 f0
      obtain ⟨s1, n1, n2, e1⟩ := read_span f1
      obtain ⟨b2, e2, -⟩ := DataW.trod_bool Try.underlying4 f2
      simp only [List.cons.injEq, and_true] at e0 e1 e2
      obtain ⟨rfl, rfl, rfl⟩ := e1
      subst e0 e2
      exact ⟨⟨s0, s1, n1, n2, b2⟩, rfl⟩

set_option maxRecDepth 100000 in
theorem read_sites {a : Option Addr} {len cap : Nat} {x : DataW H × List MemPlace} (h : DataW.trod enc Try.prog W base sp held fuel 48 [.slice a len cap] = some x) : ∃ S : List Xs, SitsA S (.slice a len cap) W := by
  rcases Go.Deep.open_slice Try.underlying48 h with ⟨hcs, -⟩ | ⟨a0, len', cap', m, fu, D, Pl, hcs, -, hl, hm, hmm, -, hi⟩
  · simp only [List.cons.injEq, Value.slice.injEq, and_true] at hcs
    obtain ⟨rfl, rfl, rfl⟩ := hcs
    exact ⟨[], sits_nil W⟩
  · simp only [List.cons.injEq, Value.slice.injEq, and_true] at hcs
    obtain ⟨rfl, rfl, rfl⟩ := hcs
    have hlm : len ≤ m := by
      rw [hmm]
      split <;> omega
    have hz : 0 < len → ∃ g o, a0 = ⟨g, o, none⟩ ∧ g < W.heap.size := fun h0 => by
      obtain ⟨cs', hc, ht'⟩ := hi 0 (by omega)
      rw [lift_cellSit] at hc
      obtain ⟨-, hcl, hat⟩ := World.cells?_some hc
      obtain ⟨s, rfl⟩ := read_site ht'
      have g0 := hat 0 (by omega)
      rw [Go.Deep.add_add, show a0.add (0 * 5 + 0) = a0 from by simp [Addr.add]] at g0
      exact read_spot g0
    obtain ⟨S, hSl, hSp⟩ := pick_list (fun i (s : Xs) => ∃ g o, a0 = ⟨g, o, none⟩ ∧ g < W.heap.size ∧ SitA s g (o + i * 5) W) len (fun i hil => by
      obtain ⟨cs', hc, ht'⟩ := hi i (by omega)
      rw [lift_cellSit] at hc
      obtain ⟨-, hcl, hat⟩ := World.cells?_some hc
      obtain ⟨s, rfl⟩ := read_site ht'
      have g0 := hat 0 (by omega)
      have g1 := hat 1 (by omega)
      have g2 := hat 2 (by omega)
      have g3 := hat 3 (by omega)
      have g4 := hat 4 (by omega)
      rw [Go.Deep.add_add] at g0 g1 g2 g3 g4
      obtain ⟨g, o0, rfl, hg⟩ := hz (by omega)
      rw [addr_off] at g0 g1 g2 g3 g4
      exact ⟨s, g, o0, rfl, hg, g0, g1, g2, g3, g4⟩)
    refine ⟨S, some a0, cap, by rw [hSl], by omega, hm, fun k s hs => ?_⟩
    obtain ⟨g, o, ha, hg, hc⟩ := hSp k s hs
    exact ⟨g, o, by rw [ha], hg, hc⟩

set_option maxRecDepth 100000 in
theorem read_token {cs : List Value} {x : DataW H × List MemPlace} (h : DataW.trod enc Try.prog W base sp held fuel 50 cs = some x) : ∃ (t : Xt) (sv : Value), cs = xcell (t, sv) ∧ SitsA t.ss sv W := by
  obtain ⟨ys, n', -, -, hcl, hyl, hf⟩ := DataW.trod_struct Try.underlying50 h
  rw [lift_cellTok] at hcl
  match cs, hcl with
  | [c0, c1, c2, c3, c4, c5, c6, c7], _ =>
    match ys, hyl with
    | [y0, y1, y2, y3, y4, y5], _ =>
      have f0 := hf 0 _ rfl
      have f1 := hf 1 _ rfl
      have f2 := hf 2 _ rfl
      have f3 := hf 3 _ rfl
      have f4 := hf 4 _ rfl
      have f5 := hf 5 _ rfl
      simp [lift_cellSpan, lift_cellStr, lift_cellBool, lift_cellInt, lift_cellSl] at f0 f1 f2 f3 f4 f5
      obtain ⟨n0, e0, -, -⟩ := DataW.trod_int Try.underlying3 f0
      obtain ⟨s1, e1, -, -⟩ := DataW.trod_string Try.underlying9 f1
      obtain ⟨b2, e2, -⟩ := DataW.trod_bool Try.underlying4 f2
      obtain ⟨s3, n3, m3, e3⟩ := read_span f3
      obtain ⟨b4, e4, -⟩ := DataW.trod_bool Try.underlying4 f4
      have hs5 : ∃ a len cap, c7 = .slice a len cap := by
        rcases Go.Deep.open_slice Try.underlying48 f5 with ⟨hcs, -⟩ | ⟨a0, len', cap', m, fu, D, Pl, hcs, -⟩
        · simp only [List.cons.injEq, and_true] at hcs
          exact ⟨_, _, _, hcs⟩
        · simp only [List.cons.injEq, and_true] at hcs
          exact ⟨_, _, _, hcs⟩
      obtain ⟨a5, len5, cap5, rfl⟩ := hs5
      obtain ⟨S, hS⟩ := read_sites f5
      simp only [List.cons.injEq, and_true] at e0 e1 e2 e3 e4
      obtain ⟨rfl, rfl, rfl⟩ := e3
      subst e0 e1 e2 e4
      exact ⟨⟨n0, s1, b2, s3, n3, m3, b4, S⟩, _, rfl, hS⟩

set_option maxRecDepth 100000 in
theorem read_toks {a : Option Addr} {len cap : Nat} {x : DataW H × List MemPlace} (h : DataW.trod enc Try.prog W base sp held fuel 22 (Value.cells (.slice a len cap)).toList = some x) : ∃ T : List Xt, ToksX T (.slice a len cap) W := by
  rcases Go.Deep.open_slice Try.underlying22 h with ⟨hcs, -⟩ | ⟨a0, len', cap', m, fu, D, Pl, hcs, -, hl, hm, hmm, -, hi⟩
  · simp [Value.cells] at hcs
    obtain ⟨rfl, rfl, rfl⟩ := hcs
    exact ⟨[], toksX_nil W⟩
  · simp [Value.cells] at hcs
    obtain ⟨rfl, rfl, rfl⟩ := hcs
    have hlm : len ≤ m := by
      rw [hmm]
      split <;> omega
    have hz : 0 < len → ∃ g o, a0 = ⟨g, o, none⟩ ∧ g < W.heap.size := fun h0 => by
      obtain ⟨cs', hc, ht'⟩ := hi 0 (by omega)
      rw [lift_cellTok] at hc
      obtain ⟨-, hcl, hat⟩ := World.cells?_some hc
      obtain ⟨t, sv, rfl, hs⟩ := read_token ht'
      have g0 := hat 0 (by omega)
      rw [Go.Deep.add_add, show a0.add (0 * 8 + 0) = a0 from by simp [Addr.add]] at g0
      exact read_spot g0
    obtain ⟨T, hTl, hTp⟩ := pick_list (fun i (t : Xt) => ∃ g o, a0 = ⟨g, o, none⟩ ∧ g < W.heap.size ∧ ∃ sv, TokX t sv g (o + i * 8) W ∧ SitsA t.ss sv W) len (fun i hil => by
      obtain ⟨cs', hc, ht'⟩ := hi i (by omega)
      rw [lift_cellTok] at hc
      obtain ⟨-, hcl, hat⟩ := World.cells?_some hc
      obtain ⟨t, sv, rfl, hs⟩ := read_token ht'
      have g0 := hat 0 (by omega)
      have g1 := hat 1 (by omega)
      have g2 := hat 2 (by omega)
      have g3 := hat 3 (by omega)
      have g4 := hat 4 (by omega)
      have g5 := hat 5 (by omega)
      have g6 := hat 6 (by omega)
      have g7 := hat 7 (by omega)
      rw [Go.Deep.add_add] at g0 g1 g2 g3 g4 g5 g6 g7
      obtain ⟨g, o0, rfl, hg⟩ := hz (by omega)
      rw [addr_off] at g0 g1 g2 g3 g4 g5 g6 g7
      exact ⟨t, g, o0, rfl, hg, sv, ⟨g0, g1, g2, g3, g4, g5, g6, g7⟩, hs⟩)
    refine ⟨T, some a0, cap, by rw [hTl], by omega, hm, fun k t ht => ?_⟩
    obtain ⟨g, o, ha, hg, sv, hc⟩ := hTp k t ht
    exact ⟨g, o, by rw [ha], hg, sv, hc⟩
end

/-- An array of texts. -/
theorem cells_strs {H : Type} {enc : TypeId × Value → H} {w : World} {base : Nat} {sp : Nat → Bool} {held : Bool} {fuel : Nat} {t e : TypeId} {n : Nat} {cs : List Value} {zs : List (List UInt8)} {p : List MemPlace}
    (ht : Try.prog.underlying t = some (.array n e)) (he : Try.prog.underlying e = some .string) (hce : Try.prog.cellsOf e = 1)
    (h : DataW.trod enc Try.prog w base sp held fuel t cs = some (DataW.agg (zs.map fun z => (DataW.lit (Lit.string z) : DataW H)), p)) : ∀ (i : Nat) (z : List UInt8), zs[i]? = some z → cs[i]? = some (.string ⟨z.toArray⟩) := by
  obtain ⟨xs, m, -, hx, hcl, hxl, hat⟩ := DataW.trod_array ht h
  intro i z hz
  have hxs : xs.map (·.1) = zs.map fun z => (DataW.lit (.string z) : DataW H) := by
    have := congrArg Prod.fst hx
    simpa using this.symm
  have hi : i < n := by
    have h1 := (List.getElem?_eq_some_iff.1 hz).1
    have h2 := congrArg List.length hxs
    simp at h2
    omega
  have h1 := hat i hi
  rw [hce, Nat.mul_one] at h1
  have h2 : (xs.map (·.1))[i]? = some (DataW.lit (.string z)) := by
    rw [hxs, List.getElem?_map, hz]
    rfl
  rw [List.getElem?_map, Option.map_eq_some_iff] at h2
  obtain ⟨y, hy, hy1⟩ := h2
  rw [hy] at h1
  obtain ⟨s, hs, hys, -⟩ := DataW.trod_string he h1
  rw [hys] at hy1
  simp only [DataW.lit.injEq, Lit.string.injEq] at hy1
  have h3 : cs[i]? = some (.string s) := by
    have := congrArg (·[0]?) hs
    simpa [List.getElem?_take, List.getElem?_drop] using this
  rw [h3, ← hy1]

end Go.Proofs.Ytipipookgcdfbaa

/-
  Macros that came in, as the laws read them.
-/
namespace Go.Proofs.Ytipipookgcdfbaa
open Go.ChangeShapes Go.WideShapes Go.ChangeAt Go.RowKit Go.ChangeMaps

theorem lift_cellMac : Try.prog.cellsOf 27 = 8 := by kernel_rfl
theorem lift_cellStrs : Try.prog.cellsOf 23 = 1 := by kernel_rfl
theorem lift_cellToks : Try.prog.cellsOf 22 = 1 := by kernel_rfl

theorem mcells_at : ∀ (P : List Mv) (j : Nat) (u : Value), (mcells P)[j]? = some u → ∃ i x k, P[i]? = some x ∧ (mcell x)[k]? = some u ∧ j = i * 8 + k
  | [], j, u, h => by simp [mcells] at h
  | a :: r, j, u, h => by
    have h : (mcell a ++ mcells r)[j]? = some u := h
    rcases Nat.lt_or_ge j 8 with hj | hj
    · rw [List.getElem?_append_left (by show j < 8; omega)] at h
      exact ⟨0, a, j, rfl, h, by omega⟩
    · rw [List.getElem?_append_right (by show 8 ≤ j; omega)] at h
      obtain ⟨i, x, k, h1, h2, h3⟩ := mcells_at r (j - 8) u h
      exact ⟨i + 1, x, k, by simpa using h1, h2, by omega⟩

section
variable {H : Type} {enc : TypeId × Value → H} {W : World} {base : Nat} {sp : Nat → Bool} {held : Bool} {fuel : Nat}

theorem read_strV {a : Option Addr} {len cap : Nat} {x : DataW H × List MemPlace} (h : DataW.trod enc Try.prog W base sp held fuel 23 [.slice a len cap] = some x) : ∃ S : List ByteArray, StrsV S (.slice a len cap) W ∧ ∀ s ∈ S, s.size ≤ maxLen := by
  rcases open_strings Try.underlying23 Try.underlying9 lift_cellStr h with ⟨hcs, -⟩ | ⟨a0, len', cap', ss, hcs, -, hl, hm, hz, -, hcell, hsz⟩
  · simp only [List.cons.injEq, Value.slice.injEq, and_true] at hcs
    obtain ⟨rfl, rfl, rfl⟩ := hcs
    exact ⟨[], strsV_nil W, fun s hs => by cases hs⟩
  · simp only [List.cons.injEq, Value.slice.injEq, and_true] at hcs
    obtain ⟨rfl, rfl, rfl⟩ := hcs
    have hlen : len ≤ ss.length := by
      rw [hz]
      split <;> omega
    have htl : (ss.take len).length = len := by rw [List.length_take]; omega
    refine ⟨ss.take len, ⟨some a0, cap, by rw [htl], by omega, hm, fun k s hk => ?_⟩, fun s hs => hsz s (List.mem_of_mem_take hs)⟩
    have hkl := (List.getElem?_eq_some_iff.1 hk).1
    rw [htl] at hkl
    rw [List.getElem?_take_of_lt hkl] at hk
    have h0 := hcell 0 (by omega)
    rw [show a0.add 0 = a0 from by simp [Addr.add]] at h0
    obtain ⟨g, o, rfl, hg⟩ := read_spot h0
    have hc := hcell k (by omega)
    rw [addr_off, List.getD_eq_getElem?_getD, hk] at hc
    exact ⟨g, o, rfl, hg, hc⟩

/-- The names and the parameters are texts as they may be. -/
def MvFit (x : Mv) : Prop := x.m.n.size ≤ maxLen ∧ ∀ s ∈ x.m.ps, s.size ≤ maxLen

set_option maxRecDepth 100000 in
theorem read_mac {cs : List Value} {x : DataW H × List MemPlace} (h : DataW.trod enc Try.prog W base sp held fuel 27 cs = some x) : ∃ m : Mv, cs = mcell m ∧ MacAt m.m m.pv m.bv W ∧ MvFit m := by
  obtain ⟨ys, n', -, -, hcl, hyl, hf⟩ := DataW.trod_struct Try.underlying27 h
  rw [lift_cellMac] at hcl
  match cs, hcl with
  | [c0, c1, c2, c3, c4, c5, c6, c7], _ =>
    match ys, hyl with
    | [y0, y1, y2, y3, y4, y5], _ =>
      have f0 := hf 0 _ rfl
      have f1 := hf 1 _ rfl
      have f2 := hf 2 _ rfl
      have f3 := hf 3 _ rfl
      have f4 := hf 4 _ rfl
      have f5 := hf 5 _ rfl
      simp [lift_cellSpan, lift_cellStr, lift_cellBool, lift_cellStrs, lift_cellToks] at f0 f1 f2 f3 f4 f5
      obtain ⟨s0, e0, -, hs0⟩ := DataW.trod_string Try.underlying9 f0
      obtain ⟨b1, e1, -⟩ := DataW.trod_bool Try.underlying4 f1
      obtain ⟨b2, e2, -⟩ := DataW.trod_bool Try.underlying4 f2
      obtain ⟨s5, n5, m5, e5⟩ := read_span f5
      have h3 : ∃ a len cap, c3 = .slice a len cap := by
        rcases Go.Deep.open_slice Try.underlying23 f3 with ⟨hcs, -⟩ | ⟨a0, len', cap', m, fu, D, Pl, hcs, -⟩
        · simp only [List.cons.injEq, and_true] at hcs
          exact ⟨_, _, _, hcs⟩
        · simp only [List.cons.injEq, and_true] at hcs
          exact ⟨_, _, _, hcs⟩
      have h4 : ∃ a len cap, c4 = .slice a len cap := by
        rcases Go.Deep.open_slice Try.underlying22 f4 with ⟨hcs, -⟩ | ⟨a0, len', cap', m, fu, D, Pl, hcs, -⟩
        · simp only [List.cons.injEq, and_true] at hcs
          exact ⟨_, _, _, hcs⟩
        · simp only [List.cons.injEq, and_true] at hcs
          exact ⟨_, _, _, hcs⟩
      obtain ⟨a3, l3, k3, rfl⟩ := h3
      obtain ⟨a4, l4, k4, rfl⟩ := h4
      obtain ⟨S, hS, hSb⟩ := read_strV f3
      obtain ⟨T, hT⟩ := read_toks (a := a4) (len := l4) (cap := k4) f4
      simp only [List.cons.injEq, and_true] at e0 e1 e2 e5
      obtain ⟨rfl, rfl, rfl⟩ := e5
      subst e0 e1 e2
      exact ⟨⟨⟨s0, b1, b2, S, T, s5, n5, m5⟩, _, _⟩, rfl, ⟨hS, hT⟩, hs0, hSb⟩

end

end Go.Proofs.Ytipipookgcdfbaa
