/-
  Texts of the proof, put together: DkTC, McMem, McTake, McAdd, McPar, McHead, McBody, McMis, McRef, McParse.
-/
import Derived.Test.YtobplffailbkbaaG12
import Derived.Test.YtobplffailbkbaaG11
import Derived.Maps.OwnSet
import Derived.StillTailTactics
import Derived.BigRegion
import Derived.Carry

/-
  tokens.Clone, walked.
-/
namespace Go.Proofs.Ytobplffailbkbaa
open Go.RowKit

/-- The clone, as a row that the call owns. -/
def ToksOwn (W : World) (T : List Xt) (end_ : Ending) (w' : World) : Prop := ∃ a n cap P, end_ = .returned (.slice a n cap) ∧ n = T.length ∧ ClT W T a n cap P w' ∧ ∀ p ∈ P, ∀ g, g < W.heap.size → OffG g p.2
/-- The sites of the first k are new. -/
def FreshS (W : World) (P : List (Xt × Value)) (k : Nat) : Prop := ∀ j p, j < k → P[j]? = some p → ∀ g, g < W.heap.size → OffG g p.2
theorem FreshS.put {W : World} {P : List (Xt × Value)} {k : Nat} {t : Xt} {nv : Value} (h : FreshS W P k) (hn : ∀ g, g < W.heap.size → OffG g nv) : FreshS W (P.set k (t, nv)) (k + 1) := by
  intro j p hj hp g hg
  by_cases e : j = k
  · subst e
    rw [List.getElem?_set_self' ] at hp
    cases hq : P[j]? with
    | none => rw [hq] at hp; cases hp
    | some q =>
      rw [hq] at hp
      simp only [Option.map_eq_map, Option.map_some, Option.some.injEq, Function.const_apply] at hp
      subst hp
      exact hn g hg
  · rw [List.getElem?_set_ne (fun x => e x.symm)] at hp
    exact h j p (by omega) hp g hg

set_option maxRecDepth 100000 in
set_option maxHeartbeats 3200000 in
theorem tclone_own {T : List Xt} {a : Option Addr} {n c : Nat} {w : World} (h : ToksX T (.slice a n c) w) (hT : T.length ≤ 500000) (hS : ∀ t ∈ T, t.ss.length ≤ 500000) :
    Calls Try.prog 56 #[.slice a n c] w (ToksOwn w T) := by
  have hn := h.len.1
  have HN := Lib.hid hn
  have HCL := Lib.hid (cloneToks_any h hT)
  have HS := Lib.hid hS
  have hn5 : n ≤ 500000 := by omega
  clear h hn hS hT
  go_enter Try.func56, Try.ntmps56
  go_wp2_with (go_at_call 73; (with_reducible refine (HCL.out).mono ?_); rintro e w3 ⟨a3, c3, P0, rfl, h3⟩; have H3 := Lib.hid h3; clear h3)
  clear HCL
  go_loopw [9] (fun s wr => ∃ (k : Nat) (P : List (Xt × Value)), s = .int .i64 (k : Int) ∧ k ≤ n ∧ ClT w T a3 n c3 P wr ∧ FreshS w P k) (fun s _ => n - (intOf s).toNat)
  case atStart => exact ⟨0, P0, rfl, Nat.zero_le _, H3.out, fun j p hj => by omega⟩
  case round =>
    obtain ⟨k, P, rfl, hk, hC, hFS⟩ := hrel
    have HFS := Lib.hid hFS
    clear hFS
    have HC := Lib.hid hC
    by_cases hlt : k < n
    · have hPl : P.length = n := by rw [HN.out, ← hC.map, List.length_map]
      obtain ⟨⟨t, sv⟩, hp⟩ : ∃ p, P[k]? = some p := ⟨_, List.getElem?_eq_getElem (by omega)⟩
      obtain ⟨sa, sn, sc, hv, -⟩ := (hC.sits _ (List.mem_of_getElem? hp)).form
      simp only at hv
      subst hv
      have hst := hC.sits _ (List.mem_of_getElem? hp)
      simp only at hst
      have htT : t ∈ T := by rw [← hC.map]; exact List.mem_map.2 ⟨_, List.mem_of_getElem? hp, rfl⟩
      obtain ⟨a4, c4, hv4, hc1, hc2, hcell⟩ := row_form hC.up.1
      simp only [Value.slice.injEq, true_and] at hv4
      obtain ⟨rfl, rfl⟩ := hv4
      have hg := fun j (hj : j < 8) => flat_get (f := xcell) (n := 8) (fun _ => rfl) P k _ hp j hj
      obtain ⟨rg, rfl, hrg, k0⟩ := hcell (k * 8 + 0) _ ((hg 0 (by omega)).trans rfl)
      have hkc : ∀ j u, j < 8 → (xcell (t, .slice sa sn sc))[j]? = some u → wr.cell? ⟨rg, k * 8 + j, none⟩ = some u := by
        intro j u hj hu
        obtain ⟨g', hg', -, e⟩ := hcell (k * 8 + j) u ((hg j hj).trans hu)
        simp only [Option.some.injEq, Addr.mk.injEq, and_true] at hg'
        rw [hg']
        exact e
      have e0 : wr.cell? ⟨rg, k * 8, none⟩ = some (.int .i64 t.k) := k0
      have e1 : wr.cell? ⟨rg, k * 8 + 1, none⟩ = some (.string t.x) := hkc 1 _ (by omega) rfl
      have e2 : wr.cell? ⟨rg, k * 8 + 2, none⟩ = some (.bool t.sp) := hkc 2 _ (by omega) rfl
      have e3 : wr.cell? ⟨rg, k * 8 + 3, none⟩ = some (.string t.g) := hkc 3 _ (by omega) rfl
      have e4 : wr.cell? ⟨rg, k * 8 + 4, none⟩ = some (.int .i64 t.f) := hkc 4 _ (by omega) rfl
      have e5 : wr.cell? ⟨rg, k * 8 + 5, none⟩ = some (.int .i64 t.t) := hkc 5 _ (by omega) rfl
      have e6 : wr.cell? ⟨rg, k * 8 + 6, none⟩ = some (.bool t.d) := hkc 6 _ (by omega) rfl
      have e7 : wr.cell? ⟨rg, k * 8 + 7, none⟩ = some (.slice sa sn sc) := hkc 7 _ (by omega) rfl
      have HE7 := Lib.hid e7
      have HFZ := Lib.hid (own_freeX hC.up.1)
      have hkI : (k : Int) < (n : Int) := by omega
      have hk0 : (0 : Int) ≤ (k : Int) := by omega
      have HP := Lib.hid hp
      have HRG := Lib.hid hrg
      have HSC : Hid (∀ X : World, Below wr.heap.size wr X → Calls Try.prog 22 #[.slice sa sn sc] X (SitsNew X t.ss)) := Lib.hid (fun X hX => cloneSits_any (hst.over hX) (HS.out t htT))
      unfold maxLen at hc2
      clear hC hPl hst htT hcell hg k0 hkc hp hrg
      go_wp2_with (go_at_call 22; (with_reducible refine (HSC.out _ ((Below.refl _ _).alloc (Nat.le_refl _) _)).mono ?_); rintro e w4 ⟨na, nn, nc, rfl, hs4, hb4, ho4⟩; have HB4 : Hid (Below wr.heap.size wr w4) := Lib.hid (below_up ((Below.refl wr.heap.size wr).alloc (Nat.le_refl _) _) hb4); have HS4 := Lib.hid hs4; have HO5 : Hid (∀ g, g < w.heap.size → OffG g (.slice na nn nc)) := Lib.hid (fun g hg => ho4 g (by have := HC.out.up.2.size; simp; omega)); have HO4 : Hid (OffG rg (.slice na nn nc)) := Lib.hid (ho4 rg (by have := HRG.out; simp; omega)); have q7 : w4.cell? ⟨rg, k * 8 + 7, none⟩ = some (.slice sa sn sc) := (bcell HB4.out HE7.out HRG.out); have z7 : w4.frozen? ⟨rg, k * 8 + 7, none⟩ = false := (HB4.out.frozen (p := ⟨rg, k * 8 + 7, none⟩) HRG.out).trans (HFZ.out _); clear hs4 hb4 ho4)
      have HNX := Lib.hid ((HC.out.over HB4.out).put HP.out HS4.out HO4.out)
      go_roundw
      case rel => exact ⟨k + 1, _, by go_num, hlt, HNX.out, HFS.out.put HO5.out⟩
      case measure => simp [intOf]; omega
    · have hkI : ¬ (k : Int) < (n : Int) := by omega
      go_wp2
      go_ret
      exact ⟨a3, n, c3, P, rfl, HN.out, hC, fun p hp => by
        obtain ⟨j, hj, rfl⟩ := List.getElem_of_mem hp
        have hPl : P.length = n := by rw [HN.out, ← hC.map, List.length_map]
        exact HFS.out j _ (by omega) (List.getElem?_eq_getElem hj)⟩

theorem tclone_any {T : List Xt} {a : Option Addr} {n c : Nat} {w : World} (h : ToksX T (.slice a n c) w) (hT : T.length ≤ 500000) (hS : ∀ t ∈ T, t.ss.length ≤ 500000) :
    Calls Try.prog 56 #[.slice a n c] w (ToksNew w T) :=
  (tclone_own h hT hS).mono fun _ _ ⟨a3, n3, c3, _, he, hn, hC, _⟩ => ⟨a3, n3, c3, he, hn, hC.toks, hC.up.2⟩

end Go.Proofs.Ytobplffailbkbaa

/-
  Macros in memory; the reader of a definition, as it lies while it reads.
-/
namespace Go.Proofs.Ytobplffailbkbaa
open Go.RowKit

/-- A row of texts, as it is read. -/
def StrsV (S : List ByteArray) (v : Value) (w : World) : Prop :=
  ∃ a cap, v = .slice a S.length cap ∧ S.length ≤ cap ∧ cap ≤ maxLen ∧ ∀ k s, S[k]? = some s → ∃ g o, a = some ⟨g, o, none⟩ ∧ g < w.heap.size ∧ w.cell? ⟨g, o + k, none⟩ = some (.string s)
theorem StrsV.over {S : List ByteArray} {v : Value} {w w' : World} (h : StrsV S v w) (b : Below w.heap.size w w') : StrsV S v w' := by
  obtain ⟨a, cap, hv, h1, h2, h3⟩ := h
  refine ⟨a, cap, hv, h1, h2, fun k s hs => ?_⟩
  obtain ⟨g, o, ha, hg, hc⟩ := h3 k s hs
  exact ⟨g, o, ha, Nat.lt_of_lt_of_le hg b.size, bcell b hc hg⟩
theorem StrsV.form {S : List ByteArray} {v : Value} {w : World} (h : StrsV S v w) : ∃ a n cap, v = .slice a n cap := by
  obtain ⟨a, cap, hv, -⟩ := h
  exact ⟨a, _, cap, hv⟩
theorem StrsV.len {S : List ByteArray} {a : Option Addr} {n cap : Nat} {w : World} (h : StrsV S (.slice a n cap) w) : n = S.length ∧ n ≤ cap ∧ cap ≤ maxLen := by
  obtain ⟨a', cap', hv, h1, h2, -⟩ := h
  simp only [Value.slice.injEq] at hv
  obtain ⟨-, e1, e2⟩ := hv
  exact ⟨e1, by omega, by omega⟩
theorem StrsV.get {S : List ByteArray} {a : Option Addr} {n cap : Nat} {w : World} (h : StrsV S (.slice a n cap) w) {k : Nat} {s : ByteArray} (hs : S[k]? = some s) : ∃ g o, a = some ⟨g, o, none⟩ ∧ g < w.heap.size ∧ w.cell? ⟨g, o + k, none⟩ = some (.string s) := by
  obtain ⟨a', cap', hv, -, -, h3⟩ := h
  simp only [Value.slice.injEq] at hv
  obtain ⟨g, o, ha, hg, hc⟩ := h3 k s hs
  exact ⟨g, o, by rw [hv.1]; exact ha, hg, hc⟩
theorem strsV_nil (w : World) : StrsV [] (.slice none 0 0) w := ⟨none, 0, rfl, Nat.le_refl _, Nat.zero_le _, fun k s h => by simp at h⟩
theorem strsV_row {B : Nat} {S : List ByteArray} {v : Value} {w : World} (h : w.ownsRow B 9 1 v S.length (S.map Value.string)) : StrsV S v w := by
  obtain ⟨a, cap, hv, h1, h2, h3⟩ := row_form h
  refine ⟨a, cap, hv, h1, h2, fun k s hs => ?_⟩
  obtain ⟨g, hg, hlt, hc⟩ := h3 k (.string s) (by rw [List.getElem?_map, hs]; rfl)
  exact ⟨g, 0, hg, hlt, by rw [Nat.zero_add]; exact hc⟩

/-- A macro's value. -/
def macV (m : Xm) (pv bv : Value) : Value := .agg #[.string m.n, .bool m.fn, .bool m.va, pv, bv, .string m.g, .int .i64 m.f, .int .i64 m.t]
def MacAt (m : Xm) (pv bv : Value) (w : World) : Prop := StrsV m.ps pv w ∧ ToksX m.bd bv w
theorem MacAt.over {m : Xm} {pv bv : Value} {w w' : World} (h : MacAt m pv bv w) (b : Below w.heap.size w w') : MacAt m pv bv w' := ⟨h.1.over b, h.2.over b⟩

/-- How a map's element reads: a number, whichever. -/
def numElem (v : Value) : Option (DataW Unit × List MemPlace) := match v with
  | .int .i64 c => some (.lit (.int .i64 c), [])
  | _ => none
theorem numElem_inv {v : Value} {d : DataW Unit} {ps : List MemPlace} (h : numElem v = some (d, ps)) : ∃ c, v = .int .i64 c ∧ d = .lit (.int .i64 c) := by
  unfold numElem at h
  split at h
  · simp only [Option.some.injEq, Prod.mk.injEq] at h
    exact ⟨_, rfl, h.1.symm⟩
  · cases h
theorem strKeyM : Maps.Keyed Try.prog 9 := Maps.string_keyed Try.underlying9
theorem keyM (s : ByteArray) (h : s.size ≤ maxLen) : keyOf Try.prog 9 (.string s) = some (.string s.data.toList) := WideMaps.keyOf_string_mk Try.underlying9 h

end Go.Proofs.Ytobplffailbkbaa

/-
  A sign, if it is the next one: the reader's take.
-/
namespace Go.Proofs.Ytobplffailbkbaa
open Go.RowKit

set_option maxRecDepth 100000 in
/-- l[1:] of tokens. -/
theorem slice1_run (g o n cap : Nat) (h1 : 1 ≤ n) (h3 : n ≤ cap) : ∃ o', (n = 1 ∨ o' = o + 8) ∧ ∀ w, (Instr.slice 28 (.slice (some ⟨g, o, none⟩) n cap) (some (.int .i64 1)) none none).run Try.prog w = .ok (.slice (some ⟨g, o', none⟩) (n - 1) (cap - 1)) w := by
  refine ⟨if cap = 1 then o else o + 8, ?_, fun w => ?_⟩
  · split
    · left; omega
    · right; rfl
  · have a1 : (1 : Int) ≤ (n : Int) := by omega
    have a2 : (1 : Int) ≤ (cap : Int) := by omega
    have a3 : (n : Int) ≤ (cap : Int) := by omega
    have a5 : Try.prog.cellsOf 26 = 8 := by kernel_rfl
    by_cases hc : cap = 1
    · obtain rfl : n = 1 := by omega
      subst hc
      simp [Instr.slice, run_underlying Try.underlying28, Instr.sliceBounds, run_sliceBound, Addr.add, *]
    · have hc' : (cap == 1) = false := by simpa using hc
      simp [Instr.slice, run_underlying Try.underlying28, Instr.sliceBounds, run_sliceBound, Addr.add, *]

theorem drop1_toks {t : Xt} {T : List Xt} {g o o' n cap : Nat} {w : World} (h : ToksX (t :: T) (.slice (some ⟨g, o, none⟩) n cap) w) (ho : n = 1 ∨ o' = o + 8) : ToksX T (.slice (some ⟨g, o', none⟩) (n - 1) (cap - 1)) w := by
  obtain ⟨hn, hc1, hc2⟩ := h.len
  simp only [List.length_cons] at hn
  refine ⟨some ⟨g, o', none⟩, cap - 1, by rw [hn, Nat.add_sub_cancel], by omega, by omega, fun k u hu => ?_⟩
  obtain ⟨g', o2, sa, sn, sc, ha, hg, -, hx, hs⟩ := h.get (k := k + 1) (by rw [List.getElem?_cons_succ]; exact hu)
  obtain ⟨rfl, rfl⟩ : g = g' ∧ o = o2 := by simpa using ha
  have hk := (List.getElem?_eq_some_iff.1 hu).1
  have e : o' = o + 8 := by
    rcases ho with h | h
    · omega
    · exact h
  refine ⟨g, o', rfl, hg, _, ?_, hs⟩
  rw [e, show o + 8 + k * 8 = o + (k + 1) * 8 from by omega]
  exact hx

end Go.Proofs.Ytobplffailbkbaa

/-
  A parameter, behind the others: the reader's add and param.
-/
namespace Go.Proofs.Ytobplffailbkbaa
open Go.RowKit Go.Maps

theorem Try.infoStrM : (Try.prog.info? 9).map (fun i => (i.zero, i.size, i.bytes)) = some (some (.string ⟨#[]⟩), 1, 16) := by kernel_rfl
theorem zeroM (w : World) : (zeroValue 3).run Try.prog w = .ok (.int .i64 0) w := by kernel_rfl

theorem lit_ne {x s : ByteArray} (h : x ≠ s) : Lit.string x.data.toList ≠ Lit.string s.data.toList := by
  intro e
  simp only [Lit.string.injEq] at e
  apply h
  apply ByteArray.ext
  exact Array.toList_inj.1 e
theorem memB_more (x s : ByteArray) (ps : List ByteArray) : memB x (ps ++ [s]) = (memB x ps || decide (s = x)) := by
  unfold memB
  simp
theorem has_more {D d : DataW Unit} {ps : List ByteArray} {s : ByteArray} (hD : IsMap D) (h : ∀ x : ByteArray, Maps.has D (.string x.data.toList) = memB x ps) (x : ByteArray) : Maps.has (D.put (.string s.data.toList) d) (.string x.data.toList) = memB x (ps ++ [s]) := by
  rw [memB_more]
  by_cases e : s = x
  · subst e
    rw [has_put_same hD (by simp [WideAt.IsKeyLit])]
    simp
  · rw [has_put_other (fun h => lit_ne (fun y => e y.symm) h), h]
    simp [e]

end Go.Proofs.Ytobplffailbkbaa

/-
  A parameter that has a name: the reader's param.
-/
namespace Go.Proofs.Ytobplffailbkbaa
open Go.RowKit Go.Maps

theorem va_list : vaB.toList = [95, 95, 86, 65, 95, 65, 82, 71, 83, 95, 95] := by rw [ByteArray.toList_eq]
theorem va_is (x : ByteArray) : (x.toList == [95, 95, 86, 65, 95, 65, 82, 71, 83, 95, 95]) = decide (x = vaB) := by rw [← va_list, str_is]

end Go.Proofs.Ytobplffailbkbaa

/-
  The row of parameters: the reader's head.
-/
namespace Go.Proofs.Ytobplffailbkbaa
open Go.RowKit Go.Maps

abbrev hm (nm : ByteArray) (fn va : Bool) (ps : List ByteArray) (g : ByteArray) (f t : Int) : Xm := ⟨nm, fn, va, ps, [], g, f, t⟩

end Go.Proofs.Ytobplffailbkbaa

/-
  What is left, as a body: the reader's body.
-/
namespace Go.Proofs.Ytobplffailbkbaa
open Go.RowKit Go.Maps

end Go.Proofs.Ytobplffailbkbaa

/-
  The first token of a body that may not stand there: the reader's isParam and misfit.
-/
namespace Go.Proofs.Ytobplffailbkbaa
open Go.RowKit Go.Maps

theorem isPar_not {ps : List ByteArray} {T : List Xt} {j : Nat} (h : T.length ≤ j) : isPar ps T j = false := by
  unfold isPar
  rw [List.getElem?_eq_none h]
theorem isPar_at {ps : List ByteArray} {T : List Xt} {j : Nat} {t : Xt} (h : T[j]? = some t) : isPar ps T j = (decide (t.k = 1) && memB t.x ps) := by
  unfold isPar
  rw [h]


/-- A token's box. -/
def BoxT (t : Xt) (sv : Value) (g : Nat) (w : World) : Prop :=
  w.cell? ⟨g, 0, none⟩ = some (.int .i64 t.k) ∧ w.cell? ⟨g, 1, none⟩ = some (.string t.x) ∧ w.cell? ⟨g, 2, none⟩ = some (.bool t.sp) ∧ w.cell? ⟨g, 3, none⟩ = some (.string t.g) ∧
  w.cell? ⟨g, 4, none⟩ = some (.int .i64 t.f) ∧ w.cell? ⟨g, 5, none⟩ = some (.int .i64 t.t) ∧ w.cell? ⟨g, 6, none⟩ = some (.bool t.d) ∧ w.cell? ⟨g, 7, none⟩ = some sv
theorem BoxT.next {t : Xt} {sv : Value} {g : Nat} {w w' : World} (h : BoxT t sv g w) (b : Below w.heap.size w w') (hg : g < w.heap.size) : BoxT t sv g w' := by
  obtain ⟨c0, c1, c2, c3, c4, c5, c6, c7⟩ := h
  exact ⟨bcell b c0 hg, bcell b c1 hg, bcell b c2 hg, bcell b c3 hg, bcell b c4 hg, bcell b c5 hg, bcell b c6 hg, bcell b c7 hg⟩

def misI (o : Option Nat) : Int := match o with
  | none => -1
  | some i => (i : Int)
theorem mis_at {fn va : Bool} {ps : List ByteArray} {T : List Xt} {k : Nat} {t : Xt} (ht : T[k]? = some t) (hb : ∀ j u, j < k → T[j]? = some u → illX fn va ps T j u = false) (h : illX fn va ps T k t = true) : (k : Int) = misI (misL fn va ps T T.length 0) := by
  rcases misL_is (fn := fn) (va := va) (ps := ps) (T := T) T.length 0 (by omega) with ⟨-, h2⟩ | ⟨j, u, -, h2, h3, h4, h5⟩
  · rw [h2 k t (Nat.zero_le _) ht] at h
    cases h
  · rw [h3]
    rcases Nat.lt_trichotomy k j with hk | hk | hk
    · rw [h5 k t (Nat.zero_le _) hk ht] at h
      cases h
    · rw [hk]
      rfl
    · rw [hb j u hk h2] at h4
      cases h4
theorem mis_none {fn va : Bool} {ps : List ByteArray} {T : List Xt} (hb : ∀ j u, j < T.length → T[j]? = some u → illX fn va ps T j u = false) : (-1 : Int) = misI (misL fn va ps T T.length 0) := by
  rcases misL_is (fn := fn) (va := va) (ps := ps) (T := T) T.length 0 (by omega) with ⟨h1, -⟩ | ⟨j, u, -, h2, -, h4, -⟩
  · rw [h1]
    rfl
  · rw [hb j u (List.getElem?_eq_some_iff.1 h2).1 h2] at h4
    cases h4

theorem mis_ways (bp b0 b1 bh fnb bi bk bx vab : Bool) : (bp = true ∧ b0 = true) ∨ (bp = true ∧ b0 = false ∧ b1 = true) ∨ ((bp = false) ∧ bh = true ∧ fnb = true ∧ bi = false) ∨ ((bp = false) ∧ (bh = false) ∧ bk = false) ∨ ((bp = false) ∧ (bh = false) ∧ bk = true ∧ bx = false) ∨ ((bp = false) ∧ (bh = false) ∧ bk = true ∧ bx = true ∧ vab = true) ∨ ((bp = false) ∧ (bh = false) ∧ bk = true ∧ bx = true ∧ vab = false) ∨ ((bp = false) ∧ (bh = true ∧ fnb = false) ∧ bk = false) ∨ ((bp = false) ∧ (bh = true ∧ fnb = false) ∧ bk = true ∧ bx = false) ∨ ((bp = false) ∧ (bh = true ∧ fnb = false) ∧ bk = true ∧ bx = true ∧ vab = true) ∨ ((bp = false) ∧ (bh = true ∧ fnb = false) ∧ bk = true ∧ bx = true ∧ vab = false) ∨ ((bp = false) ∧ (bh = true ∧ fnb = true ∧ bi = true) ∧ bk = false) ∨ ((bp = false) ∧ (bh = true ∧ fnb = true ∧ bi = true) ∧ bk = true ∧ bx = false) ∨ ((bp = false) ∧ (bh = true ∧ fnb = true ∧ bi = true) ∧ bk = true ∧ bx = true ∧ vab = true) ∨ ((bp = false) ∧ (bh = true ∧ fnb = true ∧ bi = true) ∧ bk = true ∧ bx = true ∧ vab = false) ∨ ((bp = true ∧ b0 = false ∧ b1 = false) ∧ bh = true ∧ fnb = true ∧ bi = false) ∨ ((bp = true ∧ b0 = false ∧ b1 = false) ∧ (bh = false) ∧ bk = false) ∨ ((bp = true ∧ b0 = false ∧ b1 = false) ∧ (bh = false) ∧ bk = true ∧ bx = false) ∨ ((bp = true ∧ b0 = false ∧ b1 = false) ∧ (bh = false) ∧ bk = true ∧ bx = true ∧ vab = true) ∨ ((bp = true ∧ b0 = false ∧ b1 = false) ∧ (bh = false) ∧ bk = true ∧ bx = true ∧ vab = false) ∨ ((bp = true ∧ b0 = false ∧ b1 = false) ∧ (bh = true ∧ fnb = false) ∧ bk = false) ∨ ((bp = true ∧ b0 = false ∧ b1 = false) ∧ (bh = true ∧ fnb = false) ∧ bk = true ∧ bx = false) ∨ ((bp = true ∧ b0 = false ∧ b1 = false) ∧ (bh = true ∧ fnb = false) ∧ bk = true ∧ bx = true ∧ vab = true) ∨ ((bp = true ∧ b0 = false ∧ b1 = false) ∧ (bh = true ∧ fnb = false) ∧ bk = true ∧ bx = true ∧ vab = false) ∨ ((bp = true ∧ b0 = false ∧ b1 = false) ∧ (bh = true ∧ fnb = true ∧ bi = true) ∧ bk = false) ∨ ((bp = true ∧ b0 = false ∧ b1 = false) ∧ (bh = true ∧ fnb = true ∧ bi = true) ∧ bk = true ∧ bx = false) ∨ ((bp = true ∧ b0 = false ∧ b1 = false) ∧ (bh = true ∧ fnb = true ∧ bi = true) ∧ bk = true ∧ bx = true ∧ vab = true) ∨ ((bp = true ∧ b0 = false ∧ b1 = false) ∧ (bh = true ∧ fnb = true ∧ bi = true) ∧ bk = true ∧ bx = true ∧ vab = false) := by
  cases bp <;> cases b0 <;> cases b1 <;> cases bh <;> cases fnb <;> cases bi <;> cases bk <;> cases bx <;> cases vab <;> simp

end Go.Proofs.Ytobplffailbkbaa

/-
  Names that no macro may have; a definition that is refused.
-/
namespace Go.Proofs.Ytobplffailbkbaa
open Go.RowKit Go.Maps

theorem lit_list (a : ByteArray) : a.toList = a.data.toList := ByteArray.toList_eq a
theorem df_is (x : ByteArray) : (x.toList == [100, 101, 102, 105, 110, 101, 100]) = decide (x = dfB) := by rw [← str_is, lit_list dfB]
theorem fl_is (x : ByteArray) : (x.toList == [95, 95, 70, 73, 76, 69, 95, 95]) = decide (x = flB) := by rw [← str_is, lit_list flB]
theorem ln_is (x : ByteArray) : (x.toList == [95, 95, 76, 73, 78, 69, 95, 95]) = decide (x = lnB) := by rw [← str_is, lit_list lnB]

theorem new_two (w : World) (o o' : Obj) {cs : Array Value} {T : TypeId} (j : Nat) (u : Value) (h : cs[j]? = some u) : (((w.alloc o).alloc o').alloc (.cells cs T)).drew.cell? ⟨w.heap.size + 1 + 1, j, none⟩ = some u := by
  have e : ((w.alloc o).alloc o').heap.size = w.heap.size + 1 + 1 := by simp
  have h1 : (((w.alloc o).alloc o').alloc (.cells cs T)).cell? ⟨((w.alloc o).alloc o').heap.size, j, none⟩ = some u := by
    rw [Lib.cell_of_heap (heap_alloc_new _ _)]
    exact h
  rw [e] at h1
  exact h1
def RefusedAt (W : World) (i : Ill) (e : Ending) (w' : World) : Prop :=
  ∃ g, e = .returned (.tuple #[.agg #[.string ⟨#[]⟩, .bool false, .bool false, .slice none 0 0, .slice none 0 0, .string ⟨#[]⟩, .int .i64 0, .int .i64 0], .slice (some ⟨g, 0, none⟩) 1 1]) ∧ Below W.heap.size W w' ∧ W.heap.size ≤ g ∧ g < w'.heap.size ∧ w'.cell? ⟨g, 0, none⟩ = some (.int .i64 i.c) ∧ w'.cell? ⟨g, 1, none⟩ = some (.string i.g) ∧ w'.cell? ⟨g, 2, none⟩ = some (.int .i64 i.f) ∧ w'.cell? ⟨g, 3, none⟩ = some (.int .i64 i.t)

end Go.Proofs.Ytobplffailbkbaa

/-
  Parse.
-/
namespace Go.Proofs.Ytobplffailbkbaa
open Go.RowKit Go.Maps

theorem parse_kind {t : Xt} {r : List Xt} (h : t.k ≠ 1) : parseL (t :: r) = .inr (illOf 4 t) := by
  show (if t.k ≠ 1 then _ else _) = _
  rw [if_pos h]
theorem parse_res {t : Xt} {r : List Xt} (h : t.k = 1) (h' : resB t.x = true) : parseL (t :: r) = .inr (illOf 5 t) := by
  show (if t.k ≠ 1 then _ else if resB t.x then _ else _) = _
  rw [if_neg (fun x => x h), h']
  rfl
theorem parse_go {t : Xt} {r : List Xt} (h : t.k = 1) (h' : resB t.x = false) : parseL (t :: r) = match headL r with
      | none => .inr (illOf 5 t)
      | some (fn, va, ps, q) => match misL fn va ps (bareL q) (bareL q).length 0 with
        | some i => match (bareL q)[i]? with
          | some u => .inr (illOf 5 u)
          | none => .inr (illOf 5 t)
        | none => .inl ⟨t.x, fn, va, ps, bareL q, t.g, t.f, t.t⟩ := by
  show (if t.k ≠ 1 then _ else if resB t.x then _ else _) = _
  rw [if_neg (fun x => x h), h']
  rfl

def zeroObj : Obj := .cells #[.string ⟨#[]⟩, .bool false, .bool false, .slice none 0 0, .slice none 0 0, .string ⟨#[]⟩, .int .i64 0, .int .i64 0] 45
theorem zero_cells {w : World} {q : Nat} (h : w.heap[q]? = some zeroObj) :
    w.cell? ⟨q, 0, none⟩ = some (.string ⟨#[]⟩) ∧ w.cell? ⟨q, 1, none⟩ = some (.bool false) ∧ w.cell? ⟨q, 2, none⟩ = some (.bool false) ∧ w.cell? ⟨q, 3, none⟩ = some (.slice none 0 0) ∧ w.cell? ⟨q, 4, none⟩ = some (.slice none 0 0) ∧
    w.cell? ⟨q, 5, none⟩ = some (.string ⟨#[]⟩) ∧ w.cell? ⟨q, 6, none⟩ = some (.int .i64 0) ∧ w.cell? ⟨q, 7, none⟩ = some (.int .i64 0) ∧ ∀ j, w.frozen? ⟨q, j, none⟩ = false := by
  unfold zeroObj at h
  refine ⟨?_, ?_, ?_, ?_, ?_, ?_, ?_, ?_, fun j => Lib.frozen_of_heap h _⟩ <;> (rw [Lib.cell_of_heap h]; rfl)

theorem bare_in {q : List Xt} {u : Xt} (h : u ∈ bareL q) : ∃ v ∈ q, u.x = v.x ∧ u.ss = v.ss := by
  match q, h with
  | t :: r, h =>
    rcases List.mem_cons.1 h with rfl | h
    · exact ⟨t, List.mem_cons_self .., rfl, rfl⟩
    · exact ⟨u, List.mem_cons_of_mem _ h, rfl, rfl⟩
theorem bare_len (q : List Xt) : (bareL q).length = q.length := by cases q <;> rfl

/-- What Parse answers. -/
def ParseAt (W : World) : Xm ⊕ Ill → Ending → World → Prop
  | .inl m => fun e w' => ∃ pv bv, e = .returned (.tuple #[macV m pv bv, .slice none 0 0]) ∧ MacAt m pv bv w' ∧ Below W.heap.size W w'
  | .inr i => RefusedAt W i

/-- A refusal, and the cell of the result. -/
def RefW (W : World) (q g : Nat) (i : Ill) (w' : World) : Prop := Below W.heap.size W w' ∧ W.heap.size ≤ q ∧ W.heap.size ≤ g ∧ g ≠ q ∧ g < w'.heap.size ∧ w'.cell? ⟨g, 0, none⟩ = some (.int .i64 i.c) ∧ w'.cell? ⟨g, 1, none⟩ = some (.string i.g) ∧ w'.cell? ⟨g, 2, none⟩ = some (.int .i64 i.f) ∧ w'.cell? ⟨g, 3, none⟩ = some (.int .i64 i.t)
theorem RefW.set {W : World} {q g : Nat} {i : Ill} {w : World} (h : RefW W q g i w) (j : Nat) (u : Value) : RefW W q g i (w.setCell ⟨q, j, none⟩ u) := by
  obtain ⟨h1, h2, h3, h4, h5, c0, c1, c2, c3⟩ := h
  have e : ∀ k, (w.setCell ⟨q, j, none⟩ u).cell? ⟨g, k, none⟩ = w.cell? ⟨g, k, none⟩ := fun k => World.cell?_of_block (heap_setCell_other w _ g u h4)
  exact ⟨h1.setCell (p := ⟨q, j, none⟩) h2 u, h2, h3, h4, by simpa [World.setCell] using h5, (e 0).trans c0, (e 1).trans c1, (e 2).trans c2, (e 3).trans c3⟩
theorem RefW.end {W : World} {q g : Nat} {i : Ill} {w : World} (h : RefW W q g i w) : RefusedAt W i (.returned (.tuple #[.agg #[.string ⟨#[]⟩, .bool false, .bool false, .slice none 0 0, .slice none 0 0, .string ⟨#[]⟩, .int .i64 0, .int .i64 0], .slice (some ⟨g, 0, none⟩) 1 1])) w := by
  obtain ⟨h1, h2, h3, h4, h5, c0, c1, c2, c3⟩ := h
  exact ⟨g, rfl, h1, h3, h5, c0, c1, c2, c3⟩

/-- Eight stores. -/
def sto8 (w : World) (q : Nat) (v0 v1 v2 v3 v4 v5 v6 v7 : Value) : World := (((((((w.setCell ⟨q, 0, none⟩ v0).setCell ⟨q, 1, none⟩ v1).setCell ⟨q, 2, none⟩ v2).setCell ⟨q, 3, none⟩ v3).setCell ⟨q, 4, none⟩ v4).setCell ⟨q, 5, none⟩ v5).setCell ⟨q, 6, none⟩ v6).setCell ⟨q, 7, none⟩ v7
theorem sto8_heap {w : World} {q : Nat} {a0 a1 a2 a3 a4 a5 a6 a7 v0 v1 v2 v3 v4 v5 v6 v7 : Value} {T : TypeId} (h : w.heap[q]? = some (.cells #[a0, a1, a2, a3, a4, a5, a6, a7] T (0, 0))) : (sto8 w q v0 v1 v2 v3 v4 v5 v6 v7).heap[q]? = some (.cells #[v0, v1, v2, v3, v4, v5, v6, v7] T (0, 0)) := by
  have h0 : (w.setCell ⟨q, 0, none⟩ v0).heap[q]? = some (.cells #[v0, a1, a2, a3, a4, a5, a6, a7] T (0, 0)) := (heap_setCell_same w q 0 _ _ v0 h).trans rfl
  have h1 : ((w.setCell ⟨q, 0, none⟩ v0).setCell ⟨q, 1, none⟩ v1).heap[q]? = some (.cells #[v0, v1, a2, a3, a4, a5, a6, a7] T (0, 0)) := (heap_setCell_same (w.setCell ⟨q, 0, none⟩ v0) q 1 _ _ v1 h0).trans rfl
  have h2 : (((w.setCell ⟨q, 0, none⟩ v0).setCell ⟨q, 1, none⟩ v1).setCell ⟨q, 2, none⟩ v2).heap[q]? = some (.cells #[v0, v1, v2, a3, a4, a5, a6, a7] T (0, 0)) := (heap_setCell_same ((w.setCell ⟨q, 0, none⟩ v0).setCell ⟨q, 1, none⟩ v1) q 2 _ _ v2 h1).trans rfl
  have h3 : ((((w.setCell ⟨q, 0, none⟩ v0).setCell ⟨q, 1, none⟩ v1).setCell ⟨q, 2, none⟩ v2).setCell ⟨q, 3, none⟩ v3).heap[q]? = some (.cells #[v0, v1, v2, v3, a4, a5, a6, a7] T (0, 0)) := (heap_setCell_same (((w.setCell ⟨q, 0, none⟩ v0).setCell ⟨q, 1, none⟩ v1).setCell ⟨q, 2, none⟩ v2) q 3 _ _ v3 h2).trans rfl
  have h4 : (((((w.setCell ⟨q, 0, none⟩ v0).setCell ⟨q, 1, none⟩ v1).setCell ⟨q, 2, none⟩ v2).setCell ⟨q, 3, none⟩ v3).setCell ⟨q, 4, none⟩ v4).heap[q]? = some (.cells #[v0, v1, v2, v3, v4, a5, a6, a7] T (0, 0)) := (heap_setCell_same ((((w.setCell ⟨q, 0, none⟩ v0).setCell ⟨q, 1, none⟩ v1).setCell ⟨q, 2, none⟩ v2).setCell ⟨q, 3, none⟩ v3) q 4 _ _ v4 h3).trans rfl
  have h5 : ((((((w.setCell ⟨q, 0, none⟩ v0).setCell ⟨q, 1, none⟩ v1).setCell ⟨q, 2, none⟩ v2).setCell ⟨q, 3, none⟩ v3).setCell ⟨q, 4, none⟩ v4).setCell ⟨q, 5, none⟩ v5).heap[q]? = some (.cells #[v0, v1, v2, v3, v4, v5, a6, a7] T (0, 0)) := (heap_setCell_same (((((w.setCell ⟨q, 0, none⟩ v0).setCell ⟨q, 1, none⟩ v1).setCell ⟨q, 2, none⟩ v2).setCell ⟨q, 3, none⟩ v3).setCell ⟨q, 4, none⟩ v4) q 5 _ _ v5 h4).trans rfl
  have h6 : (((((((w.setCell ⟨q, 0, none⟩ v0).setCell ⟨q, 1, none⟩ v1).setCell ⟨q, 2, none⟩ v2).setCell ⟨q, 3, none⟩ v3).setCell ⟨q, 4, none⟩ v4).setCell ⟨q, 5, none⟩ v5).setCell ⟨q, 6, none⟩ v6).heap[q]? = some (.cells #[v0, v1, v2, v3, v4, v5, v6, a7] T (0, 0)) := (heap_setCell_same ((((((w.setCell ⟨q, 0, none⟩ v0).setCell ⟨q, 1, none⟩ v1).setCell ⟨q, 2, none⟩ v2).setCell ⟨q, 3, none⟩ v3).setCell ⟨q, 4, none⟩ v4).setCell ⟨q, 5, none⟩ v5) q 6 _ _ v6 h5).trans rfl
  have h7 : ((((((((w.setCell ⟨q, 0, none⟩ v0).setCell ⟨q, 1, none⟩ v1).setCell ⟨q, 2, none⟩ v2).setCell ⟨q, 3, none⟩ v3).setCell ⟨q, 4, none⟩ v4).setCell ⟨q, 5, none⟩ v5).setCell ⟨q, 6, none⟩ v6).setCell ⟨q, 7, none⟩ v7).heap[q]? = some (.cells #[v0, v1, v2, v3, v4, v5, v6, v7] T (0, 0)) := (heap_setCell_same (((((((w.setCell ⟨q, 0, none⟩ v0).setCell ⟨q, 1, none⟩ v1).setCell ⟨q, 2, none⟩ v2).setCell ⟨q, 3, none⟩ v3).setCell ⟨q, 4, none⟩ v4).setCell ⟨q, 5, none⟩ v5).setCell ⟨q, 6, none⟩ v6) q 7 _ _ v7 h6).trans rfl
  exact h7
theorem sto8_far {w : World} {q : Nat} {v0 v1 v2 v3 v4 v5 v6 v7 : Value} {g : Nat} (h : g ≠ q) : (sto8 w q v0 v1 v2 v3 v4 v5 v6 v7).heap[g]? = w.heap[g]? := by
  unfold sto8
  exact (heap_setCell_other _ _ g v7 h).trans ((heap_setCell_other _ _ g v6 h).trans ((heap_setCell_other _ _ g v5 h).trans ((heap_setCell_other _ _ g v4 h).trans ((heap_setCell_other _ _ g v3 h).trans ((heap_setCell_other _ _ g v2 h).trans ((heap_setCell_other _ _ g v1 h).trans (heap_setCell_other _ _ g v0 h)))))))
theorem sto8_size {w : World} {q : Nat} {v0 v1 v2 v3 v4 v5 v6 v7 : Value} : (sto8 w q v0 v1 v2 v3 v4 v5 v6 v7).heap.size = w.heap.size := by
  simp [sto8, World.setCell]
theorem sto8_below {W w : World} {q : Nat} {v0 v1 v2 v3 v4 v5 v6 v7 : Value} (h : Below W.heap.size W w) (hq : W.heap.size ≤ q) : Below W.heap.size W (sto8 w q v0 v1 v2 v3 v4 v5 v6 v7) := by
  unfold sto8
  exact (Below.setCell (p := ⟨q, 7, none⟩) (Below.setCell (p := ⟨q, 6, none⟩) (Below.setCell (p := ⟨q, 5, none⟩) (Below.setCell (p := ⟨q, 4, none⟩) (Below.setCell (p := ⟨q, 3, none⟩) (Below.setCell (p := ⟨q, 2, none⟩) (Below.setCell (p := ⟨q, 1, none⟩) (Below.setCell (p := ⟨q, 0, none⟩) h hq v0) hq v1) hq v2) hq v3) hq v4) hq v5) hq v6) hq v7)
theorem sto8_cells {w : World} {q : Nat} {a0 a1 a2 a3 a4 a5 a6 a7 v0 v1 v2 v3 v4 v5 v6 v7 : Value} {T : TypeId} (h : w.heap[q]? = some (.cells #[a0, a1, a2, a3, a4, a5, a6, a7] T (0, 0))) : (sto8 w q v0 v1 v2 v3 v4 v5 v6 v7).cell? ⟨q, 0, none⟩ = some v0 ∧ (sto8 w q v0 v1 v2 v3 v4 v5 v6 v7).cell? ⟨q, 1, none⟩ = some v1 ∧ (sto8 w q v0 v1 v2 v3 v4 v5 v6 v7).cell? ⟨q, 2, none⟩ = some v2 ∧ (sto8 w q v0 v1 v2 v3 v4 v5 v6 v7).cell? ⟨q, 3, none⟩ = some v3 ∧ (sto8 w q v0 v1 v2 v3 v4 v5 v6 v7).cell? ⟨q, 4, none⟩ = some v4 ∧ (sto8 w q v0 v1 v2 v3 v4 v5 v6 v7).cell? ⟨q, 5, none⟩ = some v5 ∧ (sto8 w q v0 v1 v2 v3 v4 v5 v6 v7).cell? ⟨q, 6, none⟩ = some v6 ∧ (sto8 w q v0 v1 v2 v3 v4 v5 v6 v7).cell? ⟨q, 7, none⟩ = some v7 := by
  have e := sto8_heap (v0 := v0) (v1 := v1) (v2 := v2) (v3 := v3) (v4 := v4) (v5 := v5) (v6 := v6) (v7 := v7) h
  refine ⟨?_, ?_, ?_, ?_, ?_, ?_, ?_, ?_⟩ <;> (rw [Lib.cell_of_heap e]; rfl)
theorem RefW.sto {W : World} {q g : Nat} {i : Ill} {w : World} (h : RefW W q g i w) {v0 v1 v2 v3 v4 v5 v6 v7 : Value} : RefW W q g i (sto8 w q v0 v1 v2 v3 v4 v5 v6 v7) := by
  unfold sto8
  exact (RefW.set (RefW.set (RefW.set (RefW.set (RefW.set (RefW.set (RefW.set (RefW.set h 0 v0) 1 v1) 2 v2) 3 v3) 4 v4) 5 v5) 6 v6) 7 v7)

/-- A refusal's end. -/
theorem ref_end {W : World} {q g : Nat} {i : Ill} {w : World} (h : RefW W q g i w) (hq : w.heap[q]? = some zeroObj) : ∃ w', sto8 w q (.string ⟨#[]⟩) (.bool false) (.bool false) (.slice none 0 0) (.slice none 0 0) (.string ⟨#[]⟩) (.int .i64 0) (.int .i64 0) = w' ∧ w'.cell? ⟨q, 0, none⟩ = some (.string ⟨#[]⟩) ∧ w'.cell? ⟨q, 1, none⟩ = some (.bool false) ∧ w'.cell? ⟨q, 2, none⟩ = some (.bool false) ∧ w'.cell? ⟨q, 3, none⟩ = some (.slice none 0 0) ∧ w'.cell? ⟨q, 4, none⟩ = some (.slice none 0 0) ∧ w'.cell? ⟨q, 5, none⟩ = some (.string ⟨#[]⟩) ∧ w'.cell? ⟨q, 6, none⟩ = some (.int .i64 0) ∧ w'.cell? ⟨q, 7, none⟩ = some (.int .i64 0) ∧ Hid (RefW W q g i w') := by
  obtain ⟨y0, y1, y2, y3, y4, y5, y6, y7⟩ := sto8_cells (v0 := .string ⟨#[]⟩) (v1 := .bool false) (v2 := .bool false) (v3 := .slice none 0 0) (v4 := .slice none 0 0) (v5 := .string ⟨#[]⟩) (v6 := .int .i64 0) (v7 := .int .i64 0) hq
  exact ⟨_, rfl, y0, y1, y2, y3, y4, y5, y6, y7, Lib.hid h.sto⟩

end Go.Proofs.Ytobplffailbkbaa
