/-
  Texts of the proof, put together: LxT3, LxE, LxStep, RBack, Back, LxOver.
-/
import Derived.Test.YtlnlpahmfpjjdaaDoorG07
import Derived.Test.YtlnlpahmfpjjdaaDoorG06
import Derived.Laws.BytesArg

/-
  take of the project, walked.
-/
namespace Go.Proofs.YtlnlpahmfpjjdaaDoor
open Go.RowKit

/-- s[i:j] of a string. -/
theorem slice_lh (s : ByteArray) (l h : Nat) (h1 : l ≤ h) (h2 : h ≤ s.size) (w : World) : (Instr.slice 9 (.string s) (some (.int .i64 (l : Int))) (some (.int .i64 (h : Int))) none).run Tryd.prog w = .ok (.string (s.extract l h)) w := by
  have a1 : (l : Int) ≤ (h : Int) := by omega
  have a2 : (h : Int) ≤ (s.size : Int) := by omega
  have a3 : (0 : Int) ≤ (l : Int) := by omega
  have a4 : (0 : Int) ≤ (h : Int) := by omega
  simp [Instr.slice, run_underlying Tryd.underlying9, Instr.sliceBounds, run_sliceBound, *]

theorem ext_text (s : ByteArray) (a b : Nat) : s.extract a b = ⟨((s.data.toList.drop a).take (b - a)).toArray⟩ := by
  have h := ext_data s a b
  obtain ⟨d⟩ := s
  rw [← h]

end Go.Proofs.YtlnlpahmfpjjdaaDoor

/-
  pass and endLine of the project, walked.
-/
namespace Go.Proofs.YtlnlpahmfpjjdaaDoor
open Go.RowKit

end Go.Proofs.YtlnlpahmfpjjdaaDoor

/-
  step of the project, walked: state by state.
-/
namespace Go.Proofs.YtlnlpahmfpjjdaaDoor
open Go.RowKit

end Go.Proofs.YtlnlpahmfpjjdaaDoor

/-
  The document's own Back, in memory; a row of bytes as a text.
-/
namespace Go.Proofs.YtlnlpahmfpjjdaaDoor
open Go.RowKit

def bcells (bs : List UInt8) : List Value := bs.map fun c => Value.int .u8 (c.toNat : Int)
theorem bcells_len (bs : List UInt8) : (bcells bs).length = bs.length := by simp [bcells]

theorem Tryd.infoByte : (Tryd.prog.info? 5).map (fun i => (i.zero, i.size, i.bytes)) = some (some (.int .u8 0), 1, 1) := by kernel_rfl

def BRow (W : World) (v : Value) (bs : List UInt8) (w : World) : Prop := Up W 5 1 v bs.length (bcells bs) w

theorem byte_one {x : Int} : ∀ u ∈ [Value.int .u8 x], u.oneCell' = true := by
  intro u hu
  simp only [List.mem_cons, List.not_mem_nil, or_false] at hu
  subst hu
  rfl

theorem BRow.push {W : World} {v : Value} {bs : List UInt8} {w : World} {x : Int} (c : UInt8) (h : Up W 5 1 v (bs.length + 1) (bcells bs ++ [.int .u8 x]) w) (hx : x = (c.toNat : Int)) : BRow W v (bs ++ [c]) w := by
  unfold BRow
  rw [List.length_append]
  have e : bcells (bs ++ [c]) = bcells bs ++ [.int .u8 x] := by rw [hx]; simp [bcells]
  rw [e]
  exact h

set_option maxRecDepth 100000 in
theorem brow_text {W : World} {a : Option Addr} {cap : Nat} {bs : List UInt8} {w : World} (h : BRow W (.slice a bs.length cap) bs w) : (convert 115 9 (.slice a bs.length cap)).run Tryd.prog w = .ok (.string ⟨bs.toArray⟩) w := by
  obtain ⟨a', cap', hv, -, -, hcell⟩ := row_form h.1
  simp only [Value.slice.injEq] at hv
  obtain ⟨rfl, -, rfl⟩ := hv
  cases hb : bs with
  | nil =>
    subst hb
    obtain ⟨-, ⟨hv, -⟩ | ⟨g, c', cur, hv, -⟩⟩ := h.1
    · simp only [Value.slice.injEq] at hv
      obtain ⟨rfl, -, rfl⟩ := hv
      exact run_convert_bytes_nil (P := Tryd.prog) w 115 5 Tryd.underlying115 Tryd.underlying5 0 0 9 Tryd.underlying9
    · simp only [Value.slice.injEq] at hv
      obtain ⟨rfl, -, rfl⟩ := hv
      exact run_convert_bytes_arg (P := Tryd.prog) w 115 5 Tryd.underlying115 Tryd.underlying5 g 0 0 cap [] rfl (fun i hi => by omega) 9 Tryd.underlying9
  | cons b0 bt =>
    have h0 : (bcells bs)[0]? = some (.int .u8 (b0.toNat : Int)) := by rw [hb]; rfl
    obtain ⟨g, rfl, -, -⟩ := hcell 0 _ h0
    have e := run_convert_bytes_arg (P := Tryd.prog) w 115 5 Tryd.underlying115 Tryd.underlying5 g 0 bs.length cap (bs.map fun c => (c.toNat : Int)) (by simp) (fun i hi => by
      have hi' : (bcells bs)[i]? = some (.int .u8 ((bs[i]).toNat : Int)) := by simp [bcells, hi]
      obtain ⟨g', hg', -, hc⟩ := hcell i _ hi'
      simp only [Option.some.injEq, Addr.mk.injEq, and_true] at hg'
      subst hg'
      rw [Nat.zero_add, hc]
      simp [List.getD, hi]) 9 Tryd.underlying9
    rw [← hb, e]
    have : strOfNums (bs.map fun c => (c.toNat : Int)) = ⟨bs.toArray⟩ := by
      unfold strOfNums
      rw [List.map_map]
      congr 2
      have : ((fun n : Int => UInt8.ofNat n.toNat) ∘ fun c : UInt8 => (c.toNat : Int)) = id := by
        funext c
        simp
      rw [this, List.map_id]
    rw [this]

/-- What stays of characters from a place on. -/
def kept (a b : Int) (C : List Rn) (k : Nat) : List UInt8 := ((C.drop k).filter (within a b)).map Rn.c
theorem kept_end {a b : Int} {C : List Rn} {k : Nat} (h : C.length ≤ k) : kept a b C k = [] := by
  unfold kept
  rw [List.drop_eq_nil_of_le h]
  rfl
theorem kept_in {a b : Int} {C : List Rn} {k : Nat} {r : Rn} (h : C[k]? = some r) (hw : within a b r = true) : kept a b C k = r.c :: kept a b C (k + 1) := by
  unfold kept
  rw [drop_get h, List.filter_cons, hw]
  rfl
theorem kept_out {a b : Int} {C : List Rn} {k : Nat} {r : Rn} (h : C[k]? = some r) (hw : within a b r = false) : kept a b C k = kept a b C (k + 1) := by
  unfold kept
  rw [drop_get h, List.filter_cons, hw]
  rfl

def RBackRel (W : World) (C : List Rn) (a b : Int) (o i : Value) (w : World) : Prop :=
  ∃ (k : Nat) (bs : List UInt8) (ad : Option Addr) (n cap : Nat), i = .int .i64 (k : Int) ∧ k ≤ C.length ∧ bs.length ≤ k ∧ o = .slice ad n cap ∧ n = bs.length ∧ bs ++ kept a b C k = kept a b C 0 ∧ BRow W o bs w

def TextPost (W : World) (l : List UInt8) (e : Ending) (w' : World) : Prop := e = .returned (.string ⟨l.toArray⟩) ∧ Below W.heap.size W w'

theorem rback_in {W : World} {C : List Rn} {a b : Int} {k : Nat} {bs : List UInt8} {w : World} {ad : Option Addr} {cap : Nat} {r : Rn} {i : Int} (hi : i = ((k + 1 : Nat) : Int)) (hr : C[k]? = some r) (hk : k < C.length) (hLk : bs.length ≤ k) (hw : within a b r = true) (hL : bs ++ kept a b C k = kept a b C 0) (hU : BRow W (.slice ad (bs.length + 1) cap) (bs ++ [r.c]) w) :
    RBackRel W C a b (.slice ad (bs.length + 1) cap) (.int .i64 i) w := by
  refine ⟨k + 1, bs ++ [r.c], ad, bs.length + 1, cap, by rw [hi], hk, by simp; omega, rfl, by simp, ?_, hU⟩
  rw [← hL, kept_in hr hw, List.append_assoc]
  rfl
theorem rback_out {W : World} {C : List Rn} {a b : Int} {k : Nat} {bs : List UInt8} {w : World} {ad : Option Addr} {cap : Nat} {r : Rn} {i : Int} (hi : i = ((k + 1 : Nat) : Int)) (hr : C[k]? = some r) (hk : k < C.length) (hLk : bs.length ≤ k) (hw : within a b r = false) (hL : bs ++ kept a b C k = kept a b C 0) (hU : BRow W (.slice ad bs.length cap) bs w) :
    RBackRel W C a b (.slice ad bs.length cap) (.int .i64 i) w :=
  ⟨k + 1, bs, ad, bs.length, cap, by rw [hi], hk, by omega, rfl, rfl, by rw [← kept_out hr hw]; exact hL, hU⟩

theorem within_in {a b : Int} {r : Rn} (h1 : a ≤ (r.f : Int)) (h2 : (r.t : Int) ≤ b) : within a b r = true := by simp [within, h1, h2]
theorem within_a {a b : Int} {r : Rn} (h1 : ¬ a ≤ (r.f : Int)) : within a b r = false := by simp [within, h1]
theorem within_b {a b : Int} {r : Rn} (h1 : ¬ (r.t : Int) ≤ b) : within a b r = false := by simp [within, h1]

end Go.Proofs.YtlnlpahmfpjjdaaDoor

/-
  Back of the project, walked: it begins a little ahead of what is asked for, and ends at what is behind it.
-/
namespace Go.Proofs.YtlnlpahmfpjjdaaDoor
open Go.RowKit

theorem src_one2 (w : World) (o : Obj) (u : Value) (e : TypeId) : Src ((w.alloc o).alloc (.cells #[u] e)) (.slice (some ⟨w.heap.size + 1, 0, none⟩) 1 1) 1 1 [u] := by
  have h := src_one (w.alloc o) u e
  rw [show (w.alloc o).heap.size = w.heap.size + 1 from by simp] at h
  exact h

def BRel (W : World) (l : List UInt8) (a b : Int) (o i : Value) (w : World) : Prop :=
  ∃ (k : Nat) (bs : List UInt8) (ad : Option Addr) (n cap : Nat), i = .int .i64 (k : Int) ∧ bs.length ≤ k ∧ bs.length ≤ l.length ∧ (k : Int) ≤ 9223372036854775807 ∧ o = .slice ad n cap ∧ n = bs.length ∧ bs ++ bk l a b k = backL l a b ∧ BRow W o bs w

theorem brel_in {W : World} {l : List UInt8} {a b : Int} {k : Nat} {bs : List UInt8} {w : World} {ad : Option Addr} {cap : Nat} {r : Rn} (hl : l.length ≤ 100000) (hk : k < l.length) (hLk : bs.length ≤ k) (ho : tk l k = (r, true)) (hw : within a b r = true) (hL : bs ++ bk l a b k = backL l a b) (hU : BRow W (.slice ad (bs.length + 1) cap) (bs ++ [r.c]) w) :
    BRel W l a b (.slice ad (bs.length + 1) cap) (.int .i64 (r.t : Int)) w := by
  have h1 : k < r.t ∧ r.t ≤ k + 4 ∧ (k < l.length → r.t ≤ l.length) := by
    have := tk_t l k
    rw [ho] at this
    exact this
  have h2 := bk_take (a := a) (b := b) hk (by rw [ho]) (by rw [ho]; exact hw)
  rw [ho] at h2
  refine ⟨r.t, bs ++ [r.c], ad, bs.length + 1, cap, rfl, by simp; omega, by simp; omega, by omega, rfl, by simp, ?_, hU⟩
  rw [← hL, h2, List.append_assoc]
  rfl
theorem brel_next {W : World} {l : List UInt8} {a b : Int} {k : Nat} {bs : List UInt8} {w : World} {ad : Option Addr} {cap : Nat} {r : Rn} {st : Bool} (hl : l.length ≤ 100000) (hk : k < l.length) (hLk : bs.length ≤ k) (ho : tk l k = (r, st)) (hw : st = false ∨ within a b r = false) (hL : bs ++ bk l a b k = backL l a b) (hU : BRow W (.slice ad bs.length cap) bs w) :
    BRel W l a b (.slice ad bs.length cap) (.int .i64 (r.t : Int)) w := by
  have h1 : k < r.t ∧ r.t ≤ k + 4 ∧ (k < l.length → r.t ≤ l.length) := by
    have := tk_t l k
    rw [ho] at this
    exact this
  have h2 : bk l a b k = bk l a b r.t := by
    have e : (tk l k).1.t = r.t := by rw [ho]
    rw [← e]
    rcases hw with h | h
    · exact bk_skip hk (by rw [ho]; exact h)
    · exact bk_out hk (by rw [ho]; exact h)
  exact ⟨r.t, bs, ad, bs.length, cap, rfl, by omega, by omega, by omega, rfl, rfl, by rw [← h2]; exact hL, hU⟩

theorem back_past {l : List UInt8} {a b : Int} {k : Nat} {bs : List UInt8} {r : Rn} {st : Bool} (hk : k < l.length) (ho : tk l k = (r, st)) (hb : b < (r.t : Int)) (hL : bs ++ bk l a b k = backL l a b) : bs = backL l a b := by
  rw [bk_past hk (by rw [ho]; exact hb), List.append_nil] at hL
  exact hL

theorem BRow.over {W w w' : World} {v : Value} {bs : List UInt8} (h : BRow W v bs w) (b : Below w.heap.size w w') : BRow W v bs w' := Up.over h b
theorem BRow.alloc {W w : World} {v : Value} {bs : List UInt8} (h : BRow W v bs w) (o : Obj) : BRow W v bs (w.alloc o) := Up.alloc h o

end Go.Proofs.YtlnlpahmfpjjdaaDoor

/-
  over of the project, walked: the beginning of a walk.
-/
namespace Go.Proofs.YtlnlpahmfpjjdaaDoor
open Go.RowKit

def ovals (l : List UInt8) (k : Nat) : List Value := (List.range l.length).map fun j => Value.int .u8 (if j < k then ((l.getD j 0).toNat : Int) else 0)
theorem ovals_len (l : List UInt8) (k : Nat) : (ovals l k).length = l.length := by simp [ovals]
theorem ovals_get {l : List UInt8} {k j : Nat} (hj : j < l.length) : (ovals l k)[j]? = some (.int .u8 (if j < k then ((l.getD j 0).toNat : Int) else 0)) := by
  simp [ovals, hj]
theorem ovals_set {l : List UInt8} {k : Nat} (hk : k < l.length) : (ovals l k).set k (.int .u8 ((l.getD k 0).toNat : Int)) = ovals l (k + 1) := by
  apply List.ext_getElem?
  intro j
  by_cases hj : j < l.length
  · rw [List.getElem?_set, ovals_len, ovals_get hj, ovals_get hj]
    by_cases e : k = j
    · subst e
      rw [if_pos rfl, if_pos hk, if_pos (Nat.lt_succ_self k)]
    · rw [if_neg e]
      by_cases h2 : j < k
      · rw [if_pos h2, if_pos (by omega)]
      · rw [if_neg h2, if_neg (by omega)]
  · rw [List.getElem?_eq_none (by rw [List.length_set, ovals_len]; omega), List.getElem?_eq_none (by rw [ovals_len]; omega)]
theorem ovals_all (l : List UInt8) : ovals l l.length = bcells l := by
  apply List.ext_getElem?
  intro j
  by_cases hj : j < l.length
  · rw [ovals_get hj, if_pos hj]
    simp [bcells, hj, List.getD]
  · rw [List.getElem?_eq_none (by rw [ovals_len]; omega), List.getElem?_eq_none (by rw [bcells_len]; omega)]
theorem ovals_zero (l : List UInt8) : ovals l 0 = (madeCells (Value.int .u8 0).cells (l.length * 1)).toList := by
  show _ = (madeCells #[Value.int .u8 0] (l.length * 1)).toList
  rw [toList_madeCells_one, Nat.mul_one]
  apply List.ext_getElem?
  intro j
  by_cases hj : j < l.length
  · rw [ovals_get hj, if_neg (Nat.not_lt_zero j)]
    simp [hj]
  · rw [List.getElem?_eq_none (by rw [ovals_len]; omega), List.getElem?_eq_none (by simp; omega)]

theorem charsL_few (l : List UInt8) : ∃ n, n = (charsL l).length ∧ n ≤ l.length + 1 := by
  refine ⟨_, rfl, ?_⟩
  have h := chs_len l _ 0 (Nat.le_refl _)
  unfold charsL withNl
  split
  · simp
  · split
    · omega
    · simp
      omega

theorem below_of {w w' : World} (h : w.grownBy w' none) : Below w.heap.size w w' := ⟨h.os, h.tape, h.output, h.size, fun k hk => h.block k hk (by simp)⟩

end Go.Proofs.YtlnlpahmfpjjdaaDoor
