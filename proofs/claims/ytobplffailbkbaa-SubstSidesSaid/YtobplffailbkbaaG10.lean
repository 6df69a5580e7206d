/-
  Texts of the proof, put together: LxAt, LxAwake, PartsL, OrderL, LxBytesL.
-/
import Derived.Test.YtobplffailbkbaaG09
import Derived.Test.YtobplffailbkbaaG01

/-
  Reading lines that were answered.
-/
namespace Go.Proofs.Ytobplffailbkbaa
open Go.RowKit

/-- A token lies there. -/
def TokAt (F : ByteArray) (t : Tk) (g j : Nat) (w : World) : Prop :=
  w.cell? ⟨g, j, none⟩ = some (.int .i64 (t.k : Int)) ∧ w.cell? ⟨g, j + 1, none⟩ = some (.string ⟨t.x.toArray⟩) ∧ w.cell? ⟨g, j + 2, none⟩ = some (.bool t.sp) ∧ w.cell? ⟨g, j + 3, none⟩ = some (.string F) ∧
  w.cell? ⟨g, j + 4, none⟩ = some (.int .i64 (t.f : Int)) ∧ w.cell? ⟨g, j + 5, none⟩ = some (.int .i64 (t.t : Int)) ∧ w.cell? ⟨g, j + 6, none⟩ = some (.bool false) ∧ w.cell? ⟨g, j + 7, none⟩ = some (.slice none 0 0)

/-- A row of tokens, as it is read. -/
def ToksAt (F : ByteArray) (T : List Tk) (v : Value) (w : World) : Prop :=
  ∃ a cap, v = .slice a T.length cap ∧ T.length ≤ cap ∧ cap ≤ maxLen ∧ ∀ k t, T[k]? = some t → ∃ g, a = some ⟨g, 0, none⟩ ∧ g < w.heap.size ∧ TokAt F t g (k * 8) w

theorem toks_at {B : Nat} {F : ByteArray} {T : List Tk} {v : Value} {w : World} (h : w.ownsRow B 26 8 v T.length (tcells F T)) : ToksAt F T v w := by
  obtain ⟨a, cap, hv, h1, h2, h3⟩ := row_form h
  refine ⟨a, cap, hv, h1, h2, fun k t ht => ?_⟩
  have hg := fun j (hj : j < 8) => flat_get (f := tcell F) (n := 8) (fun _ => rfl) T k t ht j hj
  obtain ⟨g, hga, hlt, -⟩ := h3 (k * 8 + 0) _ ((hg 0 (by omega)).trans rfl)
  have hc : ∀ j u, j < 8 → (tcell F t)[j]? = some u → w.cell? ⟨g, k * 8 + j, none⟩ = some u := by
    intro j u hj hu
    obtain ⟨g', hga', -, e⟩ := h3 (k * 8 + j) u ((hg j hj).trans hu)
    rw [hga] at hga'
    simp only [Option.some.injEq, Addr.mk.injEq, and_true] at hga'
    rw [hga']
    exact e
  exact ⟨g, hga, hlt, hc 0 _ (by omega) rfl, hc 1 _ (by omega) rfl, hc 2 _ (by omega) rfl, hc 3 _ (by omega) rfl, hc 4 _ (by omega) rfl, hc 5 _ (by omega) rfl, hc 6 _ (by omega) rfl, hc 7 _ (by omega) rfl⟩

/-- Lines, as they are read. -/
def LinesAt (F : ByteArray) (lines : List Ln) (v : Value) (w : World) : Prop :=
  ∃ a cap, v = .slice a lines.length cap ∧ lines.length ≤ cap ∧ cap ≤ maxLen ∧ ∀ i ln, lines[i]? = some ln → ∃ g tv, a = some ⟨g, 0, none⟩ ∧ g < w.heap.size ∧
    w.cell? ⟨g, i * 4, none⟩ = some tv ∧ w.cell? ⟨g, i * 4 + 1, none⟩ = some (.int .i64 (ln.f : Int)) ∧ w.cell? ⟨g, i * 4 + 2, none⟩ = some (.int .i64 (ln.t : Int)) ∧ w.cell? ⟨g, i * 4 + 3, none⟩ = some (.bool ln.o) ∧ ToksAt F ln.toks tv w

theorem LRow.at {W : World} {F : ByteArray} {T : TypeId} {v : Value} {lines : List Ln} {w : World} (h : LRow W F T v lines w) : LinesAt F lines v w := by
  obtain ⟨P, hP, h1, h2⟩ := h
  obtain ⟨a, cap, hv, c1, c2, h3⟩ := row_form h1.1
  have hl : P.length = lines.length := by rw [← hP, List.length_map]
  refine ⟨a, cap, by rw [← hl]; exact hv, by omega, c2, fun i ln hi => ?_⟩
  rw [← hP, List.getElem?_map, Option.map_eq_some_iff] at hi
  obtain ⟨p, hp, rfl⟩ := hi
  have hg := fun j (hj : j < 4) => flat_get (f := lcell) (n := 4) (fun _ => rfl) P i p hp j hj
  obtain ⟨g, hga, hlt, e0⟩ := h3 (i * 4 + 0) _ ((hg 0 (by omega)).trans rfl)
  have hc : ∀ j u, j < 4 → (lcell p)[j]? = some u → w.cell? ⟨g, i * 4 + j, none⟩ = some u := by
    intro j u hj hu
    obtain ⟨g', hga', -, e⟩ := h3 (i * 4 + j) u ((hg j hj).trans hu)
    rw [hga] at hga'
    simp only [Option.some.injEq, Addr.mk.injEq, and_true] at hga'
    rw [hga']
    exact e
  exact ⟨g, p.1, hga, hlt, hc 0 _ (by omega) rfl, hc 1 _ (by omega) rfl, hc 2 _ (by omega) rfl, hc 3 _ (by omega) rfl, toks_at (h2 p (List.mem_of_getElem? hp)).1⟩

/-- Diagnostics, as they are read. -/
def DiagsAt (F : ByteArray) (D : List Dg) (v : Value) (w : World) : Prop :=
  ∃ a cap, v = .slice a D.length cap ∧ D.length ≤ cap ∧ cap ≤ maxLen ∧ ∀ i d, D[i]? = some d → ∃ g, a = some ⟨g, 0, none⟩ ∧ g < w.heap.size ∧
    w.cell? ⟨g, i * 4, none⟩ = some (.int .i64 (d.c : Int)) ∧ w.cell? ⟨g, i * 4 + 1, none⟩ = some (.string F) ∧ w.cell? ⟨g, i * 4 + 2, none⟩ = some (.int .i64 (d.f : Int)) ∧ w.cell? ⟨g, i * 4 + 3, none⟩ = some (.int .i64 (d.t : Int))
theorem DRow.at {W : World} {F : ByteArray} {v : Value} {D : List Dg} {w : World} (h : DRow W F v D w) : DiagsAt F D v w := by
  obtain ⟨a, cap, hv, c1, c2, h3⟩ := row_form h.1
  refine ⟨a, cap, hv, c1, c2, fun i d hi => ?_⟩
  have hg := fun j (hj : j < 4) => flat_get (f := dcell F) (n := 4) (fun _ => rfl) D i d hi j hj
  obtain ⟨g, hga, hlt, e0⟩ := h3 (i * 4 + 0) _ ((hg 0 (by omega)).trans rfl)
  have hc : ∀ j u, j < 4 → (dcell F d)[j]? = some u → w.cell? ⟨g, i * 4 + j, none⟩ = some u := by
    intro j u hj hu
    obtain ⟨g', hga', -, e⟩ := h3 (i * 4 + j) u ((hg j hj).trans hu)
    rw [hga] at hga'
    simp only [Option.some.injEq, Addr.mk.injEq, and_true] at hga'
    rw [hga']
    exact e
  exact ⟨g, hga, hlt, hc 0 _ (by omega) rfl, hc 1 _ (by omega) rfl, hc 2 _ (by omega) rfl, hc 3 _ (by omega) rfl⟩

def awR1 : Acc := ⟨6, false, [], [⟨[⟨1, [97], false, 0, 1⟩, ⟨5, [43, 43], false, 1, 3⟩, ⟨5, [43], false, 3, 4⟩, ⟨1, [98], false, 4, 5⟩], 0, 6, false⟩], []⟩
theorem aw_one : linesA (charsL (⟨#[97, 43, 43, 43, 98, 10]⟩ : ByteArray).data.toList) 6 = awR1 := by rfl
def awR2 : Acc := ⟨4, false, [], [⟨[], 0, 4, true⟩], [⟨1, 0, 2⟩]⟩
theorem aw_two : linesA (charsL (⟨#[47, 42, 32, 120]⟩ : ByteArray).data.toList) 4 = awR2 := by rfl
theorem aw_lsh : oneL (⟨#[60, 60, 61]⟩ : ByteArray).data.toList = some 5 := by rfl
theorem aw_ab : oneL (⟨#[97, 32, 98]⟩ : ByteArray).data.toList = none := by rfl

end Go.Proofs.Ytobplffailbkbaa

/-
  awake of the law: what the document fixes.
-/
namespace Go.Proofs.Ytobplffailbkbaa
open Go.RowKit

def Aw3 (v : Value) (W : World) (e : Ending) (w : World) : Prop := e = .returned v ∧ Below W.heap.size W w
theorem aw_one1 (W : World) : Calls Try.prog 38 #[.string ⟨#[60, 60, 61]⟩] W (Aw3 (.tuple #[.agg #[.int .i64 5, .string ⟨#[60, 60, 61]⟩, .bool false, .string ⟨#[]⟩, .int .i64 0, .int .i64 0, .bool false, .slice none 0 0], .bool true]) W) := by
  refine (one_any ⟨#[60, 60, 61]⟩ W (by decide)).mono ?_
  rintro e w ⟨h1, h2⟩
  rw [aw_lsh] at h1
  exact ⟨h1, h2⟩
theorem aw_one2 (W : World) : Calls Try.prog 38 #[.string ⟨#[97, 32, 98]⟩] W (Aw3 (.tuple #[.agg #[.int .i64 0, .string ⟨#[]⟩, .bool false, .string ⟨#[]⟩, .int .i64 0, .int .i64 0, .bool false, .slice none 0 0], .bool false]) W) := by
  refine (one_any ⟨#[97, 32, 98]⟩ W (by decide)).mono ?_
  rintro e w ⟨h1, h2⟩
  rw [aw_ab] at h1
  exact ⟨h1, h2⟩

def AwakePost (W : World) (e : Ending) (w' : World) : Prop := e = .returned (.bool true) ∧ Below W.heap.size W w'

theorem bcell {W w1 : World} (hb : Below W.heap.size W w1) {b o : Nat} {v : Value} (h : W.cell? ⟨b, o, none⟩ = some v) (hlt : b < W.heap.size) : w1.cell? ⟨b, o, none⟩ = some v := (hb.cell (p := ⟨b, o, none⟩) hlt).trans h

theorem bcell_al {W w1 : World} {o : Obj} (hb : Below (W.alloc o).heap.size (W.alloc o) w1) {b k : Nat} {v : Value} (h : W.cell? ⟨b, k, none⟩ = some v) (hlt : b < W.heap.size) : w1.cell? ⟨b, k, none⟩ = some v := by
  rw [hb.cell (p := ⟨b, k, none⟩) (by simp; omega)]
  exact (World.cell?_alloc_lt W o ⟨b, k, none⟩ hlt).trans h
theorem bcell_new {W w1 : World} {cs : Array Value} {T : TypeId} (hb : Below (W.alloc (.cells cs T)).heap.size (W.alloc (.cells cs T)) w1) {k : Nat} {v : Value} (h : cs[k]? = some v) : w1.cell? ⟨W.heap.size, k, none⟩ = some v := by
  rw [hb.cell (p := ⟨W.heap.size, k, none⟩) (by simp), Lib.cell_of_heap (heap_alloc_new W (.cells cs T))]
  exact h

end Go.Proofs.Ytobplffailbkbaa

/-
  Two pieces of a text, over lists: what stands in them is what stands in the whole, unless it was cut within what belongs together.
-/
namespace Go.Proofs.Ytobplffailbkbaa

/-- The first piece ends with nothing that may begin a trigraph or a splice. -/
def Whole (a : List UInt8) : Prop :=
  (0 < a.length → a.getD (a.length - 1) 0 ≠ 63 ∧ a.getD (a.length - 1) 0 ≠ 92) ∧ (2 < a.length → ¬ (a.getD (a.length - 3) 0 = 63 ∧ a.getD (a.length - 2) 0 = 63 ∧ a.getD (a.length - 1) 0 = 47))

theorem get_left {a b : List UInt8} {i : Nat} (h : i < a.length) : (a ++ b).getD i 0 = a.getD i 0 := by
  simp only [List.getD]
  rw [List.getElem?_append_left h]
theorem get_right (a b : List UInt8) (j : Nat) : (a ++ b).getD (a.length + j) 0 = b.getD j 0 := by
  simp only [List.getD]
  rw [List.getElem?_append_right (by omega)]
  congr 2
  omega

theorem triAt_left {a b : List UInt8} (hw : Whole a) {i : Nat} (hi : i < a.length) : triAt (a ++ b) i = triAt a i := by
  by_cases h2 : i + 2 < a.length
  · unfold triAt
    rw [get_left hi, get_left (i := i + 1) (by omega), get_left (i := i + 2) (by omega), List.length_append]
    by_cases h : a.getD i 0 = 63 ∧ a.getD (i + 1) 0 = 63
    · rw [if_pos ⟨by omega, h⟩, if_pos ⟨h2, h⟩]
    · rw [if_neg fun h1 => h h1.2, if_neg fun h1 => h h1.2]
  · have e1 : triAt a i = none := by
      unfold triAt
      rw [if_neg fun h1 => h2 h1.1]
    rw [e1]
    have hl := (hw.1 (by omega)).1
    by_cases h1 : i + 1 < a.length
    · apply triAt_not2
      rw [get_left h1, show i + 1 = a.length - 1 from by omega]
      exact hl
    · apply triAt_not
      rw [get_left hi, show i = a.length - 1 from by omega]
      exact hl

theorem one_left {a b : List UInt8} (hw : Whole a) {i : Nat} (hi : i < a.length) : one (a ++ b) i = one a i := by
  unfold one
  rw [triAt_left hw hi, get_left hi]

theorem spl_left {a b : List UInt8} (hw : Whole a) {i : Nat} (hi : i < a.length) : spl (a ++ b) (one a i) = spl a (one a i) := by
  have ht := one_t a i
  by_cases h : (one a i).t < a.length
  · unfold spl
    rw [get_left h, List.length_append]
    rw [decide_eq_true h, decide_eq_true (show (one a i).t < a.length + b.length from by omega)]
  · have hc : (one a i).c ≠ 92 := by
      cases htr : triAt a i with
      | none =>
        have e : one a i = ⟨a.getD i 0, i, i + 1⟩ := by unfold one; rw [htr]
        rw [e] at h ⊢
        simp only at h
        have := (hw.1 (by omega)).2
        rw [show a.length - 1 = i from by omega] at this
        exact this
      | some d =>
        have e : one a i = ⟨d, i, i + 3⟩ := by unfold one; rw [htr]
        have hs := triAt_some htr
        rw [e] at h ⊢
        simp only at h
        have h3 := hw.2 (by omega)
        rw [show a.length - 3 = i from by omega, show a.length - 2 = i + 1 from by omega, show a.length - 1 = i + 2 from by omega] at h3
        intro hd
        have hd' : d = 92 := hd
        apply h3
        refine ⟨hs.2.1, hs.2.2.1, ?_⟩
        have h4 := hs.2.2.2
        rw [hd'] at h4
        generalize a.getD (i + 2) 0 = x at h4
        unfold tri at h4
        repeat' (split at h4)
        all_goals (first | assumption | (exact absurd h4 (by decide)) | cases h4)
    unfold spl
    rw [decide_eq_false hc]
    rfl

theorem tk_left {a b : List UInt8} (hw : Whole a) {i : Nat} (hi : i < a.length) : tk (a ++ b) i = tk a i := by
  unfold tk
  rw [one_left hw hi, spl_left hw hi]

theorem chs_left {a b : List UInt8} (hw : Whole a) : ∀ (n i : Nat), a.length - i ≤ n → i ≤ a.length → chs (a ++ b) i = chs a i ++ chs (a ++ b) a.length
  | 0, i, h, hi => by
    have e : i = a.length := by omega
    rw [e, chs_end (l := a) (Nat.le_refl _)]
    rfl
  | n + 1, i, h, hi => by
    by_cases hlt : i < a.length
    · have ht := tk_t a i
      rw [chs_step (l := a ++ b) (by rw [List.length_append]; omega), chs_step hlt, tk_left hw hlt, chs_left hw n (tk a i).1.t (by omega) (ht.2.2 hlt), List.append_assoc]
    · have e : i = a.length := by omega
      rw [e, chs_end (l := a) (Nat.le_refl _)]
      rfl

def sh (n : Nat) (r : Rn) : Rn := ⟨r.c, n + r.f, n + r.t⟩

theorem triAt_right (a b : List UInt8) (j : Nat) : triAt (a ++ b) (a.length + j) = triAt b j := by
  unfold triAt
  rw [get_right, Nat.add_assoc, Nat.add_assoc, get_right, get_right, List.length_append]
  by_cases h : j + 2 < b.length ∧ b.getD j 0 = 63 ∧ b.getD (j + 1) 0 = 63
  · rw [if_pos h, if_pos ⟨by omega, h.2⟩]
  · rw [if_neg h, if_neg]
    rintro ⟨h1, h2⟩
    exact h ⟨by omega, h2⟩

theorem one_right (a b : List UInt8) (j : Nat) : one (a ++ b) (a.length + j) = sh a.length (one b j) := by
  unfold one
  rw [triAt_right, get_right]
  split <;> rfl

theorem spl_right (a b : List UInt8) (r : Rn) : spl (a ++ b) (sh a.length r) = spl b r := by
  unfold spl sh
  simp only
  rw [get_right, List.length_append]
  congr 2
  simp

theorem tk_right (a b : List UInt8) (j : Nat) : tk (a ++ b) (a.length + j) = (sh a.length (tk b j).1, (tk b j).2) := by
  unfold tk
  rw [one_right, spl_right]
  split <;> rfl

theorem chs_right (a b : List UInt8) : ∀ (n j : Nat), b.length - j ≤ n → chs (a ++ b) (a.length + j) = (chs b j).map (sh a.length)
  | 0, j, h => by
    rw [chs_end (l := b) (by omega), chs_end (by rw [List.length_append]; omega)]
    rfl
  | n + 1, j, h => by
    by_cases hlt : j < b.length
    · have ht := tk_t b j
      rw [chs_step (by rw [List.length_append]; omega), chs_step hlt, tk_right, List.map_append]
      show _ ++ chs (a ++ b) (a.length + (tk b j).1.t) = _
      rw [chs_right a b n (tk b j).1.t (by omega)]
      split <;> rfl
    · rw [chs_end (l := b) (by omega), chs_end (by rw [List.length_append]; omega)]
      rfl

theorem chs_append {a b : List UInt8} (hw : Whole a) : chs (a ++ b) 0 = chs a 0 ++ (chs b 0).map (sh a.length) := by
  rw [chs_left hw a.length 0 (by omega) (by omega)]
  have := chs_right a b b.length 0 (by omega)
  rw [Nat.add_zero] at this
  rw [this]

theorem filter_all {L : List Rn} {p : Rn → Bool} (h : ∀ r ∈ L, p r = true) : L.filter p = L := List.filter_eq_self.2 h
theorem filter_none {L : List Rn} {p : Rn → Bool} (h : ∀ r ∈ L, p r = false) : L.filter p = [] := List.filter_eq_nil_iff.2 fun r hr => by rw [h r hr]; simp

theorem backL_whole (l : List UInt8) (b : Int) (hb : (l.length : Int) ≤ b) : backL l 0 b = (chs l 0).map Rn.c := by
  unfold backL bk
  rw [filter_all]
  intro r hr
  have := chs_mem l _ 0 (Nat.le_refl _) r hr
  unfold within
  simp
  omega

theorem map_sh (n : Nat) (L : List Rn) : (L.map (sh n)).map Rn.c = L.map Rn.c := by
  rw [List.map_map]
  rfl

theorem back_parts {a b : List UInt8} (hw : Whole a) : backL (a ++ b) 0 ((a.length : Int) + b.length) = backL a 0 a.length ++ backL b 0 b.length := by
  rw [backL_whole (a ++ b) ((a.length : Int) + b.length) (by rw [List.length_append]; omega), backL_whole a a.length (Int.le_refl _), backL_whole b b.length (Int.le_refl _), chs_append hw, List.map_append, map_sh]

theorem back_halves {a b : List UInt8} (hw : Whole a) : backL (a ++ b) 0 a.length ++ backL (a ++ b) a.length ((a.length : Int) + b.length) = backL (a ++ b) 0 ((a.length : Int) + b.length) := by
  rw [backL_whole (a ++ b) ((a.length : Int) + b.length) (by rw [List.length_append]; omega)]
  unfold backL bk
  rw [chs_append hw, List.filter_append, List.filter_append, List.map_append, List.map_append, List.map_append, map_sh]
  have h1 : (chs a 0).filter (within 0 a.length) = chs a 0 := filter_all fun r hr => by
    have := chs_mem a _ 0 (Nat.le_refl _) r hr
    unfold within
    simp
    omega
  have h2 : ((chs b 0).map (sh a.length)).filter (within 0 a.length) = [] := filter_none fun r hr => by
    obtain ⟨q, hq, rfl⟩ := List.mem_map.1 hr
    have := chs_mem b _ 0 (Nat.le_refl _) q hq
    unfold within sh
    simp
    omega
  have h3 : (chs a 0).filter (within a.length ((a.length : Int) + b.length)) = [] := filter_none fun r hr => by
    have := chs_mem a _ 0 (Nat.le_refl _) r hr
    unfold within
    simp
    omega
  have h4 : ((chs b 0).map (sh a.length)).filter (within a.length ((a.length : Int) + b.length)) = (chs b 0).map (sh a.length) := filter_all fun r hr => by
    obtain ⟨q, hq, rfl⟩ := List.mem_map.1 hr
    have := chs_mem b _ 0 (Nat.le_refl _) q hq
    unfold within sh
    simp
    omega
  rw [h1, h2, h3, h4, map_sh]
  simp

end Go.Proofs.Ytobplffailbkbaa

/-
  Characters stand in order; a text without questions and backslashes is itself; over lists.
-/
namespace Go.Proofs.Ytobplffailbkbaa

def Ord (n : Nat) : Nat → List Rn → Prop
  | _, [] => True
  | a, r :: q => a ≤ r.f ∧ r.f ≤ r.t ∧ r.t ≤ n ∧ r.t ≤ r.f + 3 ∧ Ord n r.t q

theorem Ord.low {n : Nat} {a b : Nat} (h : a ≤ b) : ∀ {L : List Rn}, Ord n b L → Ord n a L
  | [], _ => trivial
  | _ :: _, hL => ⟨Nat.le_trans h hL.1, hL.2⟩

theorem chs_ord (l : List UInt8) : ∀ (n i : Nat), l.length - i ≤ n → Ord l.length i (chs l i)
  | 0, i, h => by
    rw [chs_end (by omega)]
    trivial
  | n + 1, i, h => by
    by_cases hi : i < l.length
    · have ht := tk_t l i
      have hn := chs_ord l n (tk l i).1.t (by omega)
      rw [chs_step hi]
      cases hs : (tk l i).2 with
      | false => exact Ord.low (by omega) hn
      | true =>
        have h2 := tk_stands hs
        have h3 := one_t l i
        rw [if_pos rfl]
        refine ⟨by rw [tk_f]; exact Nat.le_refl _, by rw [tk_f]; omega, ht.2.2 hi, ?_, hn⟩
        rw [tk_f, h2]
        exact h3.2.1
    · rw [chs_end (by omega)]
      trivial

theorem Ord.snoc {n c : Nat} : ∀ {L : List Rn} {a : Nat}, Ord n a L → a ≤ n → Ord n a (L ++ [⟨UInt8.ofNat c, n, n⟩])
  | [], a, _, ha => ⟨ha, Nat.le_refl _, Nat.le_refl _, by simp, trivial⟩
  | _ :: _, _, h, _ => ⟨h.1, h.2.1, h.2.2.1, h.2.2.2.1, Ord.snoc h.2.2.2.2 h.2.2.1⟩

theorem charsL_ord (l : List UInt8) : Ord l.length 0 (charsL l) := by
  have h := chs_ord l _ 0 (Nat.le_refl _)
  unfold charsL withNl
  split
  · trivial
  · split
    · exact h
    · exact Ord.snoc (c := 10) h (Nat.zero_le _)

theorem Ord.step {n a k : Nat} {L : List Rn} {r : Rn} (h : Ord n a (L.drop k)) (hr : L[k]? = some r) : a ≤ r.f ∧ r.f ≤ r.t ∧ r.t ≤ n ∧ r.t ≤ r.f + 3 ∧ Ord n r.t (L.drop (k + 1)) := by
  obtain ⟨hk, rfl⟩ := List.getElem?_eq_some_iff.1 hr
  rw [List.drop_eq_getElem_cons hk] at h
  exact h

/-- No question and no backslash among the first k. -/
def plB (l : List UInt8) (k : Nat) : Bool := (l.take k).all fun c => decide (c ≠ 63) && decide (c ≠ 92)
theorem plB_zero (l : List UInt8) : plB l 0 = true := rfl
theorem plB_step {l : List UInt8} {k : Nat} (h : k < l.length) : plB l (k + 1) = (plB l k && (decide (l.getD k 0 ≠ 63) && decide (l.getD k 0 ≠ 92))) := by
  unfold plB
  rw [List.take_succ_eq_append_getElem h, List.all_append]
  simp [List.getD, List.getElem?_eq_getElem h]

theorem plB_get {l : List UInt8} (h : plB l l.length = true) {i : Nat} (hi : i < l.length) : l.getD i 0 ≠ 63 ∧ l.getD i 0 ≠ 92 := by
  unfold plB at h
  rw [List.take_length, List.all_eq_true] at h
  have := h _ (List.getElem_mem hi)
  simp only [Bool.and_eq_true, decide_eq_true_eq] at this
  simpa [List.getD, List.getElem?_eq_getElem hi] using this

theorem tk_plain {l : List UInt8} (h : plB l l.length = true) {i : Nat} (hi : i < l.length) : tk l i = (⟨l.getD i 0, i, i + 1⟩, true) :=
  tk_byte (triAt_not (plB_get h hi).1) (plB_get h hi).2

theorem chs_plain {l : List UInt8} (h : plB l l.length = true) : ∀ (n i : Nat), l.length - i ≤ n → i ≤ l.length → chs l i = (l.drop i).zipIdx.map (fun p => (⟨p.1, i + p.2, i + p.2 + 1⟩ : Rn)) 
  | 0, i, hn, hi => by
    rw [chs_end (by omega), List.drop_eq_nil_of_le (by omega)]
    rfl
  | n + 1, i, hn, hi => by
    by_cases hlt : i < l.length
    · rw [chs_step hlt, tk_plain h hlt, chs_plain h n (i + 1) (by omega) hlt, List.drop_eq_getElem_cons hlt]
      rw [if_pos rfl, List.zipIdx_cons, List.map_cons, List.singleton_append]
      congr 1
      · simp [List.getD, List.getElem?_eq_getElem hlt]
      · rw [List.zipIdx_succ, List.map_map]
        apply List.map_congr_left
        rintro ⟨c, j⟩ -
        simp
        omega
    · rw [chs_end (by omega), List.drop_eq_nil_of_le (by omega)]
      rfl

theorem chs_plain_get {l : List UInt8} (h : plB l l.length = true) {k : Nat} (hk : k < l.length) : (chs l 0)[k]? = some ⟨l.getD k 0, k, k + 1⟩ := by
  rw [chs_plain h _ 0 (Nat.le_refl _) (Nat.zero_le _), List.drop_zero, List.getElem?_map, List.getElem?_zipIdx, List.getElem?_eq_getElem hk]
  simp [List.getD, List.getElem?_eq_getElem hk]

theorem chs_plain_map {l : List UInt8} (h : plB l l.length = true) : (chs l 0).map Rn.c = l := by
  rw [chs_plain h _ 0 (Nat.le_refl _) (Nat.zero_le _), List.drop_zero, List.map_map]
  exact List.zipIdx_map_fst 0 l

theorem charsL_plain {l : List UInt8} (h : plB l l.length = true) {k : Nat} (hk : k < l.length) : (charsL l)[k]? = some ⟨l.getD k 0, k, k + 1⟩ := by
  have h1 := chs_plain_get h hk
  unfold charsL withNl
  rw [if_neg (by intro e; rw [e] at hk; simp at hk)]
  split
  · exact h1
  · obtain ⟨hlt, -⟩ := List.getElem?_eq_some_iff.1 h1
    rw [List.getElem?_append_left hlt]
    exact h1

theorem back_plain {l : List UInt8} (h : plB l l.length = true) : backL l 0 l.length = l := by
  rw [backL_whole l _ (Int.le_refl _), chs_plain_map h]

theorem charsL_count (l : List UInt8) : (charsL l).length ≤ l.length + 1 ∧ (l ≠ [] → 0 < (charsL l).length) := by
  have h := chs_len l _ 0 (Nat.le_refl _)
  unfold charsL withNl
  split
  · rename_i h0
    exact ⟨by simp, fun h1 => absurd h0 h1⟩
  · split
    · rename_i h1
      refine ⟨by omega, fun _ => ?_⟩
      cases hc : chs l 0 with
      | nil => rw [hc] at h1; cases h1
      | cons a q => simp
    · exact ⟨by simp; omega, fun _ => by simp⟩

theorem charsL_last {l : List UInt8} {m : Nat} {r : Rn} (hm : (charsL l).length = m + 1) (hr : (charsL l)[m]? = some r) : r.c = 10 := by
  have h : (charsL l).getLast? = some r := by rw [List.getLast?_eq_getElem?, hm]; exact hr
  unfold charsL at h
  split at h
  · cases h
  · unfold withNl at h
    split at h
    · rename_i h1
      unfold endsNl at h1
      rw [h] at h1
      simpa using h1
    · simp at h
      rw [← h]

end Go.Proofs.Ytobplffailbkbaa

/-
  Where lines and tokens stand, over lists.
-/
namespace Go.Proofs.Ytobplffailbkbaa

def TokOk (l : List UInt8) (to : Nat) : Nat → List Tk → Prop
  | _, [] => True
  | at_, t :: r => at_ ≤ t.f ∧ t.f < t.t ∧ t.t ≤ to ∧ backL l t.f t.t = t.x ∧ TokOk l to t.t r
def LnOk (l : List UInt8) : Nat → List Ln → Prop
  | _, [] => True
  | at_, ln :: r => ln.f = at_ ∧ at_ ≤ ln.t ∧ (ln.o = true → r = []) ∧ TokOk l ln.t at_ ln.toks ∧ LnOk l ln.t r
def lastT : Nat → List Ln → Nat
  | a, [] => a
  | _, ln :: r => lastT ln.t r
def lastTk : Nat → List Tk → Nat
  | a, [] => a
  | _, t :: r => lastTk t.t r

theorem TokOk.up {l : List UInt8} {to to' : Nat} (h : to ≤ to') : ∀ {at_ : Nat} {T : List Tk}, TokOk l to at_ T → TokOk l to' at_ T
  | _, [], _ => trivial
  | _, _ :: _, hT => ⟨hT.1, hT.2.1, Nat.le_trans hT.2.2.1 h, hT.2.2.2.1, TokOk.up h hT.2.2.2.2⟩
theorem TokOk.snoc {l : List UInt8} {to : Nat} {t : Tk} : ∀ {at_ : Nat} {T : List Tk}, TokOk l to at_ T → lastTk at_ T ≤ t.f → t.f < t.t → t.t ≤ to → backL l t.f t.t = t.x → TokOk l to at_ (T ++ [t])
  | _, [], _, h1, h2, h3, h4 => ⟨h1, h2, h3, h4, trivial⟩
  | _, _ :: _, hT, h1, h2, h3, h4 => ⟨hT.1, hT.2.1, hT.2.2.1, hT.2.2.2.1, TokOk.snoc hT.2.2.2.2 h1 h2 h3 h4⟩
theorem lastTk_snoc {t : Tk} : ∀ {a : Nat} {T : List Tk}, lastTk a (T ++ [t]) = t.t
  | _, [] => rfl
  | _, _ :: r => lastTk_snoc (T := r)
theorem lastT_snoc {t : Ln} : ∀ {a : Nat} {T : List Ln}, lastT a (T ++ [t]) = t.t
  | _, [] => rfl
  | _, _ :: r => lastT_snoc (T := r)
theorem LnOk.snoc {l : List UInt8} {ln : Ln} : ∀ {at_ : Nat} {T : List Ln}, LnOk l at_ T → (∀ x ∈ T, x.o = false) → ln.f = lastT at_ T → ln.f ≤ ln.t → TokOk l ln.t ln.f ln.toks → LnOk l at_ (T ++ [ln])
  | a, [], _, _, h1, h2, h3 => by
    have h1 : ln.f = a := h1
    exact ⟨h1, by rw [← h1]; exact h2, fun _ => rfl, by rw [← h1]; exact h3, trivial⟩
  | _, x :: _, hT, ho, h1, h2, h3 => ⟨hT.1, hT.2.1, fun h => (by rw [ho x (List.mem_cons_self)] at h; cases h), hT.2.2.2.1, LnOk.snoc hT.2.2.2.2 (fun y hy => ho y (List.mem_cons_of_mem _ hy)) h1 h2 h3⟩

theorem ord_pair {n : Nat} : ∀ {a : Nat} {L : List Rn}, Ord n a L → L.Pairwise (fun x y => x.t ≤ y.f) ∧ ∀ x ∈ L, a ≤ x.f
  | _, [], _ => ⟨List.Pairwise.nil, fun x h => by cases h⟩
  | a, r :: q, h => by
    obtain ⟨h1, h2, h3, h4, h5⟩ := h
    obtain ⟨p1, p2⟩ := ord_pair h5
    refine ⟨List.Pairwise.cons p2 p1, fun x hx => ?_⟩
    rcases List.mem_cons.1 hx with rfl | hx
    · exact h1
    · have := p2 x hx
      omega

/-- Two characters of a text, by their places. -/
theorem rn_order {l : List UInt8} {L : List Rn} (hL : charsL l = L) {i j : Nat} (hij : i < j) (hj : j < L.length) : rnT L i ≤ rnF L j := by
  have hp := (ord_pair (charsL_ord l)).1
  rw [hL, List.pairwise_iff_getElem] at hp
  have := hp i j (by omega) hj hij
  rw [rnT_of (List.getElem?_eq_getElem (by omega)), rnF_of (List.getElem?_eq_getElem hj)]
  exact this
theorem ord_each {n : Nat} : ∀ {a : Nat} {L : List Rn}, Ord n a L → ∀ x ∈ L, x.f ≤ x.t ∧ x.t ≤ n
  | _, _ :: _, h, x, hx => by
    rcases List.mem_cons.1 hx with rfl | hx
    · exact ⟨h.2.1, h.2.2.1⟩
    · exact ord_each h.2.2.2.2 x hx
theorem rn_in {l : List UInt8} {L : List Rn} (hL : charsL l = L) {i : Nat} (hi : i < L.length) : rnF L i ≤ rnT L i ∧ rnT L i ≤ l.length := by
  have := ord_each (charsL_ord l) L[i] (by rw [hL]; exact List.getElem_mem hi)
  rw [rnT_of (List.getElem?_eq_getElem hi), rnF_of (List.getElem?_eq_getElem hi)]
  exact this

/-- Characters that are no byte 10 stand in the text themselves. -/
theorem chs_part {l : List UInt8} {L : List Rn} (hL : charsL l = L) : ∃ e, L = chs l 0 ++ e ∧ ∀ x ∈ e, x.c = 10 := by
  rw [← hL]
  unfold charsL
  split
  · rename_i h
    subst h
    exact ⟨[], rfl, fun x hx => by cases hx⟩
  · unfold withNl
    split
    · exact ⟨[], by simp, fun x hx => by cases hx⟩
    · exact ⟨_, rfl, fun x hx => by simp at hx; rw [hx]⟩

theorem get_chs {l : List UInt8} {L : List Rn} (hL : charsL l = L) {i : Nat} (hi : i < L.length) (h10 : (bytesOf L).getD i 0 ≠ 10) : i < (chs l 0).length ∧ rnF L i < rnT L i := by
  obtain ⟨e, he, hc⟩ := chs_part hL
  have h1 : i < (chs l 0).length := by
    rcases Nat.lt_or_ge i (chs l 0).length with h | h
    · exact h
    · exfalso
      apply h10
      have hx : L[i]? = e[i - (chs l 0).length]? := by rw [he, List.getElem?_append_right h]
      rw [List.getElem?_eq_getElem hi] at hx
      have hm := List.mem_of_getElem? hx.symm
      have := hc _ hm
      simp [bytesOf, List.getD, List.getElem?_eq_getElem hi, this]
  refine ⟨h1, ?_⟩
  have hx : L[i]? = some (chs l 0)[i] := by rw [he, List.getElem?_append_left h1, List.getElem?_eq_getElem h1]
  rw [rnF_of hx, rnT_of hx]
  exact (chs_mem l _ 0 (Nat.le_refl _) _ (List.getElem_mem h1)).2.1

/-- What stands from one character to another is the characters. -/
theorem back_range {l : List UInt8} {L : List Rn} (hL : charsL l = L) {i n : Nat} (hn : 0 < n) (hin : i + n ≤ L.length) (h10 : ∀ j, j < n → (bytesOf L).getD (i + j) 0 ≠ 10) : backL l (rnF L i) (rnT L (i + n - 1)) = ((bytesOf L).drop i).take n := by
  obtain ⟨e, he, hc⟩ := chs_part hL
  have h1 : i + n - 1 < (chs l 0).length := (get_chs hL (by omega) (by have := h10 (n - 1) (by omega); rw [show i + (n - 1) = i + n - 1 from by omega] at this; exact this)).1
  have h0 : i < (chs l 0).length := by omega
  have hgf : rnF L i = (chs l 0)[i].f := rnF_of (by rw [he, List.getElem?_append_left h0, List.getElem?_eq_getElem h0])
  have hgt : rnT L (i + n - 1) = (chs l 0)[i + n - 1].t := rnT_of (by rw [he, List.getElem?_append_left h1, List.getElem?_eq_getElem h1])
  have hp := (ord_pair (chs_ord l _ 0 (Nat.le_refl _))).1
  rw [List.pairwise_iff_getElem] at hp
  have hm := fun (j : Nat) (hj : j < (chs l 0).length) => chs_mem l _ 0 (Nat.le_refl _) (chs l 0)[j] (List.getElem_mem hj)
  unfold backL bk
  rw [hgf, hgt]
  have hsplit : chs l 0 = (chs l 0).take i ++ (((chs l 0).drop i).take n ++ ((chs l 0).drop i).drop n) := by rw [List.take_append_drop, List.take_append_drop]
  obtain ⟨p, hP⟩ : ∃ p, within ((chs l 0)[i].f : Int) ((chs l 0)[i + n - 1].t : Int) = p := ⟨_, rfl⟩
  rw [hP]
  have hfil : (chs l 0).filter p = ((chs l 0).drop i).take n := by
    conv => lhs; rw [hsplit]
    rw [List.filter_append, List.filter_append]
    have f1 : ((chs l 0).take i).filter p = [] := by
      rw [List.filter_eq_nil_iff]
      intro x hx
      obtain ⟨j, hj, rfl⟩ := List.getElem_of_mem hx
      rw [List.length_take] at hj
      have hji : j < i := by omega
      rw [List.getElem_take]
      have a1 := hp j i (by omega) h0 hji
      have a2 := hm j (by omega)
      rw [← hP]
      unfold within
      simp
      omega
    have f2 : (((chs l 0).drop i).take n).filter p = ((chs l 0).drop i).take n := by
      rw [List.filter_eq_self]
      intro x hx
      obtain ⟨j, hj, rfl⟩ := List.getElem_of_mem hx
      rw [List.length_take, List.length_drop] at hj
      rw [List.getElem_take, List.getElem_drop]
      rw [← hP]
      unfold within
      simp only [Bool.and_eq_true, decide_eq_true_eq]
      constructor
      · rcases Nat.eq_zero_or_pos j with rfl | hj0
        · simp
        · have a1 := hp i (i + j) h0 (by omega) (by omega)
          have a2 := hm i h0
          omega
      · by_cases hjn : j = n - 1
        · subst hjn
          have : (chs l 0)[i + (n - 1)].t = (chs l 0)[i + n - 1].t := by simp only [show i + (n - 1) = i + n - 1 from by omega]
          omega
        · have a1 := hp (i + j) (i + n - 1) (by omega) h1 (by omega)
          have a2 := hm (i + n - 1) h1
          omega
    have f3 : (((chs l 0).drop i).drop n).filter p = [] := by
      rw [List.filter_eq_nil_iff]
      intro x hx
      obtain ⟨j, hj, rfl⟩ := List.getElem_of_mem hx
      rw [List.drop_drop, List.length_drop] at hj
      simp only [List.drop_drop, List.getElem_drop]
      have a1 := hp (i + n - 1) (i + n + j) h1 (by omega) (by omega)
      have a2 := hm (i + n + j) (by omega)
      rw [← hP]
      unfold within
      simp
      omega
    rw [f1, f2, f3]
    simp
  rw [hfil, List.map_take, List.map_drop]
  unfold bytesOf
  rw [he, List.map_append, List.drop_append_of_le_length (by rw [List.length_map]; omega), List.take_append_of_le_length (by rw [List.length_drop, List.length_map]; omega)]

def posL (L : List Rn) (sz i : Nat) : Nat := if i < L.length then rnF L i else sz

/-- What holds where an item begins. -/
structure LxInv (l : List UInt8) (L : List Rn) (i : Nat) (a : Acc) : Prop where
  ok : LnOk l 0 a.lines
  shut : ∀ x ∈ a.lines, x.o = false
  last : lastT 0 a.lines = a.fr
  toks : TokOk l (posL L l.length i) a.fr a.toks
  lastk : lastTk a.fr a.toks ≤ posL L l.length i
  fr : a.fr ≤ posL L l.length i
  fin : i = L.length → a.fr = l.length ∧ a.lines ≠ []

def Good (l : List UInt8) (R : Acc) : Prop := LnOk l 0 R.lines ∧ lastT 0 R.lines = l.length ∧ (R.lines = [] ↔ l = [])

theorem posL_mono {l : List UInt8} {L : List Rn} (hL : charsL l = L) {i j : Nat} (hij : i ≤ j) (hj : j < L.length) : posL L l.length i ≤ posL L l.length j := by
  unfold posL
  rw [if_pos (by omega), if_pos hj]
  rcases Nat.lt_or_ge i j with h | h
  · have := rn_order hL h hj
    have := rn_in hL (i := i) (by omega)
    omega
  · rw [show i = j from by omega]
    exact Nat.le_refl _

theorem charsL_ne {l : List UInt8} {L : List Rn} (hL : charsL l = L) (h : 0 < L.length) : l ≠ [] := by
  rintro rfl
  rw [← hL] at h
  simp [charsL] at h

theorem last_item {L : List Rn} (hN : Nl (bytesOf L)) {i n : Nat} (h : i + n = L.length) (hn : 0 < n) : (bytesOf L).getD (i + (n - 1)) 0 = 10 := by
  have := hN.2
  rw [bytesOf_len] at this
  rw [show i + (n - 1) = L.length - 1 from by omega]
  exact this

theorem run_good {l : List UInt8} {L : List Rn} (hL : charsL l = L) (hN : Nl (bytesOf L)) : ∀ (m i : Nat) (a : Acc), L.length - i ≤ m → i ≤ L.length → LxInv l L i a → Good l (fromA L l.length i a)
  | 0, i, a, h, h2, hI => by
    rw [fromA_end (by omega)]
    have hf := hI.fin (by omega)
    have h0 := hN.1
    rw [bytesOf_len] at h0
    exact ⟨hI.ok, by rw [hI.last, hf.1], fun e => absurd e hf.2, fun e => absurd e (charsL_ne hL h0)⟩
  | m + 1, i, a, h, h2, hI => by
    by_cases hi : i < L.length
    · have hlen := bytesOf_len L
      have hin := lenA_in (L := L) hi
      rw [fromA_step hi]
      have hit := item_in (l := (bytesOf L).drop i) (by rw [List.length_drop, hlen]; omega)
      have hpi : posL L l.length i = rnF L i := by unfold posL; rw [if_pos hi]
      have hr := rn_in hL hi
      obtain ⟨hok, hshut, hlast, htoks, hlastk, hfr, hfin⟩ := hI
      rw [hpi] at htoks hlastk hfr
      cases hc : item ((bytesOf L).drop i) with
      | nl =>
        refine run_good hL hN m (i + 1) _ (by omega) hi ?_
        have hto : rnT L i ≤ toA L l.length (i + 1) := by
          unfold toA
          split
          · simp
          · exact hr.2
        have hto2 : toA L l.length (i + 1) ≤ posL L l.length (i + 1) := by
          unfold toA posL
          split
          · rename_i h3
            rw [Nat.add_sub_cancel]
            exact rn_order hL (Nat.lt_succ_self i) h3
          · exact Nat.le_refl _
        refine ⟨LnOk.snoc hok hshut hlast.symm (by simp only; omega) (htoks.up (by simp only; omega)), ?_, lastT_snoc, trivial, hto2, hto2, ?_⟩
        · intro x hx
          simp only [stepA, endA, List.mem_append, List.mem_cons, List.not_mem_nil, or_false] at hx
          rcases hx with hx | rfl
          · exact hshut x hx
          · rfl
        · intro e
          refine ⟨?_, by simp [stepA, endA]⟩
          simp only [stepA, endA, toA]
          rw [if_neg (by omega)]
      | gap n =>
        rw [hc] at hin hit
        obtain ⟨hn0, hn1, hn2⟩ := hit (by simp)
        simp only [It.len, List.length_drop, hlen, getD_drop] at hn0 hn1 hn2
        have hlt : i + n < L.length := by
          rcases Nat.lt_or_ge (i + n) L.length with h3 | h3
          · exact h3
          · exact absurd (last_item hN (by omega) hn0) (hn2 (by simp))
        have hp := posL_mono hL (Nat.le_add_right i n) hlt
        rw [hpi] at hp
        exact run_good hL hN m (i + n) _ (by omega) (by omega) ⟨hok, hshut, hlast, htoks.up hp, Nat.le_trans hlastk hp, Nat.le_trans hfr hp, fun e => by omega⟩
      | opn =>
        rw [show i + lenA L i .opn = L.length from by simp only [lenA]; omega, fromA_end (Nat.le_refl _)]
        refine ⟨LnOk.snoc hok hshut hlast.symm (by simp only [tellA]; omega) (htoks.up (by simp only; omega)), lastT_snoc, fun e => ?_, fun e => absurd e (charsL_ne hL (by omega))⟩
        simp [stepA, endA] at e
      | tk k n =>
        rw [hc] at hin hit
        obtain ⟨hn0, hn1, hn2⟩ := hit (by simp)
        simp only [It.len, List.length_drop, hlen, getD_drop] at hn0 hn1 hn2
        have hlt : i + n < L.length := by
          rcases Nat.lt_or_ge (i + n) L.length with h3 | h3
          · exact h3
          · exact absurd (last_item hN (by omega) hn0) (hn2 (by simp))
        have hb : begN ((bytesOf L).drop i) = 1 := by
          rcases begN_five ((bytesOf L).drop i) with h3 | h3 | h3 | h3 | h3
          · exact h3
          · rw [item_nl h3] at hc; cases hc
          · rw [item_sp h3] at hc; cases hc
          · rw [item_rem h3] at hc; cases hc
          · cases hq : comN (((bytesOf L).drop i).drop 2) with
            | none => rw [item_opn h3 hq] at hc; cases hc
            | some q => rw [item_com h3 hq] at hc; cases hc
        have htk : tok ((bytesOf L).drop i) = (k, n) := by
          rw [item_tk hb] at hc
          simp only [It.tk.injEq] at hc
          rw [← hc.1, ← hc.2]
        have h10 : ((bytesOf L).drop i).getD 0 0 ≠ 10 := fun e => by rw [begN_two' e] at hb; cases hb
        have hti := tok_in (l := (bytesOf L).drop i) (by rw [List.length_drop, hlen]; omega) h10
        rw [htk] at hti
        have hno : ∀ j, j < n → (bytesOf L).getD (i + j) 0 ≠ 10 := fun j hj => by
          have := hti.2.2 j hj
          rw [getD_drop] at this
          exact this
        have hback := back_range hL hn0 (by omega) hno
        have hlst := get_chs hL (i := i + n - 1) (by omega) (by have := hno (n - 1) (by omega); rw [show i + (n - 1) = i + n - 1 from by omega] at this; exact this)
        have hft : rnF L i < rnT L (i + n - 1) := by
          rcases Nat.lt_or_ge i (i + n - 1) with h3 | h3
          · have := rn_order hL h3 (by omega)
            omega
          · have e : i + n - 1 = i := by omega
            rw [e] at hlst ⊢
            exact hlst.2
        have hpn : rnT L (i + n - 1) ≤ posL L l.length (i + n) := by
          unfold posL
          rw [if_pos hlt]
          exact rn_order hL (by omega) hlt
        refine run_good hL hN m (i + n) _ (by omega) (by omega) ?_
        have hA : ∀ b : Acc, b.fr = a.fr → b.toks = a.toks → b.lines = a.lines → LxInv l L (i + n) (pushA L b k i n) := by
          intro b e1 e2 e3
          refine ⟨by simp only [pushA]; rw [e3]; exact hok, by simp only [pushA]; rw [e3]; exact hshut, by simp only [pushA]; rw [e3, e1]; exact hlast, ?_, ?_, ?_, fun e => by omega⟩
          · simp only [pushA]
            rw [e1, e2]
            exact TokOk.snoc (htoks.up (by omega)) hlastk hft hpn hback
          · simp only [pushA]
            rw [lastTk_snoc]
            exact hpn
          · simp only [pushA]
            rw [e1]
            omega
        show LxInv l L (i + n) (takeA L a k i n)
        unfold takeA
        split
        · exact hA _ rfl rfl rfl
        · exact hA _ rfl rfl rfl
    · rw [fromA_end (by omega)]
      have hf := hI.fin (by omega)
      have h0 := hN.1
      rw [bytesOf_len] at h0
      exact ⟨hI.ok, by rw [hI.last, hf.1], fun e => absurd e hf.2, fun e => absurd e (charsL_ne hL h0)⟩

theorem lines_good (l : List UInt8) (hN : charsL l = [] ∨ Nl (bytesOf (charsL l))) : Good l (linesA (charsL l) l.length) := by
  rcases hN with h | h
  · have hl : l = [] := by
      cases l with
      | nil => rfl
      | cons a r =>
        exfalso
        unfold charsL at h
        rw [if_neg (by simp)] at h
        unfold withNl at h
        split at h
        · rename_i h1
          rw [h] at h1
          simp [endsNl] at h1
        · simp at h
    subst hl
    rw [h]
    exact ⟨trivial, rfl, by simp [linesA, runA, acc0]⟩
  · refine run_good rfl h _ 0 acc0 (Nat.le_refl _) (Nat.zero_le _) ⟨trivial, fun x hx => (by cases hx), rfl, trivial, Nat.zero_le _, Nat.zero_le _, fun e => ?_⟩
    have := h.1
    rw [bytesOf_len] at this
    omega

end Go.Proofs.Ytobplffailbkbaa
