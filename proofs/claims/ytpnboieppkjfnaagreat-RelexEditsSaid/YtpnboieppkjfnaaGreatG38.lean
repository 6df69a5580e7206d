/-
  Texts of the proof, put together: ReG.
-/
import Derived.Test.YtpnboieppkjfnaaGreatG33
import Derived.Test.YtpnboieppkjfnaaGreatG37

/-
  What keep needs: stores of what lies there, appends of kept lines, diagnostics that are left, and lines as they were lexed.
-/
namespace Go.Proofs.YtpnboieppkjfnaaGreat
open Go.RowKit

theorem setCell_id {w : World} {b j : Nat} {v : Value} (h : w.cell? ⟨b, j, none⟩ = some v) : w.setCell ⟨b, j, none⟩ v = w := by
  obtain ⟨heap, tape, drawn, os, output⟩ := w
  unfold World.cell? at h
  simp only at h
  unfold World.setCell
  simp only [World.mk.injEq, and_true]
  apply Array.ext_getElem?
  intro i
  rw [Array.getElem?_modify]
  by_cases hi : b = i
  · subst hi
    rw [if_pos rfl]
    cases hh : heap[b]? with
    | none => rfl
    | some o =>
      rw [hh] at h
      cases o with
      | cells c e f =>
        simp only [Option.isSome_none, Bool.false_eq_true, if_false] at h
        simp only [Option.map_some, Option.isSome_none, Bool.false_eq_true, if_false]
        congr 2
        apply Array.ext_getElem?
        intro k
        rw [Array.getElem?_setIfInBounds]
        by_cases hk : j = k
        · subst hk
          rw [if_pos rfl]
          have hl : j < c.size := by
            rcases Nat.lt_or_ge j c.size with h1 | h1
            · exact h1
            · rw [Array.getElem?_eq_none h1] at h
              cases h
          rw [if_pos hl, h]
        · rw [if_neg hk]
      | _ => rfl
  · rw [if_neg hi]

/-- Blocks of other types are as they were. -/
def Oth (e : TypeId) (w w' : World) : Prop := ∀ (k : Nat) (cs : Array Value) (ty : TypeId) (z : Nat × Nat), w.heap[k]? = some (.cells cs ty z) → ty ≠ e → w'.heap[k]? = some (.cells cs ty z)
theorem Oth.below {e : TypeId} {w w' : World} (b : Below w.heap.size w w') : Oth e w w' := fun k _ _ _ h _ => (b.block k (row_lt h)).trans h
theorem Oth.trans {e : TypeId} {a b c : World} (h : Oth e a b) (k : Oth e b c) : Oth e a c := fun i cs ty z hi ht => k i cs ty z (h i cs ty z hi ht) ht
theorem own_oth {B : Nat} {w w' : World} {e e' : TypeId} {size : Nat} {v : Value} {n : Nat} {xs : List Value} (h : w.ownsRow B e' size v n xs) (s : Oth e w w') (he : e' ≠ e) : w'.ownsRow B e' size v n xs := by
  obtain ⟨h1, h2 | ⟨g, cap, cur, rfl, hg, hh, hr⟩⟩ := h
  · exact ⟨h1, .inl h2⟩
  · exact ⟨h1, .inr ⟨g, cap, cur, rfl, hg, s _ _ _ _ hh he, hr⟩⟩
theorem LineAt.oth {w w' : World} {p : Nat} {b : Int} {x : Ln × List Dg} (h : LineAt w p b x) (s : Oth 84 w w') : LineAt w' p b x := by
  obtain ⟨tv, dv, h1, h2, h3⟩ := h
  exact ⟨tv, dv, s _ _ _ _ h1 (by decide), own_oth h2 s (by decide), own_oth h3 s (by decide)⟩
theorem KRead.oth {K : List (Nat × Int)} {R : List (Ln × List Dg)} {w w' : World} (h : KRead K R w) (s : Oth 84 w w') : KRead K R w' :=
  ⟨h.1, fun i k x hk hx => ⟨(h.2 i k x hk hx).1, (h.2 i k x hk hx).2.oth s⟩⟩

theorem oth_grown {B : Nat} {w w' : World} {e : TypeId} {size : Nat} {v : Value} {n : Nat} {xs : List Value} (h : w.ownsRow B e size v n xs) (g : w.grownBy w' v.ownBlock) : Oth e w w' := by
  intro k cs ty z hk ht
  refine (g.block k (row_lt hk) fun e2 => ?_).trans hk
  obtain ⟨h1, ⟨rfl, rfl⟩ | ⟨gb, cap, cur, rfl, hg, hh, hr⟩⟩ := h
  · simp [Value.ownBlock] at e2
  · simp only [Value.ownBlock, Option.some.injEq] at e2
    subst e2
    rw [hh] at hk
    simp only [Option.some.injEq, Obj.cells.injEq] at hk
    exact ht hk.2.1.symm

/-- A kept line more. -/
def KAdd (W : World) (n : Nat) (xs : List Value) (k : Nat × Int) (w : World) (b n' cap : Nat) (w' : World) : Prop :=
  n' = n + 1 ∧ Up W 84 2 (.slice (some ⟨b, 0, none⟩) n' cap) n' (xs ++ kcell k) w' ∧ Oth 84 w w'
theorem kadd_ex {W w : World} {ty : TypeId} {v sv : Value} {n : Nat} {xs : List Value} {k : Nat × Int} (h : Up W 84 2 v n xs w) (hs : Src w sv 1 2 (kcell k)) (hn : n ≤ 500000) :
    ∃ b n' cap w', (Builtin.append_ #[60, 60] ty #[v, sv]).run Tryz.prog w = .ok (.slice (some ⟨b, 0, none⟩) n' cap) w' ∧ KAdd W n xs k w b n' cap w' := by
  obtain ⟨i0, hi, hz0, hz1, hz2⟩ := info_parts Tryz.infoKept
  obtain ⟨v', w', hr, h2, h3⟩ := run_app (ty := ty) Tryz.underlying60 hi hz0 hz1 hz2 rfl (by decide) (by decide) h.1 hs (by intro u hu; simp only [kcell, List.mem_cons, List.not_mem_nil, or_false] at hu; rcases hu with rfl | rfl <;> rfl) (by omega) h.2.size
  have hb : Below W.heap.size W w' := h.2.grown h3 h.2.size fun k hk => (World.ownsRow.lt h.1 k hk).1
  obtain ⟨b, cap, hv⟩ := append_form h2 (by omega)
  subst hv
  exact ⟨b, _, cap, w', hr, rfl, ⟨h2, hb⟩, oth_grown h.1 h3⟩

/-- Diagnostics that are left. -/
def DV (D : List Dg) (v : Value) (w : World) : Prop :=
  ∃ ad cc, v = .slice ad D.length cc ∧ D.length ≤ cc ∧ cc ≤ maxLen ∧ (ad = none → cc = 0) ∧ (∀ a, ad = some a → a.block < w.heap.size) ∧ (D ≠ [] → ∃ g o, ad = some ⟨g, o, none⟩ ∧ ∀ j u, (dcells Efile D)[j]? = some u → w.cell? ⟨g, o + j, none⟩ = some u)
theorem DV.over {D : List Dg} {v : Value} {w w' : World} (h : DV D v w) (b : Below w.heap.size w w') : DV D v w' := by
  obtain ⟨ad, cc, hv, h1, h2, h3, h4, h5⟩ := h
  refine ⟨ad, cc, hv, h1, h2, h3, fun a ha => Nat.lt_of_lt_of_le (h4 a ha) b.size, fun hD => ?_⟩
  obtain ⟨g, o, ha, hc⟩ := h5 hD
  exact ⟨g, o, ha, fun j u hu => bcell b (hc j u hu) (h4 _ ha)⟩
theorem DV.of {W w : World} {D : List Dg} {v : Value} (h : DRow W Efile v D w) : DV D v w := by
  have h0 := h.1
  obtain ⟨a, cap, hv, c1, c2, c3⟩ := row_form h.1
  obtain ⟨k1, ⟨e1, e2⟩ | ⟨g, cap2, cur, e1, hg, hh, -⟩⟩ := h0
  · rw [e1] at hv
    simp only [Value.slice.injEq] at hv
    obtain ⟨rfl, h2, rfl⟩ := hv
    refine ⟨none, 0, by rw [e1, e2], by omega, c2, fun _ => rfl, fun a ha => (by cases ha), fun hD => ?_⟩
    exact absurd (List.eq_nil_of_length_eq_zero e2) hD
  · rw [e1] at hv
    simp only [Value.slice.injEq] at hv
    obtain ⟨rfl, -, rfl⟩ := hv
    refine ⟨_, cap2, e1, c1, c2, fun h => (by cases h), fun a ha => ?_, fun hD => ⟨g, 0, rfl, fun j u hu => ?_⟩⟩
    · cases ha
      exact row_lt hh
    · obtain ⟨g', hg', -, hc⟩ := c3 j u hu
      simp only [Option.some.injEq, Addr.mk.injEq, and_true] at hg'
      rw [hg', Nat.zero_add]
      exact hc

theorem dcells_len (D : List Dg) : (dcells Efile D).length = D.length * 4 := by
  induction D with
  | nil => rfl
  | cons d r ih =>
    have e : dcells Efile (d :: r) = dcell Efile d ++ dcells Efile r := rfl
    rw [e, List.length_append, ih, List.length_cons]
    simp [dcell]
    omega
theorem dcells_take (D : List Dg) (n : Nat) : dcells Efile (D.take n) = (dcells Efile D).take (n * 4) := by
  induction D generalizing n with
  | nil => simp [dcells]
  | cons d r ih =>
    cases n with
    | zero => simp [dcells]
    | succ n =>
      have e : dcells Efile (d :: r) = dcell Efile d ++ dcells Efile r := rfl
      have e2 : dcells Efile ((d :: r).take (n + 1)) = dcell Efile d ++ dcells Efile (r.take n) := rfl
      rw [e, e2, ih, List.take_append, show (dcell Efile d).length = 4 from rfl, List.take_of_length_le (show (dcell Efile d).length ≤ (n + 1) * 4 by show 4 ≤ (n + 1) * 4; omega), show (n + 1) * 4 - 4 = n * 4 from by omega]
theorem dcells_drop (D : List Dg) (n : Nat) : dcells Efile (D.drop n) = (dcells Efile D).drop (n * 4) := by
  induction D generalizing n with
  | nil => simp [dcells]
  | cons d r ih =>
    cases n with
    | zero => simp [dcells]
    | succ n =>
      have e : dcells Efile (d :: r) = dcell Efile d ++ dcells Efile r := rfl
      rw [List.drop_succ_cons, e, ih, List.drop_append, show (dcell Efile d).length = 4 from rfl, List.drop_of_length_le (show (dcell Efile d).length ≤ (n + 1) * 4 by show 4 ≤ (n + 1) * 4; omega), show (n + 1) * 4 - 4 = n * 4 from by omega, List.nil_append]

theorem DV.head {D : List Dg} {ad : Option Addr} {cc : Nat} {w : World} (h : DV D (.slice ad D.length cc) w) {n : Nat} (hn : n ≤ D.length) : Src w (.slice ad n cc) n 4 (dcells Efile (D.take n)) ∧ ∀ a m c, Value.slice ad n cc = .slice (some a) m c → a.block < w.heap.size := by
  obtain ⟨ad2, cc2, hv, h1, h2, h3, h4, h5⟩ := h
  simp only [Value.slice.injEq, true_and] at hv
  obtain ⟨rfl, rfl⟩ := hv
  refine ⟨?_, fun a m c e => ?_⟩
  · cases ad with
    | none =>
      have := h3 rfl
      subst this
      have hn0 : n = 0 := by omega
      subst hn0
      exact .inl ⟨rfl, rfl, rfl⟩
    | some a =>
      refine .inr ⟨a, cc, rfl, by rw [dcells_len, List.length_take, Nat.min_eq_left hn], fun j u hu => ?_⟩
      by_cases hD : D = []
      · subst hD
        simp [dcells] at hu
      · obtain ⟨g, o, ha, hc⟩ := h5 hD
        cases ha
        rw [dcells_take, List.getElem?_take] at hu
        split at hu
        · have := hc j u hu
          unfold Addr.add
          split
          · rename_i hj
            subst hj
            exact this
          · exact this
        · cases hu
  · simp only [Value.slice.injEq] at e
    exact h4 a e.1
theorem DV.tail {D : List Dg} {ad : Option Addr} {cc : Nat} {w : World} (h : DV D (.slice ad D.length cc) w) {n : Nat} (hn : n ≤ D.length) : DV (D.drop n) (.slice (if cc = n then ad else ad.map (·.add (n * 4))) (D.length - n) (cc - n)) w := by
  obtain ⟨ad2, cc2, hv, h1, h2, h3, h4, h5⟩ := h
  simp only [Value.slice.injEq, true_and] at hv
  obtain ⟨rfl, rfl⟩ := hv
  refine ⟨_, cc - n, by rw [List.length_drop], by rw [List.length_drop]; omega, by omega, fun h => ?_, fun a ha => ?_, fun hD => ?_⟩
  · split at h
    · omega
    · cases ad with
      | none =>
        have := h3 rfl
        omega
      | some a => cases h
  · split at ha
    · exact h4 a ha
    · cases ad with
      | none => cases ha
      | some a0 =>
        simp only [Option.map_some, Option.some.injEq] at ha
        rw [← ha, add_block2]
        exact h4 a0 rfl
  · have hlt : n < D.length := by
      rcases Nat.lt_or_ge n D.length with h | h
      · exact h
      · exact absurd (List.drop_of_length_le h) hD
    obtain ⟨g, o, ha, hc⟩ := h5 (fun e => by rw [e] at hlt; simp at hlt)
    subst ha
    refine ⟨g, o + n * 4, ?_, fun j u hu => ?_⟩
    · rw [if_neg (by omega)]
      simp only [Option.map_some, Addr.add]
      split
      · rename_i h0
        rw [h0]
        rfl
      · rfl
    · rw [dcells_drop, List.getElem?_drop] at hu
      have := hc _ u hu
      rw [Nat.add_assoc]
      exact this

theorem sliceD_hi (ad : Option Addr) (m cc n : Nat) (h1 : n ≤ m) (h2 : m ≤ cc) (w : World) : (Instr.slice 70 (.slice ad m cc) none (some (.int .i64 (n : Int))) none).run Tryz.prog w = .ok (.slice ad n cc) w := by
  have a2 : (n : Int) ≤ (cc : Int) := by omega
  have a4 : (0 : Int) ≤ (n : Int) := by omega
  have a5 : Tryz.prog.cellsOf 104 = 4 := by kernel_rfl
  simp [Instr.slice, run_underlying Tryz.underlying70, Instr.sliceBounds, run_sliceBound, Addr.add, *]
theorem sliceD_lo (ad : Option Addr) (m cc n : Nat) (h1 : n ≤ m) (_h2 : m ≤ cc) (w : World) : (Instr.slice 70 (.slice ad m cc) (some (.int .i64 (n : Int))) none none).run Tryz.prog w = .ok (.slice (if cc = n then ad else ad.map (·.add (n * 4))) (m - n) (cc - n)) w := by
  have a2 : (n : Int) ≤ (m : Int) := by omega
  have a4 : (0 : Int) ≤ (n : Int) := by omega
  have a5 : Tryz.prog.cellsOf 104 = 4 := by kernel_rfl
  simp [Instr.slice, run_underlying Tryz.underlying70, Instr.sliceBounds, run_sliceBound, *]

/-- A line as it was lexed: all its places are those of a text that may be. -/
def Raw (x : Ln × List Dg) : Prop :=
  x.1.f ≤ 70000 ∧ x.1.t ≤ 70000 ∧ (∀ t ∈ x.1.toks, t.f ≤ 70000 ∧ t.t ≤ 70000 ∧ t.x.length ≤ 70000) ∧ (∀ d ∈ x.2, d.f ≤ 70000 ∧ d.t ≤ 70000) ∧ x.1.toks.length ≤ 70000 ∧ x.2.length ≤ 70000

theorem raw_small {x : Ln × List Dg} (h : Raw x) {b : Nat} (hb : b ≤ 70000) : Small (b : Int) (shRow b x) := by
  obtain ⟨h1, h2, h3, h4, h5, h6⟩ := h
  refine ⟨by omega, ?_, ?_, fun t ht => ?_, fun d hd => ?_, ?_, ?_⟩
  · simp only [shRow, shLn]; omega
  · simp only [shRow, shLn]; omega
  · simp only [shRow, shLn, List.mem_map] at ht
    obtain ⟨t0, ht0, rfl⟩ := ht
    have := h3 t0 ht0
    simp only [shTk]
    omega
  · simp only [shRow, List.mem_map] at hd
    obtain ⟨d0, hd0, rfl⟩ := hd
    have := h4 d0 hd0
    simp only [shDg]
    omega
  · simp only [shRow, shLn, List.length_map]; exact h5
  · simp only [shRow, List.length_map]; exact h6

theorem tcellsB_sh (F : ByteArray) (b : Nat) (T : List Tk) : tcellsB F b (T.map (shTk b)) = tcells F T := by
  unfold tcellsB tcells
  rw [List.flatMap_map]
  congr 1
  funext t
  unfold tcellB tcell shTk
  simp only
  rw [show ((b + t.f : Nat) : Int) - (b : Int) = (t.f : Int) from by omega, show ((b + t.t : Nat) : Int) - (b : Int) = (t.t : Int) from by omega]
theorem dcellsB_sh (F : ByteArray) (b : Nat) (D : List Dg) : dcellsB F b (D.map (shDg b)) = dcells F D := by
  unfold dcellsB dcells
  rw [List.flatMap_map]
  congr 1
  funext t
  unfold dcellB dcell shDg
  simp only
  rw [show ((b + t.f : Nat) : Int) - (b : Int) = (t.f : Int) from by omega, show ((b + t.t : Nat) : Int) - (b : Int) = (t.t : Int) from by omega]
theorem lineObj_sh (tv dv : Value) (b : Nat) (l : Ln) : lineObj tv dv b (shLn b l) = .cells #[tv, .int .i64 (l.f : Int), .int .i64 (l.t : Int), .bool l.o, dv] 113 (0, 0) := by
  unfold lineObj shLn
  simp only
  rw [show ((b + l.f : Nat) : Int) - (b : Int) = (l.f : Int) from by omega, show ((b + l.t : Nat) : Int) - (b : Int) = (l.t : Int) from by omega]

theorem backL_len (l : List UInt8) (a b : Nat) : (backL l a b).length ≤ l.length + 1 := by
  obtain ⟨e, he, -⟩ := chs_part (l := l) rfl
  have h1 := (charsL_count l).1
  rw [he, List.length_append] at h1
  unfold backL bk
  rw [List.length_map]
  have := List.length_filter_le (within a b) (chs l 0)
  omega
theorem tokOk_len {l : List UInt8} {z : Nat} : ∀ {a : Nat} {T : List Tk}, TokOk l z a T → T.length ≤ z - a ∧ ∀ t ∈ T, t.f ≤ z ∧ t.t ≤ z ∧ t.x.length ≤ l.length + 1
  | _, [], _ => ⟨Nat.zero_le _, fun t h => (by cases h)⟩
  | a, t :: r, h => by
    obtain ⟨h1, h2, h3, h4, h5⟩ := h
    obtain ⟨i1, i2⟩ := tokOk_len h5
    refine ⟨by rw [List.length_cons]; omega, fun u hu => ?_⟩
    rcases List.mem_cons.1 hu with rfl | hu
    · exact ⟨by omega, by omega, by rw [← h4]; exact backL_len _ _ _⟩
    · exact i2 u hu

theorem FL_few (T : List UInt8) : (FL T).diags.length ≤ T.length + 1 := by
  have hr : ∀ (m i : Nat) (a : Acc), i ≤ (charsL T).length → Lim a i → Lim (runA (charsL T) T.length m i a) (charsL T).length := by
    intro m
    induction m with
    | zero => intro i a hi h; exact h.up hi
    | succ m ih =>
      intro i a hi h
      unfold runA
      split
      · rename_i hlt
        have hin := lenA_in hlt
        exact ih _ _ hin.2 ((h.step _).up (by omega))
      · exact h.up hi
  have h := hr (charsL T).length 0 acc0 (Nat.zero_le _) ⟨Nat.le_refl _, Nat.le_refl _, Nat.le_refl _⟩
  have hc := (charsL_count T).1
  exact Nat.le_trans h.2.2 hc

theorem heap_alloc_at {w : World} {o : Obj} {b : Nat} (h : b = w.heap.size) : (w.alloc o).heap[b]? = some o := h ▸ heap_alloc_new w o

theorem own_free {B : Nat} {w : World} {e : TypeId} {size n cap : Nat} {g : Nat} {xs : List Value} (h : w.ownsRow B e size (.slice (some ⟨g, 0, none⟩) n cap) n xs) (k : Nat) : w.frozen? ⟨g, k, none⟩ = false := by
  obtain ⟨h1, ⟨e1, -⟩ | ⟨g2, cap2, cur, e1, hg, hh, hr⟩⟩ := h
  · cases e1
  · simp only [Value.slice.injEq, Option.some.injEq, Addr.mk.injEq, and_true, true_and] at e1
    rw [← e1.1] at hh
    exact frozen_of_row w g k _ _ hh

theorem rows_raw {Ps : List (List UInt8)} (hp : Pcs Ps) (hl : Ps.flatten.length ≤ 66000) {i : Nat} {x : Ln × List Dg} (h : (rows 0 Ps)[i]? = some x) : Raw x := by
  have h0 := row_at hp h
  have h9 := pre_le Ps (i + 1)
  have h8 := pre_mono (Ts := Ps) (Nat.le_succ i)
  have hx := h
  rw [rows_get, Option.map_eq_some_iff] at h
  obtain ⟨T, hT, rfl⟩ := h
  have hsu := pre_succ hT
  obtain ⟨-, -, h3⟩ := lnOf_at (hp.one T (List.mem_of_getElem? hT))
  obtain ⟨t1, t2⟩ := tokOk_len h3
  have hd := FL_diags T
  have hf := FL_few T
  refine ⟨by omega, by omega, fun t ht => ?_, fun d hd2 => ?_, ?_, ?_⟩
  · simp only [shLn, List.mem_map] at ht
    obtain ⟨t0, ht0, rfl⟩ := ht
    have := t2 t0 ht0
    simp only [shTk]
    omega
  · simp only [List.mem_map] at hd2
    obtain ⟨d0, hd0, rfl⟩ := hd2
    have := hd d0 hd0
    simp only [shDg]
    omega
  · simp only [shLn, List.length_map]
    omega
  · simp only [List.length_map]
    omega

/-- Of the diagnostics that are left those of the next line come first; others begin behind it. -/
theorem rest_split {R : List (Ln × List Dg)} {k : Nat} {x : Ln × List Dg} (h : R[k]? = some x) : (R.drop k).flatMap Prod.snd = x.2 ++ (R.drop (k + 1)).flatMap Prod.snd := by
  obtain ⟨hlt, rfl⟩ := List.getElem?_eq_some_iff.1 h
  rw [List.drop_eq_getElem_cons hlt]
  rfl
theorem rest_far {Ps : List (List UInt8)} (hp : Pcs Ps) {k : Nat} {d : Dg} (h : d ∈ ((rows 0 Ps).drop k).flatMap Prod.snd) : pre Ps k ≤ d.f := by
  rw [List.mem_flatMap] at h
  obtain ⟨x, hx, hd⟩ := h
  obtain ⟨j, hj, rfl⟩ := List.getElem_of_mem hx
  rw [List.length_drop] at hj
  rw [List.getElem_drop] at hd
  have h1 := row_at hp (List.getElem?_eq_getElem (show k + j < (rows 0 Ps).length by omega))
  have h2 := (h1.2.2 d hd).1
  have h3 := pre_mono (Ts := Ps) (Nat.le_add_right k j)
  omega

end Go.Proofs.YtpnboieppkjfnaaGreat
