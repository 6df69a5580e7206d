/-
  Texts of the proof, put together: SuA.
-/
import Derived.Test.YtobplffailbkbaaG31

/-
  The part of a parameter: the project's argument.
-/
namespace Go.Proofs.Ytobplffailbkbaa
open Go.RowKit Go.Maps

/-- A row cloned, its tokens' sites where they were. -/
theorem cloneToks_pv {P : List (Xt × Value)} {a : Option Addr} {n c : Nat} {w : World} (h : ToksPv P (.slice a n c) w) (hT : P.length ≤ 500000) :
    Calls Try.prog 73 #[.slice a n c] w (fun e w' => ∃ a' c', e = .returned (.slice a' n c') ∧ Up w 26 8 (.slice a' n c') n (xcells P) w') := by
  obtain ⟨hn, h1, h2, hz⟩ := h.len
  have hl : (xcells P).length = n * 8 := by unfold xcells; rw [flat_len (n := 8) (fun _ => rfl), hn]
  have hin : ∀ ad, a = some ad → ∀ j u, (xcells P)[j]? = some u → w.cell? (ad.add j) = some u ∧ ad.block < w.heap.size := by
    intro ad ha j u hj
    obtain ⟨p, hpk, hu⟩ := flat_split (n := 8) (by omega) (fun _ => rfl) hj
    obtain ⟨g, o, hg, hlt, hc, -⟩ := h.get hpk
    rw [ha] at hg
    obtain rfl := Option.some.inj hg
    refine ⟨?_, hlt⟩
    rw [addr_off]
    have := xcell_at hc (j % 8) u hu
    rw [Nat.add_assoc, Nat.div_add_mod'] at this
    exact this
  refine (cloneX_any (fun e => ?_) hl (fun ad ha j u hj => (hin ad ha j u hj).1) (fun ad ha h0 => ?_) (xcells_one h.sits) (by omega)).mono ?_
  · have h0 : n = 0 := by have := hz e; omega
    refine ⟨h0, List.eq_nil_of_length_eq_zero (by omega)⟩
  · obtain ⟨u, hu⟩ : ∃ u, (xcells P)[0]? = some u := ⟨_, List.getElem?_eq_getElem (by rw [hl]; omega)⟩
    exact (hin ad ha 0 u hu).2
  · rintro e w' ⟨a', cap', rfl, hu⟩
    exact ⟨a', cap', rfl, hu⟩

theorem row_ne2 {B : Nat} {e : TypeId} {size n : Nat} {v : Value} {xs : List Value} {w : World} (h : w.ownsRow B e size v n xs) {b : Nat} {o : Obj} (hb : w.heap[b]? = some o) (ho : ∀ cs, o ≠ .cells cs e (0, 0)) : ∀ g, v.ownBlock = some g → g ≠ b := by
  intro g hg e
  obtain ⟨h1, ⟨hv, -⟩ | ⟨g', cap, cur, hv, hg', hh, -⟩⟩ := h
  · rw [hv] at hg; cases hg
  · rw [hv] at hg
    simp only [Value.ownBlock, Option.some.injEq] at hg
    subst hg e
    rw [hb] at hh
    exact ho _ (Option.some.inj hh)

theorem xcells_set2 (t : Xt) (sv : Value) (b : Bool) (P : List (Xt × Value)) : (xcells ((t, sv) :: P)).set 2 (.bool b) = xcells (({ t with sp := b }, sv) :: P) := rfl

/-- The part, and its row, on their way. -/
structure ArgW (W X : World) (b : Nat) (P : List (Xt × Value)) (a : Option Addr) (n c : Nat) (k : Int) (w : World) : Prop where
  res : w.heap[X.heap.size]? = some (.cells zeroPt 83 (0, 0))
  box : w.heap[b]? = some (.cells #[.bool false, .string ⟨#[]⟩, .int .i64 0, .int .i64 0, .slice a n c, .int .i64 k] 83 (0, 0))
  row : w.ownsRow X.heap.size 26 8 (.slice a n c) n (xcells P)
  sits : ∀ p ∈ P, SitsA p.1.ss p.2 W
  low : Below X.heap.size X w
  old : Below W.heap.size W X
  far : X.heap.size < b

theorem argW_box {X w1 w2 : World} {k : Int} (h1 : Below (X.heap.size + 1) (X.alloc (.cells zeroPt 83)) w1) (h2 : Below (w1.heap.size + 1) (w1.alloc (.cells #[.bool false, .string ⟨#[]⟩, .int .i64 0, .int .i64 0, .slice none 0 0, .int .i64 k] 83)) w2) :
    w2.heap[X.heap.size]? = some (.cells zeroPt 83 (0, 0)) ∧ w2.heap[w1.heap.size]? = some (.cells #[.bool false, .string ⟨#[]⟩, .int .i64 0, .int .i64 0, .slice none 0 0, .int .i64 k] 83 (0, 0)) ∧ X.heap.size < w1.heap.size ∧ Below X.heap.size X w2 := by
  have hs1 : X.heap.size < w1.heap.size := by have := h1.size; simp at this; omega
  have e1 : w1.heap[X.heap.size]? = some (.cells zeroPt 83 (0, 0)) := (h1.block _ (by omega)).trans (heap_alloc_new X _)
  have b1 : Below X.heap.size X w1 := ((Below.refl _ _).alloc (Nat.le_refl _) _).trans (h1.mono (Nat.le_succ _))
  refine ⟨(h2.block _ (by omega)).trans ((Below.heap_alloc _ _ _ hs1).trans e1), (h2.block _ (by omega)).trans (heap_alloc_new w1 _), hs1, ?_⟩
  exact (b1.alloc b1.size _).trans (h2.mono (by omega))

theorem ArgW.new {W X w2 w3 : World} {b : Nat} {P : List (Xt × Value)} {a : Option Addr} {n c : Nat} {k : Int} (hW : Below W.heap.size W X) (hr : w2.heap[X.heap.size]? = some (.cells zeroPt 83 (0, 0))) (hb : w2.heap[b]? = some (.cells #[.bool false, .string ⟨#[]⟩, .int .i64 0, .int .i64 0, .slice none 0 0, .int .i64 k] 83 (0, 0)))
    (hl : X.heap.size < b) (hB : Below X.heap.size X w2) (hs : ∀ p ∈ P, SitsA p.1.ss p.2 W) (hu : Up w2 26 8 (.slice a n c) n (xcells P) w3) : ArgW W X b P a n c k (w3.setCell ⟨b, 4, none⟩ (.slice a n c)) ∧ w3.cell? ⟨b, 4, none⟩ = some (.slice none 0 0) ∧ w3.frozen? ⟨b, 4, none⟩ = false := by
  have hbl := row_lt hb
  have hb3 := (hu.2.block b hbl).trans hb
  have hne : ∀ g, (Value.slice a n c).ownBlock = some g → g ≠ b := fun g hg e => by
    have := (World.ownsRow.lt hu.1 g hg).1
    omega
  refine ⟨⟨?_, (heap_setCell_same _ _ 4 _ _ _ hb3).trans rfl, ?_, hs, (below_up hB hu.2).setCell (p := ⟨b, 4, none⟩) (Nat.le_of_lt hl) _, hW, hl⟩, ?_, Lib.frozen_of_heap hb3 _⟩
  · exact (heap_setCell_other _ _ _ _ (Nat.ne_of_lt hl)).trans ((hu.2.block _ (row_lt hr)).trans hr)
  · exact own_same (row_low hu.1 hB.size) fun g hg => heap_setCell_other _ _ _ _ (hne g hg)
  · rw [Lib.cell_of_heap hb3]; rfl

theorem ArgW.read {W X w : World} {b : Nat} {P : List (Xt × Value)} {a : Option Addr} {n c : Nat} {k : Int} (h : ArgW W X b P a n c k w) : (w.cell? ⟨b, 0, none⟩ = some (.bool false) ∧ w.cell? ⟨b, 1, none⟩ = some (.string ⟨#[]⟩) ∧ w.cell? ⟨b, 2, none⟩ = some (.int .i64 0) ∧ w.cell? ⟨b, 3, none⟩ = some (.int .i64 0) ∧ w.cell? ⟨b, 4, none⟩ = some (.slice a n c) ∧ w.cell? ⟨b, 5, none⟩ = some (.int .i64 k)) ∧
    w.cell? ⟨X.heap.size, 0, none⟩ = some (.bool false) ∧ w.cell? ⟨X.heap.size, 1, none⟩ = some (.string ⟨#[]⟩) ∧ w.cell? ⟨X.heap.size, 2, none⟩ = some (.int .i64 0) ∧ w.cell? ⟨X.heap.size, 3, none⟩ = some (.int .i64 0) ∧ w.cell? ⟨X.heap.size, 4, none⟩ = some (.slice none 0 0) ∧ w.cell? ⟨X.heap.size, 5, none⟩ = some (.int .i64 0) ∧ ∀ j, w.frozen? ⟨X.heap.size, j, none⟩ = false := by
  refine ⟨⟨?_, ?_, ?_, ?_, ?_, ?_⟩, ?_, ?_, ?_, ?_, ?_, ?_, fun j => Lib.frozen_of_heap h.res _⟩
  all_goals first | (rw [Lib.cell_of_heap h.box]; rfl) | (rw [Lib.cell_of_heap h.res]; rfl)

theorem ArgW.len {W X w : World} {b : Nat} {P : List (Xt × Value)} {a : Option Addr} {n c : Nat} {k : Int} (h : ArgW W X b P a n c k w) : n = P.length := by
  have := h.row.1
  unfold xcells at this
  rw [flat_len (n := 8) (fun _ => rfl)] at this
  omega

theorem ArgW.fits {W X w : World} {b : Nat} {P : List (Xt × Value)} {a : Option Addr} {n c : Nat} {k : Int} (h : ArgW W X b P a n c k w) : True ∧ n ≤ c ∧ c ≤ 9223372036854775807 := by
  obtain ⟨a', cap, hv, h1, h2, h3⟩ := row_form h.row
  simp only [Value.slice.injEq, true_and] at hv
  obtain ⟨rfl, rfl⟩ := hv
  unfold maxLen at h2
  exact ⟨trivial, h1, by omega⟩

theorem ArgW.held {W X w : World} {b : Nat} {P : List (Xt × Value)} {a : Option Addr} {n c : Nat} {k : Int} (h : ArgW W X b P a n c k w) : HeldIn (OldNew W X) w (ToksX (P.map Prod.fst) (.slice a n c)) :=
  row_held h.row (fun p hp => ((HeldIn.old (R := SitsA p.1.ss p.2) (fun _ s => (h.sits p hp).same s) (below_up h.old h.low)).mono fun _ hg _ => .inl hg)) fun g hg => .inr (World.ownsRow.lt h.row g hg).1
/-- The first one's space. -/

theorem ArgW.put {W X w : World} {b : Nat} {t : Xt} {sv : Value} {P : List (Xt × Value)} {a : Option Addr} {n c : Nat} {k : Int} (h : ArgW W X b ((t, sv) :: P) a n c k w) (d : Bool) : ∃ g, a = some ⟨g, 0, none⟩ ∧ w.cell? ⟨g, 2, none⟩ = some (.bool t.sp) ∧ w.frozen? ⟨g, 2, none⟩ = false ∧ ArgW W X b (({ t with sp := d }, sv) :: P) a n c k (w.setCell ⟨g, 2, none⟩ (.bool d)) := by
  obtain ⟨a', cap, hv, h1, h2, h3⟩ := row_form h.row
  simp only [Value.slice.injEq, true_and] at hv
  obtain ⟨rfl, rfl⟩ := hv
  obtain ⟨g, rfl, hlt, hc⟩ := h3 2 (.bool t.sp) rfl
  have hgb : g ≠ b := by
    rintro rfl
    refine row_ne2 h.row h.box (fun cs e => ?_) _ rfl rfl
    simp only [Obj.cells.injEq] at e
    exact absurd e.2.1 (by decide)
  have hgx : g ≠ X.heap.size := by
    rintro rfl
    refine row_ne2 h.row h.res (fun cs e => ?_) _ rfl rfl
    simp only [Obj.cells.injEq] at e
    exact absurd e.2.1 (by decide)
  have hs := own_setX h.row 2 (.bool d)
  rw [xcells_set2] at hs
  refine ⟨g, rfl, hc, own_freeX h.row 2, ?_, ?_, hs, ?_, h.low.setCell (World.ownsRow.lt h.row g rfl).1 _, h.old, h.far⟩
  · exact (heap_setCell_other _ _ _ _ (fun e => hgx e.symm)).trans h.res
  · exact (heap_setCell_other _ _ _ _ (fun e => hgb e.symm)).trans h.box
  · intro p hp
    rcases List.mem_cons.1 hp with rfl | hp
    · exact h.sits (t, sv) List.mem_cons_self
    · exact h.sits p (List.mem_cons_of_mem _ hp)

theorem ArgW.drew {W X w : World} {b : Nat} {P : List (Xt × Value)} {a : Option Addr} {n c : Nat} {k : Int} (h : ArgW W X b P a n c k w) : ArgW W X b P a n c k w.drew :=
  ⟨h.res, h.box, own_same h.row fun _ _ => rfl, h.sits, h.low.drew, h.old, h.far⟩

theorem ArgW.done {W X w : World} {b : Nat} {P : List (Xt × Value)} {a : Option Addr} {n c : Nat} {k : Int} {T : List Xt} (h : ArgW W X b P a n c k w) (hT : P.map Prod.fst = T) :
    ∃ Z, (((((w.setCell ⟨X.heap.size, 0, none⟩ (.bool false)).setCell ⟨X.heap.size, 1, none⟩ (.string ⟨#[]⟩)).setCell ⟨X.heap.size, 2, none⟩ (.int .i64 0)).setCell ⟨X.heap.size, 3, none⟩ (.int .i64 0)).setCell ⟨X.heap.size, 4, none⟩ (.slice a n c)).setCell ⟨X.heap.size, 5, none⟩ (.int .i64 k) = Z ∧ (Z.cell? ⟨X.heap.size, 0, none⟩ = some (.bool false) ∧ Z.cell? ⟨X.heap.size, 1, none⟩ = some (.string ⟨#[]⟩) ∧ Z.cell? ⟨X.heap.size, 2, none⟩ = some (.int .i64 0) ∧ Z.cell? ⟨X.heap.size, 3, none⟩ = some (.int .i64 0) ∧ Z.cell? ⟨X.heap.size, 4, none⟩ = some (.slice a n c) ∧ Z.cell? ⟨X.heap.size, 5, none⟩ = some (.int .i64 k)) ∧ PtPost W X ⟨false, ⟨#[]⟩, 0, 0, T, k⟩ (.returned (.agg #[.bool false, .string ⟨#[]⟩, .int .i64 0, .int .i64 0, .slice a n c, .int .i64 k])) Z := by
  subst hT
  have hne : ∀ g, (Value.slice a n c).ownBlock = some g → g ≠ X.heap.size := fun g hg => row_ne2 h.row h.res (fun cs e => by
    simp only [Obj.cells.injEq] at e
    exact absurd e.2.1 (by decide)) g hg
  have hz : a = none → c = 0 := own_nil h.row
  have hn := h.len
  have hs0 : StillB (OldNew W X) w w := StillB.refl _ _
  have hrow : (sto6 w X.heap.size (.bool false) (.string ⟨#[]⟩) (.int .i64 0) (.int .i64 0) (.slice a n c) (.int .i64 k)).ownsRow X.heap.size 26 8 (.slice a n c) n (xcells P) := own_same h.row fun g hg => sto6_far (hne g hg)
  have hlow := sto6_below (v0 := .bool false) (v1 := .string ⟨#[]⟩) (v2 := .int .i64 0) (v3 := .int .i64 0) (v4 := .slice a n c) (v5 := .int .i64 k) h.low (Nat.le_refl _)
  refine ⟨sto6 w X.heap.size (.bool false) (.string ⟨#[]⟩) (.int .i64 0) (.int .i64 0) (.slice a n c) (.int .i64 k), rfl, sto6_cells h.res, a, n, c, rfl, hz, by rw [hn, List.length_map], ?_, hlow⟩
  exact row_held hrow (fun p hp => ((HeldIn.old (R := SitsA p.1.ss p.2) (fun _ s => (h.sits p hp).same s) (below_up h.old hlow)).mono fun _ hg _ => .inl hg)) fun g hg => .inr (World.ownsRow.lt hrow g hg).1


set_option maxRecDepth 100000 in
set_option maxHeartbeats 6400000 in
theorem arg_part {m : Xm} {A B : List (List Xt)} {S : List Xs} {bv : Value} {mo : Option Nat} {rv fv sv : Value} {g : Nat} {W X : World} (h : SB m A B S bv mo rv fv sv g W) (hX : Below W.heap.size W X) (hz : Szd m) (hA : AOk A) (hB : AOk B) {i : Nat} {t : Xt} (ht : m.bd[i]? = some t) (hk : 0 ≤ parI m i) :
    Calls Try.prog 51 #[.pointer (some ⟨g, 0, none⟩), .int .i64 (i : Int)] X (PtPost W X (argP (if rawI m i then A else B) t (parI m i))) := by
  have hXs := h.over hX
  have hWX := hX
  obtain ⟨k0, -, k2, k3, -⟩ := hXs.cells
  have hlt : g < X.heap.size := hXs.lt
  obtain ⟨a, n, cap, rfl⟩ := hXs.toks.form
  obtain ⟨ra, rn, rc, rfl⟩ := hXs.raw.form
  obtain ⟨fa, fn, fc, rfl⟩ := hXs.full.form
  obtain ⟨hn, hc1, hc2⟩ := hXs.toks.len
  have hi := (List.getElem?_eq_some_iff.1 ht).1
  have hi2 := hz.1
  obtain ⟨b, o, sa, sn, sc, rfl, hg, -, ⟨-, -, c2, -⟩, -⟩ := hXs.toks.get ht
  obtain ⟨k, hkk⟩ : ∃ k : Nat, parI m i = (k : Int) := ⟨_, (Int.toNat_of_nonneg hk).symm⟩
  have HPA : Hid (∀ Y : World, Below X.heap.size X Y → Calls Try.prog 36 #[.pointer (some ⟨g, 0, none⟩), .int .i64 (i : Int)] Y (IntNew (k : Int) Y)) := Lib.hid (fun Y hY => hkk ▸ param_any (hXs.over hY) hz i)
  have HRW : Hid (∀ Y : World, Below X.heap.size X Y → Calls Try.prog 37 #[.pointer (some ⟨g, 0, none⟩), .int .i64 (i : Int)] Y (BoolNew (rawI m i) Y)) := Lib.hid (fun Y hY => sraw_any (hXs.over hY) hz hi)
  rw [hkk]
  have K0 := Lib.hid k0
  have K2 := Lib.hid k2
  have K3 := Lib.hid k3
  have C2 := Lib.hid c2
  have HG := Lib.hid hg
  have HL := Lib.hid hlt
  have HWX := Lib.hid hWX
  have hI : (i : Int) < (n : Int) := by omega
  have hI0 : (0 : Int) ≤ (i : Int) := by omega
  have hI1 : (i : Int) ≤ 100000 := by omega
  cases hraw : rawI m i with
  | true =>
    rw [hraw] at HRW
    rw [if_pos rfl]
    obtain ⟨fb, fm, fcp, hfx, hfz, hof⟩ := h.raw.of k
    obtain ⟨P, hPm, hPv⟩ := hfx.pv hfz
    have hPl : P.length ≤ 100000 := by rw [← List.length_map (f := Prod.fst), hPm]; exact (hA.of (k : Int)).1
    have hfm : fm = P.length := hPv.len.1
    have HOF : Hid (∀ Y : World, Below X.heap.size X Y → Calls Try.prog 72 #[.slice ra rn rc, .int .i64 (k : Int)] Y (fun e w' => e = .returned (.slice fb fm fcp) ∧ Y = w')) := Lib.hid (fun Y hY => hof Y (below_up hX hY))
    have HCL : Hid (∀ Y : World, Below X.heap.size X Y → Calls Try.prog 73 #[.slice fb fm fcp] Y (fun e w' => ∃ a' c', e = .returned (.slice a' fm c') ∧ Up Y 26 8 (.slice a' fm c') fm (xcells P) w')) := Lib.hid (fun Y hY => cloneToks_pv (hPv.over (below_up hX hY)) (by omega))
    have HSS := Lib.hid hPv.sits
    have HPM := Lib.hid hPm
    have HFM := Lib.hid hfm
    have HX0 : Hid (Below X.heap.size X (X.alloc (.cells zeroPt 83))) := Lib.hid ((Below.refl _ _).alloc (Nat.le_refl _) _)
    clear h hXs hX hz hA hB ht hk hn hi hi2 hkk hof hfx hfz hPm hPv hPl hfm hraw k0 k2 k3 c2 hg hlt hWX
    go_enter Try.func51, Try.ntmps51
    go_wp2_with (first
      | (go_at_call 36; (with_reducible refine (HPA.out _ HX0.out).mono ?_); rintro e w1 ⟨rfl, hb1⟩; have HC1 := Lib.hid hb1; have HB1 := Lib.hid (below_up HX0.out hb1); have HB1a := Lib.hid (HB1.out.alloc HB1.out.size (.cells #[.bool false, .string ⟨#[]⟩, .int .i64 0, .int .i64 0, .slice none 0 0, .int .i64 (k : Int)] 83)); clear hb1)
      | (go_at_call 37; (with_reducible refine (HRW.out _ HB1a.out).mono ?_); rintro e w2 ⟨rfl, hb2⟩; (obtain ⟨hr2, hx2, hl2, hB2⟩ := argW_box (by have := HC1.out; simpa using this) (by simpa using hb2)); have HR2 := Lib.hid hr2; have HXX2 := Lib.hid hx2; have HL2 := Lib.hid hl2; have HB2 := Lib.hid hB2; have y2 : w2.cell? ⟨g, 2, none⟩ = some (.slice ra rn rc) := bcell hB2 K2.out HL.out; have y5 : w2.cell? ⟨w1.heap.size, 5, none⟩ = some (.int .i64 (k : Int)) := (by rw [Lib.cell_of_heap hx2]; rfl); clear hb2 hr2 hx2 hl2 hB2))
    go_region_with (first
      | (go_at_call 72; (with_reducible refine (HOF.out _ HB2.out.drew).mono ?_); rintro e w4 ⟨rfl, rfl⟩)
      | (go_at_call 73; (with_reducible refine (HCL.out _ HB2.out.drew).mono ?_); rintro e w3 ⟨a3, c3, rfl, hu3⟩; (obtain ⟨hW3, z4, q4⟩ := ArgW.new (W := W) (k := (k : Int)) HWX.out (X := X) (w2 := w2.drew) HR2.out HXX2.out HL2.out HB2.out.drew HSS.out hu3); have HW3 := Lib.hid hW3; clear hu3 hW3))
    all_goals
      obtain ⟨w5, hw5⟩ : ∃ w5, w3.setCell ⟨w1.heap.size, 4, none⟩ (.slice a3 fm c3) = w5 := ⟨_, rfl⟩
      rw [hw5] at HW3 ⊢
      clear hw5 z4 q4 y2 y5
      have u0 := bcell HW3.out.low K0.out HL.out
      have u2 := bcell HW3.out.low C2.out HG.out
      cases P with
      | nil =>
        obtain rfl : fm = 0 := HFM.out
        obtain ⟨⟨p0, p1, p2, p3, p4, p5⟩, r0, r1, r2, r3, r4, r5, rf⟩ := HW3.out.read
        go_wp2
        obtain ⟨Z, hZ, ⟨y0, y1, y2, y3, y4, y5⟩, hP⟩ := HW3.out.done (T := spcL t.sp (ofL A (k : Int))) (by rw [← HPM.out]; rfl)
        rw [hZ]
        exact bodyPost_ret (v := .agg #[.bool false, .string ⟨#[]⟩, .int .i64 0, .int .i64 0, .slice a3 0 c3, .int .i64 (k : Int)]) (by simp [results, Try.results51, go_sem, y0, y1, y2, y3, y4, y5]) rfl hP
      | cons p r =>
        obtain ⟨t0, sv0⟩ := p
        have hfm0 : (0 : Int) < (fm : Int) := by have := HFM.out; simp only [List.length_cons] at this; omega
        obtain ⟨g6, rfl, c6, f6, hW6⟩ := HW3.out.put t.sp
        have HW6 := Lib.hid hW6.drew
        obtain ⟨-, -, hcap⟩ := HW3.out.fits
        clear hW6
        obtain ⟨⟨p0, p1, p2, p3, p4, p5⟩, -⟩ := HW3.out.read
        go_wp2
        go_region
        obtain ⟨w6, hw6⟩ : ∃ w6, (w5.setCell ⟨g6, 2, none⟩ (.bool t.sp)).drew = w6 := ⟨_, rfl⟩
        rw [hw6] at HW6 ⊢
        clear hw6 c6 f6 p0 p1 p2 p3 p4 p5
        obtain ⟨⟨p0, p1, p2, p3, p4, p5⟩, r0, r1, r2, r3, r4, r5, rf⟩ := HW6.out.read
        go_wp2
        obtain ⟨Z, hZ, ⟨y0, y1, y2, y3, y4, y5⟩, hP⟩ := HW6.out.done (T := spcL t.sp (ofL A (k : Int))) (by rw [← HPM.out]; rfl)
        rw [hZ]
        exact bodyPost_ret (v := .agg #[.bool false, .string ⟨#[]⟩, .int .i64 0, .int .i64 0, .slice (some ⟨g6, 0, none⟩) fm c3, .int .i64 (k : Int)]) (by simp [results, Try.results51, go_sem, y0, y1, y2, y3, y4, y5]) rfl hP
  | false =>
    rw [hraw] at HRW
    rw [if_neg (by simp)]
    obtain ⟨fb, fm, fcp, hfx, hfz, hof⟩ := h.full.of k
    obtain ⟨P, hPm, hPv⟩ := hfx.pv hfz
    have hPl : P.length ≤ 100000 := by rw [← List.length_map (f := Prod.fst), hPm]; exact (hB.of (k : Int)).1
    have hfm : fm = P.length := hPv.len.1
    have HOF : Hid (∀ Y : World, Below X.heap.size X Y → Calls Try.prog 72 #[.slice fa fn fc, .int .i64 (k : Int)] Y (fun e w' => e = .returned (.slice fb fm fcp) ∧ Y = w')) := Lib.hid (fun Y hY => hof Y (below_up hX hY))
    have HCL : Hid (∀ Y : World, Below X.heap.size X Y → Calls Try.prog 73 #[.slice fb fm fcp] Y (fun e w' => ∃ a' c', e = .returned (.slice a' fm c') ∧ Up Y 26 8 (.slice a' fm c') fm (xcells P) w')) := Lib.hid (fun Y hY => cloneToks_pv (hPv.over (below_up hX hY)) (by omega))
    have HSS := Lib.hid hPv.sits
    have HPM := Lib.hid hPm
    have HFM := Lib.hid hfm
    have HX0 : Hid (Below X.heap.size X (X.alloc (.cells zeroPt 83))) := Lib.hid ((Below.refl _ _).alloc (Nat.le_refl _) _)
    clear h hXs hX hz hA hB ht hk hn hi hi2 hkk hof hfx hfz hPm hPv hPl hfm hraw k0 k2 k3 c2 hg hlt hWX
    go_enter Try.func51, Try.ntmps51
    go_wp2_with (first
      | (go_at_call 36; (with_reducible refine (HPA.out _ HX0.out).mono ?_); rintro e w1 ⟨rfl, hb1⟩; have HC1 := Lib.hid hb1; have HB1 := Lib.hid (below_up HX0.out hb1); have HB1a := Lib.hid (HB1.out.alloc HB1.out.size (.cells #[.bool false, .string ⟨#[]⟩, .int .i64 0, .int .i64 0, .slice none 0 0, .int .i64 (k : Int)] 83)); clear hb1)
      | (go_at_call 37; (with_reducible refine (HRW.out _ HB1a.out).mono ?_); rintro e w2 ⟨rfl, hb2⟩; (obtain ⟨hr2, hx2, hl2, hB2⟩ := argW_box (by have := HC1.out; simpa using this) (by simpa using hb2)); have HR2 := Lib.hid hr2; have HXX2 := Lib.hid hx2; have HL2 := Lib.hid hl2; have HB2 := Lib.hid hB2; have y2 : w2.cell? ⟨g, 3, none⟩ = some (.slice fa fn fc) := bcell hB2 K3.out HL.out; have y5 : w2.cell? ⟨w1.heap.size, 5, none⟩ = some (.int .i64 (k : Int)) := (by rw [Lib.cell_of_heap hx2]; rfl); clear hb2 hr2 hx2 hl2 hB2))
    go_region_with (first
      | (go_at_call 72; (with_reducible refine (HOF.out _ HB2.out.drew).mono ?_); rintro e w4 ⟨rfl, rfl⟩)
      | (go_at_call 73; (with_reducible refine (HCL.out _ HB2.out.drew).mono ?_); rintro e w3 ⟨a3, c3, rfl, hu3⟩; (obtain ⟨hW3, z4, q4⟩ := ArgW.new (W := W) (k := (k : Int)) HWX.out (X := X) (w2 := w2.drew) HR2.out HXX2.out HL2.out HB2.out.drew HSS.out hu3); have HW3 := Lib.hid hW3; clear hu3 hW3))
    all_goals
      obtain ⟨w5, hw5⟩ : ∃ w5, w3.setCell ⟨w1.heap.size, 4, none⟩ (.slice a3 fm c3) = w5 := ⟨_, rfl⟩
      rw [hw5] at HW3 ⊢
      clear hw5 z4 q4 y2 y5
      have u0 := bcell HW3.out.low K0.out HL.out
      have u2 := bcell HW3.out.low C2.out HG.out
      cases P with
      | nil =>
        obtain rfl : fm = 0 := HFM.out
        obtain ⟨⟨p0, p1, p2, p3, p4, p5⟩, r0, r1, r2, r3, r4, r5, rf⟩ := HW3.out.read
        go_wp2
        obtain ⟨Z, hZ, ⟨y0, y1, y2, y3, y4, y5⟩, hP⟩ := HW3.out.done (T := spcL t.sp (ofL B (k : Int))) (by rw [← HPM.out]; rfl)
        rw [hZ]
        exact bodyPost_ret (v := .agg #[.bool false, .string ⟨#[]⟩, .int .i64 0, .int .i64 0, .slice a3 0 c3, .int .i64 (k : Int)]) (by simp [results, Try.results51, go_sem, y0, y1, y2, y3, y4, y5]) rfl hP
      | cons p r =>
        obtain ⟨t0, sv0⟩ := p
        have hfm0 : (0 : Int) < (fm : Int) := by have := HFM.out; simp only [List.length_cons] at this; omega
        obtain ⟨g6, rfl, c6, f6, hW6⟩ := HW3.out.put t.sp
        have HW6 := Lib.hid hW6.drew
        obtain ⟨-, -, hcap⟩ := HW3.out.fits
        clear hW6
        obtain ⟨⟨p0, p1, p2, p3, p4, p5⟩, -⟩ := HW3.out.read
        go_wp2
        go_region
        obtain ⟨w6, hw6⟩ : ∃ w6, (w5.setCell ⟨g6, 2, none⟩ (.bool t.sp)).drew = w6 := ⟨_, rfl⟩
        rw [hw6] at HW6 ⊢
        clear hw6 c6 f6 p0 p1 p2 p3 p4 p5
        obtain ⟨⟨p0, p1, p2, p3, p4, p5⟩, r0, r1, r2, r3, r4, r5, rf⟩ := HW6.out.read
        go_wp2
        obtain ⟨Z, hZ, ⟨y0, y1, y2, y3, y4, y5⟩, hP⟩ := HW6.out.done (T := spcL t.sp (ofL B (k : Int))) (by rw [← HPM.out]; rfl)
        rw [hZ]
        exact bodyPost_ret (v := .agg #[.bool false, .string ⟨#[]⟩, .int .i64 0, .int .i64 0, .slice (some ⟨g6, 0, none⟩) fm c3, .int .i64 (k : Int)]) (by simp [results, Try.results51, go_sem, y0, y1, y2, y3, y4, y5]) rfl hP

end Go.Proofs.Ytobplffailbkbaa
