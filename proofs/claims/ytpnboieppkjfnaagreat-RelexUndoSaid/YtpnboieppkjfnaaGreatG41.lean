/-
  Texts of the proof, put together: ReJ, ReOnce, ReK.
-/
import Derived.Test.YtpnboieppkjfnaaGreatG40
import Derived.Test.YtpnboieppkjfnaaGreatG08
import Derived.Test.YtpnboieppkjfnaaGreatG33
import Derived.Test.YtpnboieppkjfnaaGreatG39

/-
  placed, walked: a kept line where it is now.
-/
namespace Go.Proofs.YtpnboieppkjfnaaGreat
open Go.RowKit

def mixT (F : ByteArray) (b : Int) (T : List Tk) (i : Nat) : List Value := tcells F (T.take i) ++ tcellsB Efile b (T.drop i)
theorem tcells_len (F : ByteArray) (T : List Tk) : (tcells F T).length = T.length * 8 := by
  induction T with
  | nil => rfl
  | cons k r ih =>
    have e : tcells F (k :: r) = tcell F k ++ tcells F r := rfl
    rw [e, List.length_append, ih, List.length_cons]
    simp [tcell]
    omega
theorem mixT_get {F : ByteArray} {b : Int} {T : List Tk} {i : Nat} {t : Tk} (h : T[i]? = some t) {j : Nat} (hj : j < 8) : (mixT F b T i)[i * 8 + j]? = (tcellB Efile b t)[j]? := by
  obtain ⟨hlt, rfl⟩ := List.getElem?_eq_some_iff.1 h
  unfold mixT
  have hl : (tcells F (T.take i)).length = i * 8 := by rw [tcells_len, List.length_take, Nat.min_eq_left (by omega)]
  rw [List.getElem?_append_right (by omega), hl, show i * 8 + j - i * 8 = j from by omega, List.drop_eq_getElem_cons hlt]
  have e : tcellsB Efile b (T[i] :: T.drop (i + 1)) = tcellB Efile b T[i] ++ tcellsB Efile b (T.drop (i + 1)) := rfl
  rw [e, List.getElem?_append_left (by simp [tcellB]; omega)]
theorem mixT_set {F : ByteArray} {b : Int} {T : List Tk} {i : Nat} {t : Tk} (h : T[i]? = some t) : (((mixT F b T i).set (i * 8 + 3) (.string F)).set (i * 8 + 4) (.int .i64 (t.f : Int))).set (i * 8 + 5) (.int .i64 (t.t : Int)) = mixT F b T (i + 1) := by
  obtain ⟨hlt, rfl⟩ := List.getElem?_eq_some_iff.1 h
  unfold mixT
  have hl : (tcells F (T.take i)).length = i * 8 := by rw [tcells_len, List.length_take, Nat.min_eq_left (by omega)]
  rw [List.drop_eq_getElem_cons hlt]
  have e : tcellsB Efile b (T[i] :: T.drop (i + 1)) = tcellB Efile b T[i] ++ tcellsB Efile b (T.drop (i + 1)) := rfl
  have e2 : tcells F (T.take (i + 1)) = tcells F (T.take i) ++ tcell F T[i] := by
    rw [List.take_add_one, h]
    exact tcells_snoc _ _ _
  rw [e, e2, List.set_append_right _ _ (by omega), List.set_append_right _ _ (by omega), List.set_append_right _ _ (by omega), hl, show i * 8 + 3 - i * 8 = 3 from by omega, show i * 8 + 4 - i * 8 = 4 from by omega, show i * 8 + 5 - i * 8 = 5 from by omega, List.append_assoc]
  rfl
theorem tcellsB_one {F : ByteArray} {b : Int} {T : List Tk} : ∀ u ∈ tcellsB F b T, u.oneCell' = true := by
  intro u hu
  unfold tcellsB at hu
  rw [List.mem_flatMap] at hu
  obtain ⟨d, -, hd⟩ := hu
  simp only [tcellB, List.mem_cons, List.not_mem_nil, or_false] at hd
  rcases hd with rfl | rfl | rfl | rfl | rfl | rfl | rfl | rfl <;> rfl

theorem heap_set4 {X : World} {g : Nat} {a0 a1 a2 a3 : Value} {T : TypeId} (h : X.heap[g]? = some (.cells #[a0, a1, a2, a3] T (0, 0))) (v0 v1 v2 v3 : Value) : ((((X.setCell ⟨g, 0, none⟩ v0).setCell ⟨g, 1, none⟩ v1).setCell ⟨g, 2, none⟩ v2).setCell ⟨g, 3, none⟩ v3).heap[g]? = some (.cells #[v0, v1, v2, v3] T (0, 0)) := by
  have h1 := heap_setCell_same X g 0 _ _ v0 h
  have h2 := heap_setCell_same _ g 1 _ _ v1 h1
  have h3 := heap_setCell_same _ g 2 _ _ v2 h2
  exact heap_setCell_same _ g 3 _ _ v3 h3

def PlPost (w : World) (F : ByteArray) (l : Ln) (e : Ending) (w' : World) : Prop :=
  ∃ (ta : Option Addr) (n tc : Nat), e = .returned (.agg #[.slice ta n tc, .int .i64 (l.f : Int), .int .i64 (l.t : Int), .bool l.o]) ∧ n = l.toks.length ∧ Up w 110 8 (.slice ta n tc) n (tcells F l.toks) w'

set_option maxRecDepth 100000 in
set_option maxHeartbeats 6400000 in
theorem placed_any {w : World} {p : Nat} {b : Int} {x : Ln × List Dg} (h : LineAt w p b x) (hs : Small b x) (F : ByteArray) :
    Calls Tryz.prog 29 #[.agg #[.pointer (some ⟨p, 0, none⟩), .int .i64 b], .string F] w (PlPost w F x.1) := by
  have HLA := Lib.hid h
  have HSM := Lib.hid hs
  obtain ⟨tv, dv, h1, h2, -⟩ := h
  obtain ⟨ta, tc, rfl, t1, t2, t3⟩ := row_form h2
  have hpl : p < w.heap.size := row_lt h1
  have cp0 : w.cell? ⟨p, 0, none⟩ = some (.slice ta x.1.toks.length tc) := by rw [Lib.cell_of_heap h1]; rfl
  have cp3 : w.cell? ⟨p, 3, none⟩ = some (.bool x.1.o) := by rw [Lib.cell_of_heap h1]; rfl
  obtain ⟨⟨hb1, hb2⟩, -, -, hst, -, hsl, -⟩ := hs
  obtain ⟨s1, b1⟩ := srcK_take h2 (Nat.le_refl _)
  rw [List.take_of_length_le (by rw [h2.1]; exact Nat.le_refl _)] at s1
  have HCL : Hid (∀ X : World, Below w.heap.size w X → Calls Tryz.prog 46 #[.slice ta x.1.toks.length tc] X (NewRow X 110 8 x.1.toks.length (tcellsB Efile b x.1.toks))) := Lib.hid (fun X hX => cloneT_any (s1.below (fun a m c e => b1 a (by simp only [Value.slice.injEq] at e; exact e.1)) hX) (fun a m c e => Nat.lt_of_lt_of_le (b1 a (by simp only [Value.slice.injEq] at e; exact e.1)) hX.size) tcellsB_one (by omega))
  have HST := Lib.hid hst
  have HC3 := Lib.hid cp3
  obtain ⟨W2, hW2⟩ : ∃ W2, (w.alloc (.cells #[.pointer (some ⟨p, 0, none⟩), .int .i64 b] 84)).alloc (.cells #[.slice none 0 0, .int .i64 0, .int .i64 0, .bool false] 87) = W2 := ⟨_, rfl⟩
  have HB2 : Hid (Below w.heap.size w W2) := Lib.hid (by rw [← hW2]; exact ((Below.refl _ _).alloc (Nat.le_refl _) _).alloc (by simp) _)
  have HZ2 : Hid (W2.heap.size = w.heap.size + 2) := Lib.hid (by rw [← hW2]; simp)
  have HK2 : Hid (W2.heap[w.heap.size]? = some (.cells #[.pointer (some ⟨p, 0, none⟩), .int .i64 b] 84 (0, 0))) := Lib.hid (by
    rw [← hW2]
    exact (((Below.refl (w.alloc (.cells #[.pointer (some ⟨p, 0, none⟩), .int .i64 b] 84)).heap.size (w.alloc (.cells #[.pointer (some ⟨p, 0, none⟩), .int .i64 b] 84))).alloc (Nat.le_refl _) _).block _ (by simp)).trans (heap_alloc_new w _))
  have HR2 : Hid (W2.heap[w.heap.size + 1]? = some (.cells #[.slice none 0 0, .int .i64 0, .int .i64 0, .bool false] 87 (0, 0))) := Lib.hid (by
    rw [← hW2]
    exact heap_alloc_at (by simp))
  have HCP : Hid (w.cell? ⟨p, 0, none⟩ = some (.slice ta x.1.toks.length tc)) := Lib.hid cp0
  have HPL : Hid (p < w.heap.size) := Lib.hid hpl
  have d0 : W2.cell? ⟨w.heap.size, 0, none⟩ = some (.pointer (some ⟨p, 0, none⟩)) := by rw [Lib.cell_of_heap HK2.out]; rfl
  have e0 : W2.cell? ⟨p, 0, none⟩ = some (.slice ta x.1.toks.length tc) := bcell HB2.out cp0 hpl
  clear h1 h2 s1 b1 t3 hst cp3
  go_enter Tryz.func29, Tryz.ntmps29
  go_wp2_with (go_at_call 46; (with_reducible refine (HCL.out _ HB2.out).mono ?_); rintro e w3 ⟨a3, c3, rfl, hu3⟩; have HU3 := Lib.hid hu3; clear hu3)
  clear d0 e0 hW2
  obtain ⟨kb, hkb⟩ : ∃ kb, w.heap.size = kb := ⟨_, rfl⟩
  have HKB := Lib.hid hkb
  rw [hkb] at HK2 HR2 HZ2 ⊢
  clear hkb cp0 hpl
  obtain ⟨n, hn⟩ : ∃ n, x.1.toks.length = n := ⟨_, rfl⟩
  have HN := Lib.hid hn
  rw [hn] at HU3 hsl ⊢
  have HM0 : Hid (Up W2 110 8 (.slice a3 n c3) n (mixT F b x.1.toks 0) w3) := Lib.hid (by
    have h := HU3.out
    unfold mixT
    rw [List.take_zero, List.drop_zero]
    exact h)
  clear hn t1 t2 HCL HU3 HCP
  go_loopw [17] (fun s wr => ∃ i : Nat, s = .int .i64 (i : Int) ∧ i ≤ n ∧ Up W2 110 8 (.slice a3 n c3) n (mixT F b x.1.toks i) wr) (fun s _ => n - (intOf s).toNat)
  case atStart => exact ⟨0, rfl, Nat.zero_le _, HM0.out⟩
  case round =>
    obtain ⟨i, rfl, hi, hU⟩ := hrel
    have HU := Lib.hid hU
    have hkz : kb < W2.heap.size := by have := HZ2.out; omega
    by_cases hlt : i < n
    · obtain ⟨t, ht⟩ : ∃ t, x.1.toks[i]? = some t := ⟨_, List.getElem?_eq_getElem (by have := HN.out; omega)⟩
      obtain ⟨a4, c4, hv, -, -, hcell⟩ := row_form hU.1
      simp only [Value.slice.injEq, true_and] at hv
      obtain ⟨rfl, rfl⟩ := hv
      obtain ⟨rg, rfl, hrg, k0⟩ := hcell (i * 8 + 0) _ ((mixT_get ht (j := 0) (by omega)).trans rfl)
      have hk : ∀ j u, j < 8 → (tcellB Efile b t)[j]? = some u → wr.cell? ⟨rg, i * 8 + j, none⟩ = some u := by
        intro j u hj hu
        obtain ⟨g', hg', -, e⟩ := hcell (i * 8 + j) u ((mixT_get ht hj).trans hu)
        simp only [Option.some.injEq, Addr.mk.injEq, and_true] at hg'
        rw [hg']
        exact e
      obtain ⟨f0, hf0⟩ : ∃ f0, (t.f : Int) - b = f0 := ⟨_, rfl⟩
      obtain ⟨g0, hg0⟩ : ∃ g0, (t.t : Int) - b = g0 := ⟨_, rfl⟩
      have hbd := HST.out t (List.mem_of_getElem? ht)
      rw [hf0, hg0] at hbd
      obtain ⟨X, hX⟩ : ∃ X : ByteArray, (⟨t.x.toArray⟩ : ByteArray) = X := ⟨_, rfl⟩
      have e0 : wr.cell? ⟨rg, i * 8, none⟩ = some (.int .i64 (t.k : Int)) := k0
      have e1 : wr.cell? ⟨rg, i * 8 + 1, none⟩ = some (.string X) := by rw [← hX]; exact hk 1 _ (by omega) rfl
      have e2 : wr.cell? ⟨rg, i * 8 + 2, none⟩ = some (.bool t.sp) := hk 2 _ (by omega) rfl
      have e3 : wr.cell? ⟨rg, i * 8 + 3, none⟩ = some (.string Efile) := hk 3 _ (by omega) rfl
      have e4 : wr.cell? ⟨rg, i * 8 + 4, none⟩ = some (.int .i64 f0) := by rw [← hf0]; exact hk 4 _ (by omega) rfl
      have e5 : wr.cell? ⟨rg, i * 8 + 5, none⟩ = some (.int .i64 g0) := by rw [← hg0]; exact hk 5 _ (by omega) rfl
      have e6 : wr.cell? ⟨rg, i * 8 + 6, none⟩ = some (.bool false) := hk 6 _ (by omega) rfl
      have e7 : wr.cell? ⟨rg, i * 8 + 7, none⟩ = some (.slice none 0 0) := hk 7 _ (by omega) rfl
      have d0 : wr.cell? ⟨kb, 0, none⟩ = some (.pointer (some ⟨p, 0, none⟩)) := bcell hU.2 (by rw [Lib.cell_of_heap HK2.out]; rfl) hkz
      have d1 : wr.cell? ⟨kb, 1, none⟩ = some (.int .i64 b) := bcell hU.2 (by rw [Lib.cell_of_heap HK2.out]; rfl) hkz
      have hiI : (i : Int) < (n : Int) := by omega
      have hi0 : (0 : Int) ≤ (i : Int) := by omega
      have hkw : kb < wr.heap.size := Nat.lt_of_lt_of_le hkz hU.2.size
      have HSP : Hid (∀ Y : World, Calls Tryz.prog 39 #[.agg #[.pointer (some ⟨p, 0, none⟩), .int .i64 b], .string F, .agg #[.string Efile, .int .i64 f0, .int .i64 g0]] Y (SpanBel F (f0 + b) (g0 + b) Y)) := Lib.hid (fun Y => spanK_any _ b f0 g0 F Efile Y ⟨hb1, hb2⟩ hbd.1 hbd.2)
      have HT := Lib.hid ht
      have HF0 := Lib.hid hf0
      have HG0 := Lib.hid hg0
      have HRG : Hid (rg < wr.heap.size) := Lib.hid hrg
      have hfz := own_free hU.1
      have HFZ := Lib.hid hfz
      have HE3 := Lib.hid e3
      have HE4 := Lib.hid e4
      have HE5 := Lib.hid e5
      clear hU hcell k0 hk hf0 hg0 hbd hX hrg ht hfz hkz
      go_wp2_with (go_at_call 39; (with_reducible refine (HSP.out _).mono ?_); rintro e w4 ⟨rfl, hb4⟩; have HB4 : Hid (Below wr.heap.size wr w4) := Lib.hid (below_up ((Below.refl wr.heap.size wr).alloc (Nat.le_refl _) _) hb4); have q3 : w4.cell? ⟨rg, i * 8 + 3, none⟩ = some (.string Efile) := bcell HB4.out HE3.out HRG.out; have q4 : w4.cell? ⟨rg, i * 8 + 4, none⟩ = some (.int .i64 f0) := bcell HB4.out HE4.out HRG.out; have q5 : w4.cell? ⟨rg, i * 8 + 5, none⟩ = some (.int .i64 g0) := bcell HB4.out HE5.out HRG.out; have z3 : w4.frozen? ⟨rg, i * 8 + 3, none⟩ = false := (HB4.out.frozen (p := ⟨rg, i * 8 + 3, none⟩) HRG.out).trans (HFZ.out _); have z4 : w4.frozen? ⟨rg, i * 8 + 4, none⟩ = false := (HB4.out.frozen (p := ⟨rg, i * 8 + 4, none⟩) HRG.out).trans (HFZ.out _); have z5 : w4.frozen? ⟨rg, i * 8 + 5, none⟩ = false := (HB4.out.frozen (p := ⟨rg, i * 8 + 5, none⟩) HRG.out).trans (HFZ.out _); clear hb4)
      have HNX : Hid (Up W2 110 8 (.slice (some ⟨rg, 0, none⟩) n c3) n (mixT F b x.1.toks (i + 1)) (((w4.setCell ⟨rg, i * 8 + 3, none⟩ (.string F)).setCell ⟨rg, i * 8 + 4, none⟩ (.int .i64 (f0 + b))).setCell ⟨rg, i * 8 + 5, none⟩ (.int .i64 (g0 + b)))) := Lib.hid (by
        have h := up_set (up_set (up_set (Up.over HU.out HB4.out) (i * 8 + 3) (.string F)) (i * 8 + 4) (.int .i64 (f0 + b))) (i * 8 + 5) (.int .i64 (g0 + b))
        have k1 : f0 + b = (t.f : Int) := by have := HF0.out; omega
        have k2 : g0 + b = (t.t : Int) := by have := HG0.out; omega
        rw [k1, k2, mixT_set HT.out] at h
        rw [k1, k2]
        exact h)
      exact ⟨⟨i + 1, by go_num, hlt, HNX.out⟩, by simp [intOf]; omega⟩
    · have hie : i = n := by omega
      subst hie
      have hU2 : Up W2 110 8 (.slice a3 i c3) i (tcells F x.1.toks) wr := by
        have h := hU
        unfold mixT at h
        rw [← HN.out, List.take_length, List.drop_length] at h
        rw [← HN.out]
        simpa [tcellsB] using h
      have HU2 := Lib.hid hU2
      have HBW : Hid (Below w.heap.size w wr) := Lib.hid (below_up HB2.out hU.2)
      have hkz : kb + 1 < W2.heap.size := by have := HZ2.out; omega
      have HKZ := Lib.hid hkz
      have HKW : Hid (wr.heap[kb]? = some (.cells #[.pointer (some ⟨p, 0, none⟩), .int .i64 b] 84 (0, 0))) := Lib.hid ((hU.2.block _ (by omega)).trans HK2.out)
      have HRW : Hid (wr.heap[kb + 1]? = some (.cells #[.slice none 0 0, .int .i64 0, .int .i64 0, .bool false] 87 (0, 0))) := Lib.hid ((hU.2.block _ hkz).trans HR2.out)
      have HFR : Hid (∀ X : World, Below wr.heap.size wr X → Calls Tryz.prog 47 #[.agg #[.pointer (some ⟨p, 0, none⟩), .int .i64 b]] X (NatBel x.1.f X)) := Lib.hid (fun X hX => from_any (HLA.out.sm (Sm.below (below_up HBW.out hX))) HSM.out)
      have HTO : Hid (∀ X : World, Below wr.heap.size wr X → Calls Tryz.prog 48 #[.agg #[.pointer (some ⟨p, 0, none⟩), .int .i64 b]] X (NatBel x.1.t X)) := Lib.hid (fun X hX => to_any (HLA.out.sm (Sm.below (below_up HBW.out hX))) HSM.out)
      have HSX : Hid (∀ X : World, Below wr.heap.size wr X → X.cell? ⟨kb, 0, none⟩ = some (.pointer (some ⟨p, 0, none⟩)) ∧ X.cell? ⟨kb, 1, none⟩ = some (.int .i64 b) ∧ X.cell? ⟨p, 3, none⟩ = some (.bool x.1.o)) := Lib.hid (fun X hX => by
        have h1 : X.heap[kb]? = _ := (hX.block _ (row_lt HKW.out)).trans HKW.out
        exact ⟨by rw [Lib.cell_of_heap h1]; rfl, by rw [Lib.cell_of_heap h1]; rfl, bcell (below_up HBW.out hX) HC3.out HPL.out⟩)
      have HRX : Hid (∀ X : World, Below wr.heap.size wr X → X.heap[kb + 1]? = some (.cells #[.slice none 0 0, .int .i64 0, .int .i64 0, .bool false] 87 (0, 0))) := Lib.hid (fun X hX => (hX.block _ (row_lt HRW.out)).trans HRW.out)
      have HS7 : Hid (∀ (X : World) (v0 v1 v2 v3 : Value), Below wr.heap.size wr X → ((((X.setCell ⟨kb + 1, 0, none⟩ v0).setCell ⟨kb + 1, 1, none⟩ v1).setCell ⟨kb + 1, 2, none⟩ v2).setCell ⟨kb + 1, 3, none⟩ v3).cell? ⟨kb, 0, none⟩ = some (.pointer (some ⟨p, 0, none⟩)) ∧ ((((X.setCell ⟨kb + 1, 0, none⟩ v0).setCell ⟨kb + 1, 1, none⟩ v1).setCell ⟨kb + 1, 2, none⟩ v2).setCell ⟨kb + 1, 3, none⟩ v3).cell? ⟨kb, 1, none⟩ = some (.int .i64 b) ∧ ((((X.setCell ⟨kb + 1, 0, none⟩ v0).setCell ⟨kb + 1, 1, none⟩ v1).setCell ⟨kb + 1, 2, none⟩ v2).setCell ⟨kb + 1, 3, none⟩ v3).cell? ⟨p, 3, none⟩ = some (.bool x.1.o)) := Lib.hid (fun X v0 v1 v2 v3 hX => by
        obtain ⟨s0, s1, s2⟩ := HSX.out X hX
        have hp : p ≠ kb + 1 := by have := HPL.out; have := HKB.out; omega
        have ho : ∀ q k (Y : World) j v, q ≠ kb + 1 → (Y.setCell ⟨kb + 1, j, none⟩ v).cell? ⟨q, k, none⟩ = Y.cell? ⟨q, k, none⟩ := fun q k Y j v hq => World.cell?_of_block (heap_setCell_other Y ⟨kb + 1, j, none⟩ q v hq)
        refine ⟨?_, ?_, ?_⟩
        · rw [ho _ _ _ _ _ (by omega), ho _ _ _ _ _ (by omega), ho _ _ _ _ _ (by omega), ho _ _ _ _ _ (by omega)]; exact s0
        · rw [ho _ _ _ _ _ (by omega), ho _ _ _ _ _ (by omega), ho _ _ _ _ _ (by omega), ho _ _ _ _ _ (by omega)]; exact s1
        · rw [ho _ _ _ _ _ hp, ho _ _ _ _ _ hp, ho _ _ _ _ _ hp, ho _ _ _ _ _ hp]; exact s2)
      have HBD : Hid (Below wr.heap.size wr wr.drew) := Lib.hid (Below.refl _ _).drew
      clear hU hU2 hkz
      go_wp2
      go_region_held3 (fun w' => w'.cell? ⟨kb, 0, none⟩ = some (.pointer (some ⟨p, 0, none⟩)) ∧ w'.cell? ⟨kb, 1, none⟩ = some (.int .i64 b) ∧ w'.cell? ⟨p, 3, none⟩ = some (.bool x.1.o))
        (first | exact HSX.out _ HBD.out | exact HSX.out _ HB6.out | exact HSX.out _ HB5f.out | exact HSX.out _ HB5t.out | exact HS7.out _ _ _ _ _ HB6.out)
        (first
          | (go_at_call 47; first
              | ((with_reducible refine (HFR.out _ HB5t.out).mono ?_); rintro e w6 ⟨rfl, y⟩; have HB6 := Lib.hid (below_up HB5t.out y); have hr6 := HRX.out _ HB6.out; have r0 : w6.cell? ⟨kb + 1, 0, none⟩ = some (.slice none 0 0) := (by rw [Lib.cell_of_heap hr6]; rfl); have r1 : w6.cell? ⟨kb + 1, 1, none⟩ = some (.int .i64 0) := (by rw [Lib.cell_of_heap hr6]; rfl); have r2 : w6.cell? ⟨kb + 1, 2, none⟩ = some (.int .i64 0) := (by rw [Lib.cell_of_heap hr6]; rfl); have r3 : w6.cell? ⟨kb + 1, 3, none⟩ = some (.bool false) := (by rw [Lib.cell_of_heap hr6]; rfl); have z0 : ∀ j, w6.frozen? ⟨kb + 1, j, none⟩ = false := (fun j => frozen_of_row w6 _ j _ _ hr6); clear y hr6)
              | ((with_reducible refine (HFR.out _ HBD.out).mono ?_); rintro e w5 ⟨rfl, y⟩; have HB5f := Lib.hid (below_up HBD.out y); clear y))
          | (go_at_call 48; first
              | ((with_reducible refine (HTO.out _ HB5f.out).mono ?_); rintro e w6 ⟨rfl, y⟩; have HB6 := Lib.hid (below_up HB5f.out y); have hr6 := HRX.out _ HB6.out; have r0 : w6.cell? ⟨kb + 1, 0, none⟩ = some (.slice none 0 0) := (by rw [Lib.cell_of_heap hr6]; rfl); have r1 : w6.cell? ⟨kb + 1, 1, none⟩ = some (.int .i64 0) := (by rw [Lib.cell_of_heap hr6]; rfl); have r2 : w6.cell? ⟨kb + 1, 2, none⟩ = some (.int .i64 0) := (by rw [Lib.cell_of_heap hr6]; rfl); have r3 : w6.cell? ⟨kb + 1, 3, none⟩ = some (.bool false) := (by rw [Lib.cell_of_heap hr6]; rfl); have z0 : ∀ j, w6.frozen? ⟨kb + 1, j, none⟩ = false := (fun j => frozen_of_row w6 _ j _ _ hr6); clear y hr6)
              | ((with_reducible refine (HTO.out _ HBD.out).mono ?_); rintro e w5 ⟨rfl, y⟩; have HB5t := Lib.hid (below_up HBD.out y); clear y)))
      all_goals
        have hr9 := heap_set4 (HRX.out _ HB6.out) (.slice a3 i c3) (.int .i64 (x.1.f : Int)) (.int .i64 (x.1.t : Int)) (.bool x.1.o)
        have hU9 : Up w 110 8 (.slice a3 i c3) i (tcells F x.1.toks) ((((w6.setCell ⟨kb + 1, 0, none⟩ (.slice a3 i c3)).setCell ⟨kb + 1, 1, none⟩ (.int .i64 (x.1.f : Int))).setCell ⟨kb + 1, 2, none⟩ (.int .i64 (x.1.t : Int))).setCell ⟨kb + 1, 3, none⟩ (.bool x.1.o))  := by
          have hkl : w.heap.size ≤ kb + 1 := by have := HKB.out; omega
          have h6 := Up.over HU2.out HB6.out
          have hz := HKZ.out
          exact ⟨row_low (ownsRow_setCell_below (ownsRow_setCell_below (ownsRow_setCell_below (ownsRow_setCell_below h6.1 (a := ⟨kb + 1, 0, none⟩) hz _) (a := ⟨kb + 1, 1, none⟩) hz _) (a := ⟨kb + 1, 2, none⟩) hz _) (a := ⟨kb + 1, 3, none⟩) hz _) HB2.out.size, ((((below_up HBW.out HB6.out).setCell hkl _).setCell hkl _).setCell hkl _).setCell hkl _⟩
        obtain ⟨w9, hw9⟩ : ∃ w9, ((((w6.setCell ⟨kb + 1, 0, none⟩ (.slice a3 i c3)).setCell ⟨kb + 1, 1, none⟩ (.int .i64 (x.1.f : Int))).setCell ⟨kb + 1, 2, none⟩ (.int .i64 (x.1.t : Int))).setCell ⟨kb + 1, 3, none⟩ (.bool x.1.o)) = w9 := ⟨_, rfl⟩
        rw [hw9] at hr9 hU9 ⊢
        have q0 : w9.cell? ⟨kb + 1, 0, none⟩ = some (.slice a3 i c3) := by rw [Lib.cell_of_heap hr9]; rfl
        have q1 : w9.cell? ⟨kb + 1, 1, none⟩ = some (.int .i64 (x.1.f : Int)) := by rw [Lib.cell_of_heap hr9]; rfl
        have q2 : w9.cell? ⟨kb + 1, 2, none⟩ = some (.int .i64 (x.1.t : Int)) := by rw [Lib.cell_of_heap hr9]; rfl
        have q3 : w9.cell? ⟨kb + 1, 3, none⟩ = some (.bool x.1.o) := by rw [Lib.cell_of_heap hr9]; rfl
        have HU9 := Lib.hid hU9
        clear hr9 hU9 hw9 r0 r1 r2 r3 z0
        go_wp2
        exact bodyPost_ret (v := .agg #[.slice a3 i c3, .int .i64 (x.1.f : Int), .int .i64 (x.1.t : Int), .bool x.1.o]) (by simp [results, Tryz.results29, go_sem, q0, q1, q2, q3]) rfl ⟨a3, i, c3, rfl, HN.out.symm, HU9.out⟩

end Go.Proofs.YtpnboieppkjfnaaGreat

/-
  sync.Once.Do in a document, for its relex.
-/
namespace Go.Proofs.YtpnboieppkjfnaaGreat
open Go.RowKit

/-- What is asked of the closure: it leaves the lock and the mark alone. -/
def ReClosurePost (b : Nat) (Q : World → Prop) (e : Ending) (w : World) : Prop :=
  e = .returned (.tuple #[]) ∧ w.cell? ⟨b, 2, none⟩ = some (.int .u32 0) ∧ w.cell? ⟨b, 3, none⟩ = some (.int .i32 1) ∧ w.frozen? ⟨b, 2, none⟩ = false ∧ w.frozen? ⟨b, 3, none⟩ = false ∧ Q w

/-- What comes of it. -/
def ReOncePost (b : Nat) (Q : World → Prop) (e : Ending) (w' : World) : Prop :=
  e = .returned (.tuple #[]) ∧ ∃ w2, Q w2 ∧ w' = (w2.drew.setCell ⟨b, 2, none⟩ (.int .u32 1)).setCell ⟨b, 3, none⟩ (.int .i32 0)

set_option maxRecDepth 100000 in
set_option maxHeartbeats 1600000 in
theorem re_slow_any (b : Nat) (pl : Addr) (w : World) (Q : World → Prop)
    (h0 : w.cell? ⟨b, 2, none⟩ = some (.int .u32 0)) (h1 : w.cell? ⟨b, 3, none⟩ = some (.int .i32 0)) (f1 : w.frozen? ⟨b, 3, none⟩ = false)
    (hcl : Calls Tryz.prog 44 #[.pointer (some pl)] (w.setCell ⟨b, 3, none⟩ (.int .i32 1)) (ReClosurePost b Q)) :
    Calls Tryz.prog 67 #[.pointer (some ⟨b, 2, none⟩), .func (.func 44) #[.pointer (some pl)] #[]] w (ReOncePost b Q) := by
  have hnot : ∀ (x : Bool) (w : World), (Op.unary .not (.bool x)).run Tryz.prog w = .ok (.bool (!x)) w := fun _ _ => rfl
  have HC := Lib.hid hcl
  clear hcl
  go_enter_defers Tryz.func67, Tryz.ntmps67
  go_wp2_with (first
    | (go_at_call 82; refine (lock_free ⟨b, 3, none⟩ _ (by go_simp) (by go_simp)).mono ?_; rintro e w' ⟨rfl, rfl⟩)
    | (go_at_call 66; refine (loaded ⟨b, 2, none⟩ 0 _ ((World.cell?_setCell_other _ ⟨b, 3, none⟩ ⟨b, 2, none⟩ _ (by simp)).trans h0) false (by decide)).mono ?_; rintro e w' ⟨rfl, rfl⟩)
    | (go_at_call 44; refine HC.out.mono ?_; rintro e w2 ⟨rfl, c5, c6, z5, z6, hq⟩))
  have HQ := Lib.hid hq
  clear hq
  go_wp2
  refine leaves_cons (f := 84) (args := #[.pointer (some ⟨b, 2, none⟩), .bool true]) (by simp) (by simp [go_sem]) ?_
  refine (store_deferred ⟨b, 2, none⟩ (.int .u32 0) .returning _ c5 z5).mono ?_
  rintro e u' w'' ⟨rfl, rfl, rfl⟩
  refine leaves_cons (f := 83) (args := #[.pointer (some ⟨b, 3, none⟩)]) (by simp [settle]) (by simp [go_sem]) ?_
  refine (unlock_deferred ⟨b, 3, none⟩ _ _ ?_ (by simp [z6])).mono ?_
  · refine (World.cell?_setCell_other _ ⟨b, 2, none⟩ ⟨b, 3, none⟩ _ (by simp)).trans ?_
    rw [World.cell?_drew]
    exact c6
  rintro e u' w'' ⟨rfl, rfl, rfl⟩
  have hfin : ReOncePost b Q (.returned (.tuple #[])) ((w2.drew.setCell ⟨b, 2, none⟩ (.int .u32 1)).setCell ⟨b, 3, none⟩ (.int .i32 0)) := ⟨rfl, w2, HQ.out, rfl⟩
  have HF := Lib.hid hfin
  clear hfin
  simp [Leaves, settle, results, Tryz.results67]
  exact HF.out

theorem re_do_first (b : Nat) (pl : Addr) (w : World) (Q : World → Prop)
    (h0 : w.cell? ⟨b, 2, none⟩ = some (.int .u32 0)) (h1 : w.cell? ⟨b, 3, none⟩ = some (.int .i32 0)) (f1 : w.frozen? ⟨b, 3, none⟩ = false)
    (hcl : Calls Tryz.prog 44 #[.pointer (some pl)] (w.setCell ⟨b, 3, none⟩ (.int .i32 1)) (ReClosurePost b Q)) :
    Calls Tryz.prog 43 #[.pointer (some ⟨b, 2, none⟩), .func (.func 44) #[.pointer (some pl)] #[]] w (ReOncePost b Q) := by
  have hnot : ∀ (x : Bool) (w : World), (Op.unary .not (.bool x)).run Tryz.prog w = .ok (.bool (!x)) w := fun _ _ => rfl
  have HC := Lib.hid hcl
  clear hcl
  go_enter Tryz.func43, Tryz.ntmps43
  go_wp2_with (first
    | (go_at_call 67; refine (re_slow_any b pl _ Q h0 h1 f1 HC.out).mono ?_; rintro e w' ⟨rfl, hq⟩)
    | (go_at_call 66; refine (loaded ⟨b, 2, none⟩ 0 _ h0 false (by decide)).mono ?_; rintro e w' ⟨rfl, rfl⟩))
  go_end0
  exact ⟨rfl, hq⟩

end Go.Proofs.YtpnboieppkjfnaaGreat

/-
  relex, walked: how a document's lines are made.
-/
namespace Go.Proofs.YtpnboieppkjfnaaGreat
open Go.RowKit

theorem addN_any (a : Addr) (ha : a.spot = none) (n : Nat) (hn : n ≤ 1000000) (w : World) (hc : w.cell? a = some (.int .i64 0)) (hz : w.frozen? a = false) :
    Calls Tryz.prog 70 #[.pointer (some a), .int .i64 (n : Int)] w fun e w' => e = .returned (.int .i64 (n : Int)) ∧ w' = w.setCell a (.int .i64 (n : Int)) := by
  have hs : (Op.intArith .add .i64 0 (n : Int)).run Tryz.prog w = .ok (.int .i64 (n : Int)) w := by
    have e : (n : Int) = IntKind.i64.wrap (0 + (n : Int)) := by
      rw [IntWalk.i64_in _ (by omega)]
      omega
    rw [show Op.intArith .add .i64 0 (n : Int) = (pure (.int .i64 (IntKind.i64.wrap (0 + (n : Int)))) : Sem Value) from rfl, ← e]
    rfl
  have hadd := run_call_add (P := Tryz.prog) Tryz.func92 (by kernel_rfl) (by kernel_rfl) (by kernel_rfl) .i64 (by kernel_rfl) (y := (n : Int)) hc hz hs
  clear hs
  obtain ⟨b, o, sp⟩ := a
  simp only at ha
  subst ha
  go_enter Tryz.func70, Tryz.ntmps70
  go_wp2
  go_ret
  exact ⟨rfl, rfl⟩

theorem loadN_any (a : Addr) (ha : a.spot = none) (n : Nat) (w : World) (hc : w.cell? a = some (.int .i64 (n : Int))) :
    Calls Tryz.prog 28 #[.pointer (some a)] w fun e w' => e = .returned (.int .i64 (n : Int)) ∧ w = w' := by
  have hl := run_call_load (P := Tryz.prog) Tryz.func45 (by kernel_rfl) (by kernel_rfl) (by kernel_rfl) .i64 (by kernel_rfl) hc
  obtain ⟨b, o, sp⟩ := a
  simp only at ha
  subst ha
  go_enter Tryz.func28, Tryz.ntmps28
  go_wp2
  go_ret
  exact ⟨rfl, rfl⟩

theorem lineAt_move {w : World} {q : Nat} {b mo : Int} {y : Ln × List Dg} {p p' : Nat} (hp : (p' : Int) = (p : Int) + mo) (h : LineAt w q b (shRow p y)) : LineAt w q (b + mo) (shRow p' y) := by
  obtain ⟨tv, dv, h1, h2, h3⟩ := h
  have ht : tcellsB Efile (b + mo) (shRow p' y).1.toks = tcellsB Efile b (shRow p y).1.toks := by
    simp only [shRow, shLn]
    unfold tcellsB
    rw [List.flatMap_map, List.flatMap_map]
    congr 1
    funext t
    unfold tcellB shTk
    simp only
    rw [show ((p' + t.f : Nat) : Int) - (b + mo) = ((p + t.f : Nat) : Int) - b from by omega, show ((p' + t.t : Nat) : Int) - (b + mo) = ((p + t.t : Nat) : Int) - b from by omega]
  have hd : dcellsB Efile (b + mo) (shRow p' y).2 = dcellsB Efile b (shRow p y).2 := by
    simp only [shRow]
    unfold dcellsB
    rw [List.flatMap_map, List.flatMap_map]
    congr 1
    funext t
    unfold dcellB shDg
    simp only
    rw [show ((p' + t.f : Nat) : Int) - (b + mo) = ((p + t.f : Nat) : Int) - b from by omega, show ((p' + t.t : Nat) : Int) - (b + mo) = ((p + t.t : Nat) : Int) - b from by omega]
  refine ⟨tv, dv, ?_, ?_, ?_⟩
  · rw [h1]
    unfold lineObj
    simp only [shRow, shLn]
    rw [show ((p' + y.1.f : Nat) : Int) - (b + mo) = ((p + y.1.f : Nat) : Int) - b from by omega, show ((p' + y.1.t : Nat) : Int) - (b + mo) = ((p + y.1.t : Nat) : Int) - b from by omega]
  · rw [ht]
    simpa [shRow, shLn] using h2
  · rw [hd]
    simpa [shRow] using h3
theorem small_move {b mo : Int} {y : Ln × List Dg} {p p' : Nat} (hp : (p' : Int) = (p : Int) + mo) (h : Small b (shRow p y)) (hf : (shRow p' y).1.f ≤ 70000) : Small (b + mo) (shRow p' y) := by
  obtain ⟨h1, h2, h3, h4, h5, h6, h7⟩ := h
  simp only [shRow, shLn] at h2 h3 h4 h6 hf
  simp only [shRow] at h5 h7
  refine ⟨by omega, by simp only [shRow, shLn]; omega, by simp only [shRow, shLn]; omega, fun t ht => ?_, fun d hd => ?_, by simpa [shRow, shLn] using h6, by simpa [shRow] using h7⟩
  · simp only [shRow, shLn, List.mem_map] at ht
    obtain ⟨t0, ht0, rfl⟩ := ht
    have := h4 (shTk p t0) (List.mem_map_of_mem ht0)
    simp only [shTk] at this ⊢
    omega
  · simp only [shRow, List.mem_map] at hd
    obtain ⟨d0, hd0, rfl⟩ := hd
    have := h5 (shDg p d0) (List.mem_map_of_mem hd0)
    simp only [shDg] at this ⊢
    omega

theorem KRead.app {K1 K2 : List (Nat × Int)} {R1 R2 : List (Ln × List Dg)} {w : World} (h1 : KRead K1 R1 w) (h2 : KRead K2 R2 w) : KRead (K1 ++ K2) (R1 ++ R2) w := by
  refine ⟨by rw [List.length_append, List.length_append, h1.1, h2.1], fun i k x hk hx => ?_⟩
  rcases Nat.lt_or_ge i K1.length with hi | hi
  · rw [List.getElem?_append_left hi] at hk
    rw [List.getElem?_append_left (by rw [← h1.1]; exact hi)] at hx
    exact h1.2 i k x hk hx
  · rw [List.getElem?_append_right hi] at hk
    rw [List.getElem?_append_right (by rw [← h1.1]; exact hi), ← h1.1] at hx
    exact h2.2 _ k x hk hx
theorem KRead.take {K : List (Nat × Int)} {R : List (Ln × List Dg)} {w : World} (h : KRead K R w) (n : Nat) : KRead (K.take n) (R.take n) w := by
  refine ⟨by rw [List.length_take, List.length_take, h.1], fun i k x hk hx => ?_⟩
  rw [List.getElem?_take] at hk hx
  split at hk
  · rename_i hi
    rw [if_pos hi] at hx
    exact h.2 i k x hk hx
  · cases hk
theorem KRead.drop {K : List (Nat × Int)} {R : List (Ln × List Dg)} {w : World} (h : KRead K R w) (n : Nat) : KRead (K.drop n) (R.drop n) w := by
  refine ⟨by rw [List.length_drop, List.length_drop, h.1], fun i k x hk hx => ?_⟩
  rw [List.getElem?_drop] at hk hx
  exact h.2 _ k x hk hx

/-- The new text's lines are kept. -/
theorem among_read {E : AE} (ho : E.Ok) (he : Ed E.Ts E.fr E.te E.l) {f n' : Nat} (hf : f ≤ E.lf) (hfn : f ≤ n') (hn0 : E.n0 ≤ n') (hn : n' ≤ E.Ts.length) {Ps : List (List UInt8)} (hPs : Ps.flatten = partN E f n') (hnew : Pcs (E.Ts.take f ++ (Ps ++ E.Ts.drop n'))) (hfl : (E.Ts.take f ++ (Ps ++ E.Ts.drop n')).flatten = E.l)
    {w : World} (hK : KRead E.K (rows 0 E.Ts) w) {Kp : List (Nat × Int)} (hKp : KRead Kp (rows (pre E.Ts f) Ps) w) : KRead (E.K.take f ++ Kp ++ shiftK E.mo (E.K.drop n')) (rows 0 (E.Ts.take f ++ (Ps ++ E.Ts.drop n'))) w := by
  have hlen := rows_len 0 E.Ts
  have h1 : rows 0 (E.Ts.take f) = (rows 0 E.Ts).take f := by
    have h := rows_app 0 (E.Ts.take f) (E.Ts.drop f)
    rw [List.take_append_drop] at h
    rw [h, List.take_left' (by rw [rows_len, List.length_take]; omega)]
  have h2 : rows (pre E.Ts n') (E.Ts.drop n') = (rows 0 E.Ts).drop n' := by
    have h := rows_app 0 (E.Ts.take n') (E.Ts.drop n')
    rw [List.take_append_drop, Nat.zero_add] at h
    rw [h, List.drop_left' (by rw [rows_len, List.length_take]; omega)]
    rfl
  have hwhole := part_whole ho he hf hn0 hn
  have hml : ((pre E.Ts f + (partN E f n').length : Nat) : Int) = (pre E.Ts n' : Int) + E.mo := by
    have e1 := congrArg List.length hwhole
    have e2 := congrArg List.length (flat_split E.Ts n')
    rw [List.length_append, List.length_append] at e1
    rw [List.length_append] at e2
    have e3 := ho.mo
    have e4 : (E.Ts.take f).flatten.length = pre E.Ts f := rfl
    have e5 : (E.Ts.take n').flatten.length = pre E.Ts n' := rfl
    omega
  have e : rows 0 (E.Ts.take f ++ (Ps ++ E.Ts.drop n')) = (rows 0 E.Ts).take f ++ (rows (pre E.Ts f) Ps ++ rows (pre E.Ts f + (partN E f n').length) (E.Ts.drop n')) := by
    rw [rows_app, rows_app, h1, hPs, Nat.zero_add]
    rfl
  have hlast : KRead (shiftK E.mo (E.K.drop n')) (rows (pre E.Ts f + (partN E f n').length) (E.Ts.drop n')) w := by
    have hd := hK.drop n'
    rw [← h2] at hd
    refine ⟨by unfold shiftK; rw [List.length_map, hd.1, rows_len, rows_len], fun i k x hk hx => ?_⟩
    unfold shiftK at hk
    rw [List.getElem?_map, Option.map_eq_some_iff] at hk
    obtain ⟨k0, hk0, rfl⟩ := hk
    have hxf : x.1.f ≤ 70000 := by
      have hx2 : (rows 0 (E.Ts.take f ++ (Ps ++ E.Ts.drop n')))[f + (Ps.length + i)]? = some x := by
        rw [e, List.getElem?_append_right (by rw [List.length_take]; omega), List.length_take, Nat.min_eq_left (by omega), List.getElem?_append_right (by rw [rows_len]; omega), rows_len, show f + (Ps.length + i) - f - Ps.length = i from by omega]
        exact hx
      have h5 := row_at hnew hx2
      have h6 := pre_le (E.Ts.take f ++ (Ps ++ E.Ts.drop n')) (f + (Ps.length + i))
      rw [hfl] at h6
      have := he.new
      omega
    have hx0 : ∃ y, (rows 0 (E.Ts.drop n'))[i]? = some y ∧ x = shRow (pre E.Ts f + (partN E f n').length) y := by
      rw [← Nat.add_zero (pre E.Ts f + (partN E f n').length), ← rows_sh, List.getElem?_map, Option.map_eq_some_iff] at hx
      obtain ⟨y, hy, rfl⟩ := hx
      exact ⟨y, hy, rfl⟩
    obtain ⟨y, hy, rfl⟩ := hx0
    have hz : (rows (pre E.Ts n') (E.Ts.drop n'))[i]? = some (shRow (pre E.Ts n') y) := by
      rw [← Nat.add_zero (pre E.Ts n'), ← rows_sh, List.getElem?_map, hy]
      rfl
    obtain ⟨s1, s2⟩ := hd.2 i k0 _ hk0 hz
    exact ⟨small_move hml s1 hxf, lineAt_move hml s2⟩
  rw [e, List.append_assoc]
  exact (hK.take f).app (hKp.app hlast)

def E0 (Ts : List (List UInt8)) (fr te : Nat) (mo : Int) (l : List UInt8) : AE := ⟨0, fun _ => none, 0, .slice none 0 0, none, none, Ts, fr, te, mo, l, [], mo⟩
/-- How many lines are lexed anew. -/
def WorkOk (Ts : List (List UInt8)) (fr te : Nat) (l : List UInt8) (k : Nat) : Prop :=
  ∃ f n n', TSpec (E0 Ts fr te ((l.length : Int) - Ts.flatten.length) l) f n ∧ LSpec (E0 Ts fr te ((l.length : Int) - Ts.flatten.length) l) f n n' ∧ k = (FL (partN (E0 Ts fr te ((l.length : Int) - Ts.flatten.length) l) f n')).lines.length

structure AE.Same (E E' : AE) : Prop where
  Ts : E.Ts = E'.Ts
  fr : E.fr = E'.fr
  te : E.te = E'.te
  mo : E.mo = E'.mo
  l : E.l = E'.l
theorem AE.Same.lf {E E' : AE} (h : E.Same E') : E.lf = E'.lf := by unfold AE.lf; rw [h.Ts, h.fr]
theorem AE.Same.n0 {E E' : AE} (h : E.Same E') : E.n0 = E'.n0 := by unfold AE.n0; rw [h.Ts, h.te]
theorem AE.Same.pla {E E' : AE} (h : E.Same E') (m : Nat) : plaN E m = plaN E' m := by unfold plaN; rw [h.Ts, h.mo, h.l]
theorem AE.Same.part {E E' : AE} (h : E.Same E') (f m : Nat) : partN E f m = partN E' f m := by unfold partN; rw [h.l, h.pla, h.Ts]
theorem AE.Same.tspec {E E' : AE} (h : E.Same E') {f n : Nat} (ht : TSpec E f n) : TSpec E' f n := by
  obtain ⟨t1, t2, t3, t4, t5⟩ := ht
  refine ⟨by rw [← h.n0]; exact t1, by rw [← h.Ts]; exact t2, ?_, fun m h1 h2 => ?_, ?_⟩
  · rw [← h.Ts, ← h.lf, ← h.part]
    exact t3
  · rw [← h.lf, ← h.part]
    exact t4 m (by rw [h.n0]; exact h1) h2
  · rw [← h.lf, ← h.part]
    exact t5
theorem AE.Same.lspec {E E' : AE} (h : E.Same E') {f n n' : Nat} (ht : LSpec E f n n') : LSpec E' f n n' := by
  obtain ⟨t1, t2, t3, t4⟩ := ht
  refine ⟨t1, by rw [← h.Ts]; exact t2, ?_, ?_⟩
  · rw [← h.Ts, ← h.part]
    exact t3
  · rw [← h.part]
    exact t4

end Go.Proofs.YtpnboieppkjfnaaGreat
