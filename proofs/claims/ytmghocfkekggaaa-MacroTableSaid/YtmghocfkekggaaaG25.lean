/-
  Texts of the proof, put together: McPx.
-/
import Derived.Test.YtmghocfkekggaaaG24

/-
  Parse, walked: what has a name.
-/
namespace Go.Proofs.Ytmghocfkekggaaa
open Go.RowKit Go.Maps

theorem site_off {s : Xs} {g o : Nat} {w : World} {q : Nat} (h : SitA s g o w) (hq : w.heap[q]? = some zeroObj) : g ≠ q := by
  rintro rfl
  obtain ⟨c0, c1, -⟩ := h
  unfold zeroObj at hq
  rw [Lib.cell_of_heap hq] at c0 c1
  match o with
  | 0 => simp at c1
  | 1 => simp at c0
  | 2 => simp at c0
  | 3 => simp at c0
  | 4 => simp at c0
  | 5 => simp at c1
  | 6 => simp at c0
  | 7 => simp at c0
  | o + 8 => simp at c0
theorem tok_off {t : Xt} {sv : Value} {g o : Nat} {w : World} {q : Nat} (h : TokX t sv g o w) (hq : w.heap[q]? = some zeroObj) : g ≠ q := by
  rintro rfl
  obtain ⟨c0, c1, -⟩ := h
  unfold zeroObj at hq
  rw [Lib.cell_of_heap hq] at c0 c1
  match o with
  | 0 => simp at c0
  | 1 => simp at c0
  | 2 => simp at c0
  | 3 => simp at c0
  | 4 => simp at c0
  | 5 => simp at c0
  | 6 => simp at c1
  | 7 => simp at c1
  | o + 8 => simp at c0
theorem SitsA.off {S : List Xs} {v : Value} {w w' : World} {q : Nat} (h : SitsA S v w) (hq : w.heap[q]? = some zeroObj) (hs : w'.heap.size = w.heap.size) (hf : ∀ g, g ≠ q → w'.heap[g]? = w.heap[g]?) : SitsA S v w' := by
  obtain ⟨a, cap, hv, h1, h2, h3⟩ := h
  refine ⟨a, cap, hv, h1, h2, fun k s hk => ?_⟩
  obtain ⟨g, o, ha, hg, hc⟩ := h3 k s hk
  have hb := hf g (site_off hc hq)
  obtain ⟨c0, c1, c2, c3, c4⟩ := hc
  exact ⟨g, o, ha, by rw [hs]; exact hg, (World.cell?_of_block hb).trans c0, (World.cell?_of_block hb).trans c1, (World.cell?_of_block hb).trans c2, (World.cell?_of_block hb).trans c3, (World.cell?_of_block hb).trans c4⟩
theorem ToksX.off {T : List Xt} {v : Value} {w w' : World} {q : Nat} (h : ToksX T v w) (hq : w.heap[q]? = some zeroObj) (hs : w'.heap.size = w.heap.size) (hf : ∀ g, g ≠ q → w'.heap[g]? = w.heap[g]?) : ToksX T v w' := by
  obtain ⟨a, cap, hv, h1, h2, h3⟩ := h
  refine ⟨a, cap, hv, h1, h2, fun k t hk => ?_⟩
  obtain ⟨g, o, ha, hg, sv, hc, hss⟩ := h3 k t hk
  have hb := hf g (tok_off hc hq)
  obtain ⟨c0, c1, c2, c3, c4, c5, c6, c7⟩ := hc
  exact ⟨g, o, ha, by rw [hs]; exact hg, sv, ⟨(World.cell?_of_block hb).trans c0, (World.cell?_of_block hb).trans c1, (World.cell?_of_block hb).trans c2, (World.cell?_of_block hb).trans c3, (World.cell?_of_block hb).trans c4, (World.cell?_of_block hb).trans c5, (World.cell?_of_block hb).trans c6, (World.cell?_of_block hb).trans c7⟩, hss.off hq hs hf⟩

/-- A macro that was read, as it is stored. -/
theorem good_end {W w1 : World} {p mb q : Nat} {m : Xm} {pv bv : Value} {w : World} (h : Rb w1 p mb m pv bv w) (hB : Below W.heap.size W w1) (hqW : W.heap.size ≤ q) (hq : w1.heap[q]? = some zeroObj) (hql : q < w1.heap.size) :
    ∃ w', sto8 w q (.string m.n) (.bool m.fn) (.bool m.va) pv bv (.string m.g) (.int .i64 m.f) (.int .i64 m.t) = w' ∧ w'.cell? ⟨q, 0, none⟩ = some (.string m.n) ∧ w'.cell? ⟨q, 1, none⟩ = some (.bool m.fn) ∧ w'.cell? ⟨q, 2, none⟩ = some (.bool m.va) ∧ w'.cell? ⟨q, 3, none⟩ = some pv ∧ w'.cell? ⟨q, 4, none⟩ = some bv ∧ w'.cell? ⟨q, 5, none⟩ = some (.string m.g) ∧ w'.cell? ⟨q, 6, none⟩ = some (.int .i64 m.f) ∧ w'.cell? ⟨q, 7, none⟩ = some (.int .i64 m.t) ∧
      Hid (MacAt m pv bv w' ∧ Below W.heap.size W w') := by
  have hqw : w.heap[q]? = some zeroObj := (h.1.bel.block q hql).trans hq
  obtain ⟨y0, y1, y2, y3, y4, y5, y6, y7⟩ := sto8_cells (v0 := .string m.n) (v1 := .bool m.fn) (v2 := .bool m.va) (v3 := pv) (v4 := bv) (v5 := .string m.g) (v6 := .int .i64 m.f) (v7 := .int .i64 m.t) hqw
  refine ⟨_, rfl, y0, y1, y2, y3, y4, y5, y6, y7, Lib.hid ⟨⟨?_, ?_⟩, ?_⟩⟩
  · exact strsV_row (ownsRow_over h.1.par fun k hk => sto8_far (row_ne h.1.par hqw (fun cs e => by
      unfold zeroObj at e
      simp only [Obj.cells.injEq] at e
      exact absurd e.2.1 (by decide)) k hk))
  · exact h.2.off hqw sto8_size fun k hk => sto8_far hk
  · exact sto8_below (below_up hB h.1.bel) hqW

set_option maxRecDepth 100000 in
set_option maxHeartbeats 6400000 in
theorem parse_none_any {t : Xt} {r : List Xt} {a : Option Addr} {n cap : Nat} {W : World} (h : ToksX (t :: r) (.slice a n cap) W) (hT : (t :: r).length ≤ 500000) (hS : ∀ u ∈ t :: r, u.ss.length ≤ 500000) (hZ : ∀ u ∈ t :: r, u.x.size ≤ maxLen) (hk : t.k = 1) (hr : resB t.x = false) (hh : headL r = none) : Calls Try.prog 19 #[.slice a n cap] W (RefusedAt W (illOf 5 t)) := by
  obtain ⟨hn, hc1, hc2⟩ := h.len
  simp only [List.length_cons] at hn
  unfold maxLen at hc2
  obtain ⟨g, o, sa, sn, sc, rfl, hg, -, hx, -⟩ := h.get (k := 0) (t := t) rfl
  rw [Nat.zero_mul, Nat.add_zero] at hx
  obtain ⟨o', ho, hrun⟩ := slice1_run g o n cap (by omega) hc1
  have HTR := Lib.hid (drop1_toks h ho)
  obtain ⟨c0, c1, c2, c3, c4, c5, c6, c7⟩ := hx
  have hne : ((n : Int) == 0) = false := by simp; omega
  have hn0 : (0 : Int) < (n : Int) := by omega
  have HG := Lib.hid hg
  have hk' : (t.k != 1) = false := by simp [hk]
  have HRS : Hid (∀ X : World, Calls Try.prog 36 #[.string t.x] X fun e w' => e = .returned (.bool false) ∧ X = w') := Lib.hid (fun X => hr ▸ reserved_any t.x X)
  have HL5 : Hid (r.length ≤ 500000) := Lib.hid (by simp only [List.length_cons] at hT; omega)
  have HS5 : Hid (∀ u ∈ r, u.ss.length ≤ 500000) := Lib.hid (fun u hu => hS u (List.mem_cons_of_mem _ hu))
  have HZ5 : Hid (∀ u ∈ r, u.x.size ≤ maxLen) := Lib.hid (fun u hu => hZ u (List.mem_cons_of_mem _ hu))
  have HH := Lib.hid hh
  have HREF : Hid (∀ X : World, Calls Try.prog 35 #[.int .i64 5, .agg #[.string t.g, .int .i64 t.f, .int .i64 t.t]] X (RefusedAt X (illOf 5 t))) := Lib.hid (fun X => refuse_any (illOf 5 t) X)
  have hmk := @run_makeMap Try.prog
  clear h hh hk hn ho hr hT hS hZ
  go_enter Try.func19, Try.ntmps19
  go_wp2_with (go_at_call 36; (with_reducible refine (HRS.out _).mono ?_); rintro e w0 ⟨rfl, rfl⟩)
  have hB0 : Below W.heap.size W (W.alloc (Obj.cells #[.string ⟨#[]⟩, .bool false, .bool false, .slice none 0 0, .slice none 0 0, .string ⟨#[]⟩, .int .i64 0, .int .i64 0] 38)) := (Below.refl _ _).alloc (Nat.le_refl _) _
  have hQ0 : (W.alloc (Obj.cells #[.string ⟨#[]⟩, .bool false, .bool false, .slice none 0 0, .slice none 0 0, .string ⟨#[]⟩, .int .i64 0, .int .i64 0] 38)).heap[W.heap.size]? = some zeroObj := heap_alloc_new W (Obj.cells #[.string ⟨#[]⟩, .bool false, .bool false, .slice none 0 0, .slice none 0 0, .string ⟨#[]⟩, .int .i64 0, .int .i64 0] 38)
  have hS0 : (W.alloc (Obj.cells #[.string ⟨#[]⟩, .bool false, .bool false, .slice none 0 0, .slice none 0 0, .string ⟨#[]⟩, .int .i64 0, .int .i64 0] 38)).heap.size = W.heap.size + 1 := by simp
  obtain ⟨w1, hw1⟩ : ∃ w1, W.alloc (Obj.cells #[.string ⟨#[]⟩, .bool false, .bool false, .slice none 0 0, .slice none 0 0, .string ⟨#[]⟩, .int .i64 0, .int .i64 0] 38) = w1 := ⟨_, rfl⟩
  obtain ⟨qb, hqb⟩ : ∃ qb, W.heap.size = qb := ⟨_, rfl⟩
  rw [hw1] at hB0 hQ0 hS0 ⊢
  have HQL : Hid (W.heap.size ≤ qb) := Lib.hid (by omega)
  rw [hqb] at hQ0 hS0 ⊢
  have HB0 := Lib.hid hB0
  have HQ0 := Lib.hid hQ0
  have HSQ : Hid (qb < w1.heap.size) := Lib.hid (by omega)
  have d1 := bcell hB0 c1 hg
  have d3 := bcell hB0 c3 hg
  have d4 := bcell hB0 c4 hg
  have d5 := bcell hB0 c5 hg
  have hg1 : g < w1.heap.size := Nat.lt_of_lt_of_le hg hB0.size
  have hg2 : g ≠ w1.heap.size := by omega
  have hg3 : w1.heap.size ≠ g := by omega
  have hg4 : g ≠ w1.heap.size + 1 := by omega
  have hg5 : w1.heap.size + 1 ≠ g := by omega
  have HTR1 := Lib.hid (HTR.out.over hB0)
  clear hw1 hqb hB0 hQ0 hS0 c0 c1 c2 c3 c4 c5 c6 c7
  go_region
  all_goals
    first
    | (change Exit.then _ _ _ _ (((w1.alloc (.map #[] 0)).alloc (rdObj (hm t.x false false [] t.g t.f t.t) (.slice none 0 0) (.slice none 0 0) (.slice (some ⟨g, o', none⟩) (n - 1) (cap - 1)) w1.heap.size)).drew)
       have HR2 := Lib.hid (start_map w1 t.x t.g t.f t.t HTR1.out HL5.out HS5.out HZ5.out)
       obtain ⟨w2, hw2⟩ : ∃ w2, (((w1.alloc (.map #[] 0)).alloc (rdObj (hm t.x false false [] t.g t.f t.t) (.slice none 0 0) (.slice none 0 0) (.slice (some ⟨g, o', none⟩) (n - 1) (cap - 1)) w1.heap.size)).drew) = w2 := ⟨_, rfl⟩
       rw [hw2] at HR2 ⊢
       obtain ⟨p, hpe⟩ : ∃ p, w1.heap.size + 1 = p := ⟨_, rfl⟩
       rw [hpe] at HR2 ⊢)
    | (change Exit.then _ _ _ _ (((w1.alloc (rdObj (hm t.x false false [] t.g t.f t.t) (.slice none 0 0) (.slice none 0 0) (.slice (some ⟨g, o', none⟩) (n - 1) (cap - 1)) (w1.heap.size + 1))).alloc (.map #[] 0)).drew)
       have HR2 := Lib.hid (start_rd w1 t.x t.g t.f t.t HTR1.out HL5.out HS5.out HZ5.out)
       obtain ⟨w2, hw2⟩ : ∃ w2, (((w1.alloc (rdObj (hm t.x false false [] t.g t.f t.t) (.slice none 0 0) (.slice none 0 0) (.slice (some ⟨g, o', none⟩) (n - 1) (cap - 1)) (w1.heap.size + 1))).alloc (.map #[] 0)).drew) = w2 := ⟨_, rfl⟩
       rw [hw2] at HR2 ⊢
       obtain ⟨p, hpe⟩ : ∃ p, w1.heap.size = p := ⟨_, rfl⟩
       rw [hpe] at HR2 ⊢)
    go_wp2_with (first
      | (go_at_call 37; (with_reducible refine (mhead_none HR2.out HH.out).mono ?_); rintro e w3 ⟨rfl, m3, R3, pv3, bv3, rv3, h5, h6, h7, hd3⟩; (obtain ⟨-, -, -, -, -, k5, k6, k7, -⟩ := hd3.cells); rw [h5] at k5; rw [h6] at k6; rw [h7] at k7; have HQ3 : Hid (w3.heap[qb]? = some zeroObj) := Lib.hid ((hd3.bel.block qb HSQ.out).trans HQ0.out); have HB3 : Hid (Below W.heap.size W w3) := Lib.hid (below_up HB0.out hd3.bel); have HSQ3 : Hid (qb < w3.heap.size) := Lib.hid (Nat.lt_of_lt_of_le HSQ.out hd3.bel.size); clear hd3 h5 h6 h7)
      | (go_at_call 35; (with_reducible refine (HREF.out _).mono ?_); rintro e w9 ⟨gb, rfl, hb9, hge, hlt, x0, x1, x2, x3⟩; have HZ9 := Lib.hid ((hb9.block qb (HSQ3.out)).trans (HQ3.out)); (obtain ⟨z0, z1, z2, z3, z4, z5, z6, z7, zf⟩ := zero_cells HZ9.out); have f0 := zf 0; have f1 := zf 1; have f2 := zf 2; have f3 := zf 3; have f4 := zf 4; have f5 := zf 5; have f6 := zf 6; have f7 := zf 7; have HF9 : Hid (RefW W qb gb (illOf 5 t) w9) := Lib.hid ⟨below_up (HB3.out) hb9, HQL.out, Nat.le_trans (HB3.out).size hge, Nat.ne_of_gt (Nat.lt_of_lt_of_le HSQ3.out hge), hlt, x0, x1, x2, x3⟩; clear hb9 hge hlt x0 x1 x2 x3 zf))
    obtain ⟨w10, hw10, y0, y1, y2, y3, y4, y5, y6, y7, HF10⟩ := ref_end HF9.out HZ9.out
    change bodyPost _ _ _ _ _ (sto8 w9 qb (.string ⟨#[]⟩) (.bool false) (.bool false) (.slice none 0 0) (.slice none 0 0) (.string ⟨#[]⟩) (.int .i64 0) (.int .i64 0))
    rw [hw10]
    exact bodyPost_ret (v := .tuple #[.agg #[.string ⟨#[]⟩, .bool false, .bool false, .slice none 0 0, .slice none 0 0, .string ⟨#[]⟩, .int .i64 0, .int .i64 0], .slice (some ⟨gb, 0, none⟩) 1 1]) (by simp [results, Try.results19, go_sem, y0, y1, y2, y3, y4, y5, y6, y7]) rfl HF10.out.end

set_option maxRecDepth 100000 in
set_option maxHeartbeats 6400000 in
theorem parse_mis_any {t : Xt} {r : List Xt} {a : Option Addr} {n cap : Nat} {W : World} (h : ToksX (t :: r) (.slice a n cap) W) (hT : (t :: r).length ≤ 500000) (hS : ∀ u ∈ t :: r, u.ss.length ≤ 500000) (hZ : ∀ u ∈ t :: r, u.x.size ≤ maxLen) (hk : t.k = 1) (hr : resB t.x = false) {fn va : Bool} {ps : List ByteArray} {q : List Xt} (hh : headL r = some (fn, va, ps, q)) {k : Nat} {u : Xt} (hm : misL fn va ps (bareL q) (bareL q).length 0 = some k) (hu : (bareL q)[k]? = some u) : Calls Try.prog 19 #[.slice a n cap] W (RefusedAt W (illOf 5 u)) := by
  obtain ⟨hn, hc1, hc2⟩ := h.len
  simp only [List.length_cons] at hn
  unfold maxLen at hc2
  obtain ⟨g, o, sa, sn, sc, rfl, hg, -, hx, -⟩ := h.get (k := 0) (t := t) rfl
  rw [Nat.zero_mul, Nat.add_zero] at hx
  obtain ⟨o', ho, hrun⟩ := slice1_run g o n cap (by omega) hc1
  have HTR := Lib.hid (drop1_toks h ho)
  obtain ⟨c0, c1, c2, c3, c4, c5, c6, c7⟩ := hx
  have hne : ((n : Int) == 0) = false := by simp; omega
  have hn0 : (0 : Int) < (n : Int) := by omega
  have HG := Lib.hid hg
  have hk' : (t.k != 1) = false := by simp [hk]
  have HRS : Hid (∀ X : World, Calls Try.prog 36 #[.string t.x] X fun e w' => e = .returned (.bool false) ∧ X = w') := Lib.hid (fun X => hr ▸ reserved_any t.x X)
  have HL5 : Hid (r.length ≤ 500000) := Lib.hid (by simp only [List.length_cons] at hT; omega)
  have HS5 : Hid (∀ u ∈ r, u.ss.length ≤ 500000) := Lib.hid (fun u hu => hS u (List.mem_cons_of_mem _ hu))
  have HZ5 : Hid (∀ u ∈ r, u.x.size ≤ maxLen) := Lib.hid (fun u hu => hZ u (List.mem_cons_of_mem _ hu))
  have HH := Lib.hid hh
  have HU := Lib.hid hu
  have HMIS : Hid (∀ (p mb : Nat) (pv bv : Value) (W1 X : World), Rb W1 p mb ⟨t.x, fn, va, ps, bareL q, t.g, t.f, t.t⟩ pv bv X → (∀ u ∈ bareL q, u.x.size ≤ maxLen) → (bareL q).length ≤ 1000000 → Calls Try.prog 39 #[.pointer (some ⟨p, 0, none⟩)] X (IntNew (k : Int) X)) := Lib.hid (fun p mb pv bv W1 X hX h1 h2 => by
    have h3 := misfit_any hX h1 h2
    simp only at h3
    rw [hm] at h3
    exact h3)
  have HREF : Hid (∀ X : World, Calls Try.prog 35 #[.int .i64 5, .agg #[.string u.g, .int .i64 u.f, .int .i64 u.t]] X (RefusedAt X (illOf 5 u))) := Lib.hid (fun X => refuse_any (illOf 5 u) X)
  have hmk := @run_makeMap Try.prog
  clear h hh hm hu hk hn ho hr hT hS hZ
  go_enter Try.func19, Try.ntmps19
  go_wp2_with (go_at_call 36; (with_reducible refine (HRS.out _).mono ?_); rintro e w0 ⟨rfl, rfl⟩)
  have hB0 : Below W.heap.size W (W.alloc (Obj.cells #[.string ⟨#[]⟩, .bool false, .bool false, .slice none 0 0, .slice none 0 0, .string ⟨#[]⟩, .int .i64 0, .int .i64 0] 38)) := (Below.refl _ _).alloc (Nat.le_refl _) _
  have hQ0 : (W.alloc (Obj.cells #[.string ⟨#[]⟩, .bool false, .bool false, .slice none 0 0, .slice none 0 0, .string ⟨#[]⟩, .int .i64 0, .int .i64 0] 38)).heap[W.heap.size]? = some zeroObj := heap_alloc_new W (Obj.cells #[.string ⟨#[]⟩, .bool false, .bool false, .slice none 0 0, .slice none 0 0, .string ⟨#[]⟩, .int .i64 0, .int .i64 0] 38)
  have hS0 : (W.alloc (Obj.cells #[.string ⟨#[]⟩, .bool false, .bool false, .slice none 0 0, .slice none 0 0, .string ⟨#[]⟩, .int .i64 0, .int .i64 0] 38)).heap.size = W.heap.size + 1 := by simp
  obtain ⟨w1, hw1⟩ : ∃ w1, W.alloc (Obj.cells #[.string ⟨#[]⟩, .bool false, .bool false, .slice none 0 0, .slice none 0 0, .string ⟨#[]⟩, .int .i64 0, .int .i64 0] 38) = w1 := ⟨_, rfl⟩
  obtain ⟨qb, hqb⟩ : ∃ qb, W.heap.size = qb := ⟨_, rfl⟩
  rw [hw1] at hB0 hQ0 hS0 ⊢
  have HQL : Hid (W.heap.size ≤ qb) := Lib.hid (by omega)
  rw [hqb] at hQ0 hS0 ⊢
  have HB0 := Lib.hid hB0
  have HQ0 := Lib.hid hQ0
  have HSQ : Hid (qb < w1.heap.size) := Lib.hid (by omega)
  have d1 := bcell hB0 c1 hg
  have d3 := bcell hB0 c3 hg
  have d4 := bcell hB0 c4 hg
  have d5 := bcell hB0 c5 hg
  have hg1 : g < w1.heap.size := Nat.lt_of_lt_of_le hg hB0.size
  have hg2 : g ≠ w1.heap.size := by omega
  have hg3 : w1.heap.size ≠ g := by omega
  have hg4 : g ≠ w1.heap.size + 1 := by omega
  have hg5 : w1.heap.size + 1 ≠ g := by omega
  have HTR1 := Lib.hid (HTR.out.over hB0)
  clear hw1 hqb hB0 hQ0 hS0 c0 c1 c2 c3 c4 c5 c6 c7
  go_region
  all_goals
    first
    | (change Exit.then _ _ _ _ (((w1.alloc (.map #[] 0)).alloc (rdObj (hm t.x false false [] t.g t.f t.t) (.slice none 0 0) (.slice none 0 0) (.slice (some ⟨g, o', none⟩) (n - 1) (cap - 1)) w1.heap.size)).drew)
       have HR2 := Lib.hid (start_map w1 t.x t.g t.f t.t HTR1.out HL5.out HS5.out HZ5.out)
       obtain ⟨w2, hw2⟩ : ∃ w2, (((w1.alloc (.map #[] 0)).alloc (rdObj (hm t.x false false [] t.g t.f t.t) (.slice none 0 0) (.slice none 0 0) (.slice (some ⟨g, o', none⟩) (n - 1) (cap - 1)) w1.heap.size)).drew) = w2 := ⟨_, rfl⟩
       rw [hw2] at HR2 ⊢
       obtain ⟨p, hpe⟩ : ∃ p, w1.heap.size + 1 = p := ⟨_, rfl⟩
       rw [hpe] at HR2 ⊢)
    | (change Exit.then _ _ _ _ (((w1.alloc (rdObj (hm t.x false false [] t.g t.f t.t) (.slice none 0 0) (.slice none 0 0) (.slice (some ⟨g, o', none⟩) (n - 1) (cap - 1)) (w1.heap.size + 1))).alloc (.map #[] 0)).drew)
       have HR2 := Lib.hid (start_rd w1 t.x t.g t.f t.t HTR1.out HL5.out HS5.out HZ5.out)
       obtain ⟨w2, hw2⟩ : ∃ w2, (((w1.alloc (rdObj (hm t.x false false [] t.g t.f t.t) (.slice none 0 0) (.slice none 0 0) (.slice (some ⟨g, o', none⟩) (n - 1) (cap - 1)) (w1.heap.size + 1))).alloc (.map #[] 0)).drew) = w2 := ⟨_, rfl⟩
       rw [hw2] at HR2 ⊢
       obtain ⟨p, hpe⟩ : ∃ p, w1.heap.size = p := ⟨_, rfl⟩
       rw [hpe] at HR2 ⊢)
    go_wp2_with (first
      | (go_at_call 37; (with_reducible refine (mhead_some HR2.out HH.out).mono ?_); rintro e w3 ⟨rfl, pv3, bv3, rv3, hd3⟩; have HZ3 : Hid (∀ u ∈ bareL q, u.x.size ≤ maxLen) := Lib.hid (fun u hu => (let ⟨v, hv, e, _⟩ := bare_in hu; e ▸ hd3.sht v hv)); have HL3 : Hid ((bareL q).length ≤ 1000000) := Lib.hid (by rw [bare_len]; have := hd3.fit; omega); have HR3 := Lib.hid hd3; clear hd3)
      | (go_at_call 38; (with_reducible refine (mbody_any HR3.out).mono ?_); rintro e w4 ⟨rfl, pv4, bv4, hb4⟩; have HR4 : Hid (Rb w1 p _ ⟨t.x, fn, va, ps, bareL q, t.g, t.f, t.t⟩ pv4 bv4 w4) := Lib.hid hb4; clear hb4)
      | (go_at_call 39; (with_reducible refine (HMIS.out _ _ _ _ _ _ HR4.out HZ3.out HL3.out).mono ?_); rintro e w5 ⟨rfl, hb5⟩; have hr5 := HR4.out.over hb5; have hd5 := hr5.1; (obtain ⟨ba, bn, bc, rfl⟩ := hr5.2.form); (obtain ⟨hbn, hbc1, hbc2⟩ := hr5.2.len); (unfold maxLen at hbc2); (obtain ⟨gu, ou, su, snu, scu, rfl, hgu, -, ⟨u0, u1, u2, u3, u4, u5, u6, u7⟩, -⟩ := hr5.2.get HU.out); (obtain ⟨-, -, -, -, k4, -⟩ := hd5.cells); (have hkn : (k : Int) < (bn : Int) := by have := (List.getElem?_eq_some_iff.1 HU.out).1; simp only at hbn; omega); (have hk0 : (0 : Int) ≤ (k : Int) := by omega); have HQ5 : Hid (w5.heap[qb]? = some zeroObj) := Lib.hid ((hd5.bel.block qb HSQ.out).trans HQ0.out); have HB5 : Hid (Below W.heap.size W w5) := Lib.hid (below_up HB0.out hd5.bel); have HSQ5 : Hid (qb < w5.heap.size) := Lib.hid (Nat.lt_of_lt_of_le HSQ.out hd5.bel.size); clear hr5 hd5 hbn hb5)
      | (go_at_call 35; (with_reducible refine (HREF.out _).mono ?_); rintro e w9 ⟨gb, rfl, hb9, hge, hlt, x0, x1, x2, x3⟩; have HZ9 := Lib.hid ((hb9.block qb (HSQ5.out)).trans (HQ5.out)); (obtain ⟨z0, z1, z2, z3, z4, z5, z6, z7, zf⟩ := zero_cells HZ9.out); have f0 := zf 0; have f1 := zf 1; have f2 := zf 2; have f3 := zf 3; have f4 := zf 4; have f5 := zf 5; have f6 := zf 6; have f7 := zf 7; have HF9 : Hid (RefW W qb gb (illOf 5 u) w9) := Lib.hid ⟨below_up (HB5.out) hb9, HQL.out, Nat.le_trans (HB5.out).size hge, Nat.ne_of_gt (Nat.lt_of_lt_of_le HSQ5.out hge), hlt, x0, x1, x2, x3⟩; clear hb9 hge hlt x0 x1 x2 x3 zf))
    obtain ⟨w10, hw10, y0, y1, y2, y3, y4, y5, y6, y7, HF10⟩ := ref_end HF9.out HZ9.out
    change bodyPost _ _ _ _ _ (sto8 w9 qb (.string ⟨#[]⟩) (.bool false) (.bool false) (.slice none 0 0) (.slice none 0 0) (.string ⟨#[]⟩) (.int .i64 0) (.int .i64 0))
    rw [hw10]
    exact bodyPost_ret (v := .tuple #[.agg #[.string ⟨#[]⟩, .bool false, .bool false, .slice none 0 0, .slice none 0 0, .string ⟨#[]⟩, .int .i64 0, .int .i64 0], .slice (some ⟨gb, 0, none⟩) 1 1]) (by simp [results, Try.results19, go_sem, y0, y1, y2, y3, y4, y5, y6, y7]) rfl HF10.out.end

set_option maxRecDepth 100000 in
set_option maxHeartbeats 6400000 in
theorem parse_good_any {t : Xt} {r : List Xt} {a : Option Addr} {n cap : Nat} {W : World} (h : ToksX (t :: r) (.slice a n cap) W) (hT : (t :: r).length ≤ 500000) (hS : ∀ u ∈ t :: r, u.ss.length ≤ 500000) (hZ : ∀ u ∈ t :: r, u.x.size ≤ maxLen) (hk : t.k = 1) (hr : resB t.x = false) {fn va : Bool} {ps : List ByteArray} {q : List Xt} (hh : headL r = some (fn, va, ps, q)) (hm : misL fn va ps (bareL q) (bareL q).length 0 = none) : Calls Try.prog 19 #[.slice a n cap] W (ParseAt W (.inl ⟨t.x, fn, va, ps, bareL q, t.g, t.f, t.t⟩)) := by
  obtain ⟨hn, hc1, hc2⟩ := h.len
  simp only [List.length_cons] at hn
  unfold maxLen at hc2
  obtain ⟨g, o, sa, sn, sc, rfl, hg, -, hx, -⟩ := h.get (k := 0) (t := t) rfl
  rw [Nat.zero_mul, Nat.add_zero] at hx
  obtain ⟨o', ho, hrun⟩ := slice1_run g o n cap (by omega) hc1
  have HTR := Lib.hid (drop1_toks h ho)
  obtain ⟨c0, c1, c2, c3, c4, c5, c6, c7⟩ := hx
  have hne : ((n : Int) == 0) = false := by simp; omega
  have hn0 : (0 : Int) < (n : Int) := by omega
  have HG := Lib.hid hg
  have hk' : (t.k != 1) = false := by simp [hk]
  have HRS : Hid (∀ X : World, Calls Try.prog 36 #[.string t.x] X fun e w' => e = .returned (.bool false) ∧ X = w') := Lib.hid (fun X => hr ▸ reserved_any t.x X)
  have HL5 : Hid (r.length ≤ 500000) := Lib.hid (by simp only [List.length_cons] at hT; omega)
  have HS5 : Hid (∀ u ∈ r, u.ss.length ≤ 500000) := Lib.hid (fun u hu => hS u (List.mem_cons_of_mem _ hu))
  have HZ5 : Hid (∀ u ∈ r, u.x.size ≤ maxLen) := Lib.hid (fun u hu => hZ u (List.mem_cons_of_mem _ hu))
  have HH := Lib.hid hh
  have HMIS : Hid (∀ (p mb : Nat) (pv bv : Value) (W1 X : World), Rb W1 p mb ⟨t.x, fn, va, ps, bareL q, t.g, t.f, t.t⟩ pv bv X → (∀ u ∈ bareL q, u.x.size ≤ maxLen) → (bareL q).length ≤ 1000000 → Calls Try.prog 39 #[.pointer (some ⟨p, 0, none⟩)] X (IntNew (-1) X)) := Lib.hid (fun p mb pv bv W1 X hX h1 h2 => by
    have h3 := misfit_any hX h1 h2
    simp only at h3
    rw [hm] at h3
    exact h3)
  have hmk := @run_makeMap Try.prog
  clear h hh hm hk hn ho hr hT hS hZ
  go_enter Try.func19, Try.ntmps19
  go_wp2_with (go_at_call 36; (with_reducible refine (HRS.out _).mono ?_); rintro e w0 ⟨rfl, rfl⟩)
  have hB0 : Below W.heap.size W (W.alloc (Obj.cells #[.string ⟨#[]⟩, .bool false, .bool false, .slice none 0 0, .slice none 0 0, .string ⟨#[]⟩, .int .i64 0, .int .i64 0] 38)) := (Below.refl _ _).alloc (Nat.le_refl _) _
  have hQ0 : (W.alloc (Obj.cells #[.string ⟨#[]⟩, .bool false, .bool false, .slice none 0 0, .slice none 0 0, .string ⟨#[]⟩, .int .i64 0, .int .i64 0] 38)).heap[W.heap.size]? = some zeroObj := heap_alloc_new W (Obj.cells #[.string ⟨#[]⟩, .bool false, .bool false, .slice none 0 0, .slice none 0 0, .string ⟨#[]⟩, .int .i64 0, .int .i64 0] 38)
  have hS0 : (W.alloc (Obj.cells #[.string ⟨#[]⟩, .bool false, .bool false, .slice none 0 0, .slice none 0 0, .string ⟨#[]⟩, .int .i64 0, .int .i64 0] 38)).heap.size = W.heap.size + 1 := by simp
  obtain ⟨w1, hw1⟩ : ∃ w1, W.alloc (Obj.cells #[.string ⟨#[]⟩, .bool false, .bool false, .slice none 0 0, .slice none 0 0, .string ⟨#[]⟩, .int .i64 0, .int .i64 0] 38) = w1 := ⟨_, rfl⟩
  obtain ⟨qb, hqb⟩ : ∃ qb, W.heap.size = qb := ⟨_, rfl⟩
  rw [hw1] at hB0 hQ0 hS0 ⊢
  have HQL : Hid (W.heap.size ≤ qb) := Lib.hid (by omega)
  rw [hqb] at hQ0 hS0 ⊢
  have HB0 := Lib.hid hB0
  have HQ0 := Lib.hid hQ0
  have HSQ : Hid (qb < w1.heap.size) := Lib.hid (by omega)
  have d1 := bcell hB0 c1 hg
  have d3 := bcell hB0 c3 hg
  have d4 := bcell hB0 c4 hg
  have d5 := bcell hB0 c5 hg
  have hg1 : g < w1.heap.size := Nat.lt_of_lt_of_le hg hB0.size
  have hg2 : g ≠ w1.heap.size := by omega
  have hg3 : w1.heap.size ≠ g := by omega
  have hg4 : g ≠ w1.heap.size + 1 := by omega
  have hg5 : w1.heap.size + 1 ≠ g := by omega
  have HTR1 := Lib.hid (HTR.out.over hB0)
  clear hw1 hqb hB0 hQ0 hS0 c0 c1 c2 c3 c4 c5 c6 c7
  go_region
  all_goals
    first
    | (change Exit.then _ _ _ _ (((w1.alloc (.map #[] 0)).alloc (rdObj (hm t.x false false [] t.g t.f t.t) (.slice none 0 0) (.slice none 0 0) (.slice (some ⟨g, o', none⟩) (n - 1) (cap - 1)) w1.heap.size)).drew)
       have HR2 := Lib.hid (start_map w1 t.x t.g t.f t.t HTR1.out HL5.out HS5.out HZ5.out)
       obtain ⟨w2, hw2⟩ : ∃ w2, (((w1.alloc (.map #[] 0)).alloc (rdObj (hm t.x false false [] t.g t.f t.t) (.slice none 0 0) (.slice none 0 0) (.slice (some ⟨g, o', none⟩) (n - 1) (cap - 1)) w1.heap.size)).drew) = w2 := ⟨_, rfl⟩
       rw [hw2] at HR2 ⊢
       obtain ⟨p, hpe⟩ : ∃ p, w1.heap.size + 1 = p := ⟨_, rfl⟩
       rw [hpe] at HR2 ⊢)
    | (change Exit.then _ _ _ _ (((w1.alloc (rdObj (hm t.x false false [] t.g t.f t.t) (.slice none 0 0) (.slice none 0 0) (.slice (some ⟨g, o', none⟩) (n - 1) (cap - 1)) (w1.heap.size + 1))).alloc (.map #[] 0)).drew)
       have HR2 := Lib.hid (start_rd w1 t.x t.g t.f t.t HTR1.out HL5.out HS5.out HZ5.out)
       obtain ⟨w2, hw2⟩ : ∃ w2, (((w1.alloc (rdObj (hm t.x false false [] t.g t.f t.t) (.slice none 0 0) (.slice none 0 0) (.slice (some ⟨g, o', none⟩) (n - 1) (cap - 1)) (w1.heap.size + 1))).alloc (.map #[] 0)).drew) = w2 := ⟨_, rfl⟩
       rw [hw2] at HR2 ⊢
       obtain ⟨p, hpe⟩ : ∃ p, w1.heap.size = p := ⟨_, rfl⟩
       rw [hpe] at HR2 ⊢)
    go_wp2_with (first
      | (go_at_call 37; (with_reducible refine (mhead_some HR2.out HH.out).mono ?_); rintro e w3 ⟨rfl, pv3, bv3, rv3, hd3⟩; have HZ3 : Hid (∀ u ∈ bareL q, u.x.size ≤ maxLen) := Lib.hid (fun u hu => (let ⟨v, hv, e, _⟩ := bare_in hu; e ▸ hd3.sht v hv)); have HL3 : Hid ((bareL q).length ≤ 1000000) := Lib.hid (by rw [bare_len]; have := hd3.fit; omega); have HR3 := Lib.hid hd3; clear hd3)
      | (go_at_call 38; (with_reducible refine (mbody_any HR3.out).mono ?_); rintro e w4 ⟨rfl, pv4, bv4, hb4⟩; have HR4 : Hid (Rb w1 p _ ⟨t.x, fn, va, ps, bareL q, t.g, t.f, t.t⟩ pv4 bv4 w4) := Lib.hid hb4; clear hb4)
      | (go_at_call 39; (with_reducible refine (HMIS.out _ _ _ _ _ _ HR4.out HZ3.out HL3.out).mono ?_); rintro e w5 ⟨rfl, hb5⟩; have hr5 := HR4.out.over hb5; (obtain ⟨pa, pc, rfl, -, -, -⟩ := row_form hr5.1.par); (obtain ⟨ba, bn, bc, rfl⟩ := hr5.2.form); have hd5 := hr5.1; (obtain ⟨k0, k1, k2, k3, k4, k5, k6, k7, k8, k9⟩ := hd5.cells); (simp only at k0 k1 k2 k5 k6 k7); have HQ5 : Hid (w5.heap[qb]? = some zeroObj) := Lib.hid ((hd5.bel.block qb HSQ.out).trans HQ0.out); have HB5 : Hid (Below W.heap.size W w5) := Lib.hid (below_up HB0.out hd5.bel); have HSQ5 : Hid (qb < w5.heap.size) := Lib.hid (Nat.lt_of_lt_of_le HSQ.out hd5.bel.size); (obtain ⟨z0, z1, z2, z3, z4, z5, z6, z7, zf⟩ := zero_cells HQ5.out); have f0 := zf 0; have f1 := zf 1; have f2 := zf 2; have f3 := zf 3; have f4 := zf 4; have f5 := zf 5; have f6 := zf 6; have f7 := zf 7; have HR5 := Lib.hid hr5; clear hr5 hd5 hb5 zf))
    obtain ⟨w10, hw10, y0, y1, y2, y3, y4, y5, y6, y7, HF10⟩ := good_end HR5.out HB0.out HQL.out HQ0.out HSQ.out
    simp only at hw10 y0 y1 y2 y3 y4 y5 y6 y7
    change bodyPost _ _ _ _ _ (sto8 w5 qb (.string t.x) (.bool fn) (.bool va) (.slice pa ps.length pc) (.slice ba bn bc) (.string t.g) (.int .i64 t.f) (.int .i64 t.t))
    rw [hw10]
    exact bodyPost_ret (v := .tuple #[.agg #[.string t.x, .bool fn, .bool va, (.slice pa ps.length pc), (.slice ba bn bc), .string t.g, .int .i64 t.f, .int .i64 t.t], .slice none 0 0]) (by simp [results, Try.results19, go_sem, y0, y1, y2, y3, y4, y5, y6, y7]) rfl ⟨(.slice pa ps.length pc), (.slice ba bn bc), rfl, HF10.out.1, HF10.out.2⟩

/-- **Parse**: what it answers. -/
theorem parse_any {T : List Xt} {v : Value} {W : World} (h : ToksX T v W) (hT : T.length ≤ 500000) (hS : ∀ u ∈ T, u.ss.length ≤ 500000) (hZ : ∀ u ∈ T, u.x.size ≤ maxLen) : Calls Try.prog 19 #[v] W (ParseAt W (parseL T)) := by
  obtain ⟨a, n, cap, rfl⟩ := h.form
  match T, h, hT, hS, hZ with
  | [], h, _, _, _ =>
    obtain rfl : n = 0 := h.len.1
    exact parse_nil a cap W
  | t :: r, h, hT, hS, hZ =>
    by_cases hk : t.k = 1
    · cases hr : resB t.x with
      | true =>
        rw [parse_res hk hr]
        exact parse_res_any h hk hr
      | false =>
        rw [parse_go hk hr]
        cases hh : headL r with
        | none => exact parse_none_any h hT hS hZ hk hr hh
        | some x =>
          obtain ⟨fn, va, ps, q⟩ := x
          simp only
          rcases misL_is (fn := fn) (va := va) (ps := ps) (T := bareL q) (bareL q).length 0 (by omega) with ⟨hm, -⟩ | ⟨k, u, -, hu, hm, -⟩
          · rw [hm]
            exact parse_good_any h hT hS hZ hk hr hh hm
          · rw [hm]
            simp only [hu]
            exact parse_mis_any h hT hS hZ hk hr hh hm hu
    · rw [parse_kind hk]
      exact parse_kind_any h hk

end Go.Proofs.Ytmghocfkekggaaa
