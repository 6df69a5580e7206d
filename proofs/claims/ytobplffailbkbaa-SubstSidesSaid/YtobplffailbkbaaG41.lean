/-
  Texts of the proof, put together: SuRs.
-/
import Derived.Test.YtobplffailbkbaaG22
import Derived.Test.YtobplffailbkbaaG23
import Derived.Test.YtobplffailbkbaaG24
import Derived.Test.YtobplffailbkbaaG40

/-
  A definition of a function, read: the document's Parse, walked where all is well.
-/
namespace Go.Proofs.Ytobplffailbkbaa
open Go.RowKit Go.Maps

theorem mis_good {fn va : Bool} {ps : List ByteArray} {T : List Xt} : ∀ (n i : Nat), T.length ≤ n + i → misL fn va ps T n i = none → ∀ j t, i ≤ j → T[j]? = some t → illX fn va ps T j t = false
  | 0, i, hl, _, j, t, hj, ht => by
    have := (List.getElem?_eq_some_iff.1 ht).1
    omega
  | n + 1, i, hl, h, j, t, hj, ht => by
    unfold misL at h
    cases hi : T[i]? with
    | none =>
      have := (List.getElem?_eq_some_iff.1 ht).1
      rw [List.getElem?_eq_none_iff] at hi
      omega
    | some u =>
      rw [hi] at h
      simp only at h
      cases hx : illX fn va ps T i u with
      | true =>
        rw [hx] at h
        simp at h
      | false =>
        rw [hx] at h
        simp only [Bool.false_eq_true, if_false] at h
        rcases Nat.eq_or_lt_of_le hj with rfl | hlt
        · rw [hi] at ht
          cases ht
          exact hx
        · exact mis_good n (i + 1) (by omega) h j t hlt ht
/-- What is known of a definition of a function with parameters that is one. -/
structure Fd (T : List Xt) (m : Xm) (t u : Xt) (r q : List Xt) : Prop where
  lay : T = t :: u :: r
  tk : t.k = 1
  res : resB t.x = false
  sp : u.sp = false
  opn : isX u oB = true
  shut : ∀ v, r[0]? = some v → isX v cB = false
  row : rowL [] r = some (false, m.ps, q)
  mac : m = ⟨t.x, true, false, m.ps, bareL q, t.g, t.f, t.t⟩
  good : ∀ i v, (bareL q)[i]? = some v → illX true false m.ps (bareL q) i v = false
theorem parse_fd {T : List Xt} {m : Xm} (h : parseL T = .inl m) (hf : m.fn = true) (hv : m.va = false) (hp : m.ps ≠ []) : ∃ t u r q, Fd T m t u r q := by
  unfold parseL at h
  match T, h with
  | [], h => cases h
  | t :: R, h =>
    simp only at h
    split at h
    · cases h
    · rename_i hk
      split at h
      · cases h
      · rename_i hr
        cases hh : headL R with
        | none =>
          rw [hh] at h
          cases h
        | some x =>
          obtain ⟨fn, va, ps, q⟩ := x
          rw [hh] at h
          simp only at h
          cases hm : misL fn va ps (bareL q) (bareL q).length 0 with
          | some i =>
            rw [hm] at h
            simp only at h
            split at h <;> cases h
          | none =>
            rw [hm] at h
            simp only [Sum.inl.injEq] at h
            subst h
            simp only at hf hv hp
            subst hf hv
            unfold headL at hh
            match R, hh with
            | [], hh => simp at hh
            | u :: r, hh =>
              simp only at hh
              split at hh
              · rename_i hc
                obtain ⟨hsp, hop⟩ := hc
                match r, hh with
                | [], hh => cases hh
                | v :: z, hh =>
                  simp only at hh
                  split at hh
                  · simp only [Option.some.injEq, Prod.mk.injEq, true_and] at hh
                    exact absurd hh.1.symm hp
                  · rename_i hcb
                    rw [Option.map_eq_some_iff] at hh
                    obtain ⟨⟨va, ps', q'⟩, hrow, he⟩ := hh
                    simp only [Prod.mk.injEq, true_and] at he
                    obtain ⟨rfl, rfl, rfl⟩ := he
                    refine ⟨t, u, v :: z, q', rfl, by simpa using hk, by simpa using hr, hsp, hop, fun w hw => ?_, hrow, rfl, fun i w hw => mis_good _ 0 (by omega) hm i w (Nat.zero_le _) hw⟩
                    simp only [List.getElem?_cons_zero, Option.some.injEq] at hw
                    subst hw
                    simpa using hcb
              · simp at hh

/-- Behind two tokens. -/
theorem ToksX.two {t u : Xt} {r : List Xt} {g o n cap : Nat} {w : World} (h : ToksX (t :: u :: r) (.slice (some ⟨g, o, none⟩) n cap) w) : ToksX r (.slice (some ⟨g, o + 8 + 8, none⟩) (n - 1 - 1) (cap - 1 - 1)) w := by
  have h1 := h.tail
  have h2 := h1.tail
  have hl := h.len.1
  simp only [List.length_cons] at hl
  rw [show n - 1 - 1 = r.length from by omega]
  exact h2
structure Pz (W : World) (b4 : Nat) (t : Xt) (fn va : Bool) (pv bv : Value) (w : World) : Prop where
  res : w.heap[W.heap.size]? = some (.cells #[.string ⟨#[]⟩, .bool false, .bool false, .slice none 0 0, .slice none 0 0, .string ⟨#[]⟩, .int .i64 0, .int .i64 0] 38 (0, 0))
  box : w.heap[b4]? = some (.cells #[.string t.x, .bool fn, .bool va, pv, bv, .string t.g, .int .i64 t.f, .int .i64 t.t] 38 (0, 0))
  low : Below W.heap.size W w
  ne : W.heap.size < b4
theorem Pz.over {W : World} {b4 : Nat} {t : Xt} {fn va : Bool} {pv bv : Value} {w w' : World} (h : Pz W b4 t fn va pv bv w) (b : Below w.heap.size w w') : Pz W b4 t fn va pv bv w' :=
  ⟨(b.block _ (row_lt h.res)).trans h.res, (b.block _ (row_lt h.box)).trans h.box, below_up h.low b, h.ne⟩
theorem Pz.cells {W : World} {b4 : Nat} {t : Xt} {fn va : Bool} {pv bv : Value} {w : World} (h : Pz W b4 t fn va pv bv w) : (w.cell? ⟨b4, 0, none⟩ = some (.string t.x) ∧ w.cell? ⟨b4, 1, none⟩ = some (.bool fn) ∧ w.cell? ⟨b4, 2, none⟩ = some (.bool va) ∧ w.cell? ⟨b4, 3, none⟩ = some pv ∧ w.cell? ⟨b4, 4, none⟩ = some bv ∧ w.cell? ⟨b4, 5, none⟩ = some (.string t.g) ∧ w.cell? ⟨b4, 6, none⟩ = some (.int .i64 t.f) ∧ w.cell? ⟨b4, 7, none⟩ = some (.int .i64 t.t)) ∧ ∀ j, w.frozen? ⟨b4, j, none⟩ = false := ⟨cells8 h.box, fun _ => Lib.frozen_of_heap h.box _⟩
theorem Pz.setb {W : World} {b4 : Nat} {t : Xt} {fn va : Bool} {pv bv : Value} {w : World} (h : Pz W b4 t fn va pv bv w) (bv' : Value) : Pz W b4 t fn va pv bv' (w.setCell ⟨b4, 4, none⟩ bv') :=
  ⟨(heap_setCell_other _ _ _ _ (Nat.ne_of_lt h.ne)).trans h.res, (heap_setCell_same _ _ 4 _ _ _ h.box).trans rfl, h.low.setCell (p := ⟨b4, 4, none⟩) (Nat.le_of_lt h.ne) _, h.ne⟩
theorem Pz.set3 {W : World} {b4 : Nat} {t : Xt} {fn va : Bool} {pv bv : Value} {w : World} (h : Pz W b4 t fn va pv bv w) (pv' : Value) : Pz W b4 t true false pv' bv (((w.setCell ⟨b4, 1, none⟩ (.bool true)).setCell ⟨b4, 2, none⟩ (.bool false)).setCell ⟨b4, 3, none⟩ pv') := by
  have h1 := (heap_setCell_same _ _ 1 _ _ (.bool true) h.box).trans rfl
  have h2 := (heap_setCell_same _ _ 2 _ _ (.bool false) h1).trans rfl
  have h3 := (heap_setCell_same _ _ 3 _ _ pv' h2).trans rfl
  have ne := Nat.ne_of_lt h.ne
  exact ⟨(heap_setCell_other _ _ _ _ ne).trans ((heap_setCell_other _ _ _ _ ne).trans ((heap_setCell_other _ _ _ _ ne).trans h.res)), h3, ((h.low.setCell (p := ⟨b4, 1, none⟩) (Nat.le_of_lt h.ne) _).setCell (p := ⟨b4, 2, none⟩) (Nat.le_of_lt h.ne) _).setCell (p := ⟨b4, 3, none⟩) (Nat.le_of_lt h.ne) _, h.ne⟩
theorem ToksX.dropN {T : List Xt} {g o n c : Nat} {w : World} (h : ToksX T (.slice (some ⟨g, o, none⟩) n c) w) (k : Nat) (hk : k ≤ T.length) : ToksX (T.drop k) (.slice (some ⟨g, o + k * 8, none⟩) (n - k) (c - k)) w := by
  obtain ⟨a', c', hv, h1, h2, h3⟩ := h
  simp only [Value.slice.injEq] at hv
  obtain ⟨rfl, rfl, rfl⟩ := hv
  refine ⟨_, _, by rw [List.length_drop], by rw [List.length_drop]; omega, by omega, fun j u hj => ?_⟩
  rw [List.getElem?_drop] at hj
  obtain ⟨g', o', he, hg, sv, ht, hs⟩ := h3 (k + j) u hj
  simp only [Option.some.injEq, Addr.mk.injEq, and_true] at he
  obtain ⟨rfl, rfl⟩ := he
  refine ⟨g, o + k * 8, rfl, hg, sv, ?_, hs⟩
  rw [show o + k * 8 + j * 8 = o + (k + j) * 8 from by omega]
  exact ht
theorem read_rest {r q : List Xt} {g o n cap k : Nat} {W : World} (h : ToksX r (.slice (some ⟨g, o + 8 + 8, none⟩) (n - 1 - 1) (cap - 1 - 1)) W) (hq : q = r.drop k) (hk : k ≤ r.length) : ToksX q (.slice (some ⟨g, o + 8 + (1 + k) * 8, none⟩) (n - 1 - (1 + k)) (cap - 1 - (1 + k))) W := by
  have h1 := h.dropN k hk
  rw [← hq, show o + 8 + 8 + k * 8 = o + 8 + (1 + k) * 8 from by omega, show n - 1 - 1 - k = n - 1 - (1 + k) from by omega, show cap - 1 - 1 - k = cap - 1 - (1 + k) from by omega] at h1
  exact h1
theorem up_empty3 (w : World) (b4 : Nat) (v1 v2 v3 : Value) : Up (((w.setCell ⟨b4, 1, none⟩ v1).setCell ⟨b4, 2, none⟩ v2).setCell ⟨b4, 3, none⟩ v3) 26 8 (.slice (some ⟨w.heap.size, 0, none⟩) 0 0) 0 [] ((((w.setCell ⟨b4, 1, none⟩ v1).setCell ⟨b4, 2, none⟩ v2).setCell ⟨b4, 3, none⟩ v3).alloc (.cells #[] 26)) := by
  have h := up_empty (((w.setCell ⟨b4, 1, none⟩ v1).setCell ⟨b4, 2, none⟩ v2).setCell ⟨b4, 3, none⟩ v3) 26 8
  rw [show (((w.setCell ⟨b4, 1, none⟩ v1).setCell ⟨b4, 2, none⟩ v2).setCell ⟨b4, 3, none⟩ v3).heap.size = w.heap.size from by simp [World.setCell]] at h
  exact h
theorem strs_kept {w3 w4 w8 : World} {b4 g8 : Nat} {v1 v2 v3 v4 v5 : Value} {pa : Option Addr} {pn pc : Nat} {S : List ByteArray} (hu : Up w3 9 1 (.slice pa pn pc) pn (S.map Value.string) w4) (hb : b4 < w3.heap.size) (h8 : Below (((w4.setCell ⟨b4, 1, none⟩ v1).setCell ⟨b4, 2, none⟩ v2).setCell ⟨b4, 3, none⟩ v3).heap.size (((w4.setCell ⟨b4, 1, none⟩ v1).setCell ⟨b4, 2, none⟩ v2).setCell ⟨b4, 3, none⟩ v3) w8) (hg : (((w4.setCell ⟨b4, 1, none⟩ v1).setCell ⟨b4, 2, none⟩ v2).setCell ⟨b4, 3, none⟩ v3).heap.size ≤ g8) :
    StrsV S (.slice pa pn pc) ((w8.setCell ⟨b4, 4, none⟩ v4).setCell ⟨g8, 2, none⟩ v5) := by
  have hsz : (((w4.setCell ⟨b4, 1, none⟩ v1).setCell ⟨b4, 2, none⟩ v2).setCell ⟨b4, 3, none⟩ v3).heap.size = w4.heap.size := by simp [World.setCell]
  have ho : ((w8.setCell ⟨b4, 4, none⟩ v4).setCell ⟨g8, 2, none⟩ v5).ownsRow w3.heap.size 9 1 (.slice pa pn pc) pn (S.map Value.string) := own_same hu.1 fun g hgg => by
    have hl := World.ownsRow.lt hu.1 g hgg
    have n1 : g ≠ b4 := by omega
    have n2 : g ≠ g8 := by omega
    exact (heap_setCell_other _ _ _ _ n2).trans ((heap_setCell_other _ _ _ _ n1).trans ((h8.block g (by omega)).trans ((heap_setCell_other _ _ _ _ n1).trans ((heap_setCell_other _ _ _ _ n1).trans (heap_setCell_other _ _ _ _ n1)))))
  have hn : pn = S.length := by
    have := ho.1
    rw [List.length_map] at this
    omega
  subst hn
  exact strsV_row ho
/-- A body that was copied, its first one's space taken. -/
theorem body_copied {W w5 w8 : World} {b4 : Nat} {t : Xt} {pv : Value} {P : List (Xt × Value)} {a8 : Option Addr} {m c8 : Nat} (hz : Pz W b4 t true false pv (.slice none 0 0) w5) (hs : ∀ p ∈ P, SitsA p.1.ss p.2 W) (hu : Up w5 26 8 (.slice a8 m c8) m (xcells P) w8) (hP : P ≠ []) :
    ∃ g8, a8 = some ⟨g8, 0, none⟩ ∧ m ≤ c8 ∧ c8 ≤ maxLen ∧ Pz W b4 t true false pv (.slice none 0 0) w8 ∧ w5.heap.size ≤ g8 ∧ (∃ sp, (w8.setCell ⟨b4, 4, none⟩ (.slice a8 m c8)).cell? ⟨g8, 2, none⟩ = some (.bool sp)) ∧ (w8.setCell ⟨b4, 4, none⟩ (.slice a8 m c8)).frozen? ⟨g8, 2, none⟩ = false ∧ b4 ≠ g8 ∧ (w8.setCell ⟨b4, 4, none⟩ (.slice a8 m c8)).cell? ⟨b4, 4, none⟩ = some (.slice a8 m c8) ∧
      Pz W b4 t true false pv (.slice a8 m c8) ((w8.setCell ⟨b4, 4, none⟩ (.slice a8 m c8)).setCell ⟨g8, 2, none⟩ (.bool false)) ∧ ToksX (bareL (P.map Prod.fst)) (.slice a8 m c8) ((w8.setCell ⟨b4, 4, none⟩ (.slice a8 m c8)).setCell ⟨g8, 2, none⟩ (.bool false)) := by
  match P, hP with
  | (t1, s1) :: P', _ =>
    obtain ⟨a', cap, hv, h1, h2, h3⟩ := row_form hu.1
    simp only [Value.slice.injEq, true_and] at hv
    obtain ⟨rfl, rfl⟩ := hv
    obtain ⟨g8, rfl, hlt, hc⟩ := h3 2 (.bool t1.sp) rfl
    have hz8 := hz.over hu.2
    have hg := World.ownsRow.lt hu.1 g8 rfl
    have hb5 := row_lt hz.box
    have hr5 := row_lt hz.res
    have hls := hz.low.size
    obtain ⟨hgl, hgu⟩ := hg
    have hne : b4 ≠ g8 := by omega
    have hne2 : g8 ≠ b4 := by omega
    have hne3 : W.heap.size ≠ g8 := by omega
    have ho1 := own_same hu.1 (w' := w8.setCell ⟨b4, 4, none⟩ (.slice (some ⟨g8, 0, none⟩) m c8)) fun g hgg => heap_setCell_other _ _ _ _ (by
      simp only [Value.ownBlock, Option.some.injEq] at hgg
      rw [← hgg]
      exact hne2)
    have hz9 := hz8.setb (.slice (some ⟨g8, 0, none⟩) m c8)
    have ho2 := own_setX ho1 2 (.bool false)
    rw [xcells_set2] at ho2
    have hcell : (w8.setCell ⟨b4, 4, none⟩ (.slice (some ⟨g8, 0, none⟩) m c8)).cell? ⟨g8, 2, none⟩ = some (.bool t1.sp) := (World.cell?_of_block (heap_setCell_other _ _ _ _ (Ne.symm hne))).trans hc
    have hz10 : Pz W b4 t true false pv (.slice (some ⟨g8, 0, none⟩) m c8) ((w8.setCell ⟨b4, 4, none⟩ (.slice (some ⟨g8, 0, none⟩) m c8)).setCell ⟨g8, 2, none⟩ (.bool false)) := ⟨(heap_setCell_other _ _ _ _ hne3).trans hz9.res, (heap_setCell_other _ _ _ _ hne).trans hz9.box, hz9.low.setCell (p := ⟨g8, 2, none⟩) (Nat.le_trans hls hgl) _, hz9.ne⟩
    refine ⟨g8, rfl, h1, h2, hz8, hgl, ⟨_, hcell⟩, own_freeX ho1 2, hne, hz9.cells.1.2.2.2.2.1, hz10, ?_⟩
    exact (toks_row ho2 fun p hp => by
      rcases List.mem_cons.1 hp with rfl | hp
      · exact (hs (t1, s1) List.mem_cons_self).over hz10.low
      · exact (hs p (List.mem_cons_of_mem _ hp)).over hz10.low).2
theorem bareL_len : ∀ q : List Xt, (bareL q).length = q.length
  | [] => rfl
  | _ :: _ => rfl
theorem row_drop {q : List Xt} {ps : List ByteArray} : ∀ {out : List ByteArray} {T : List Xt}, rowL out T = some (false, ps, q) → ∃ k, q = T.drop k
  | _, [], h => by cases h
  | _, [_], h => by cases h
  | out, t0 :: u0 :: T, h => by
    obtain ⟨_, _, -, -, -, -, -, -, hw⟩ := row_turn (T := t0 :: u0 :: T) (i := 0) h
    rcases hw with ⟨-, -, hR⟩ | ⟨-, -, hn⟩
    · exact ⟨2, hR⟩
    · have e : (t0 :: u0 :: T).drop (0 + 2) = T := rfl
      rw [e] at hn
      obtain ⟨k, hk⟩ := row_drop hn
      exact ⟨k + 2, by rw [hk]; rfl⟩
theorem pz_start (W : World) (t : Xt) : Pz W (W.heap.size + 1) t false false (.slice none 0 0) (.slice none 0 0) ((W.alloc (.cells #[.string ⟨#[]⟩, .bool false, .bool false, .slice none 0 0, .slice none 0 0, .string ⟨#[]⟩, .int .i64 0, .int .i64 0] 38)).alloc (.cells #[.string t.x, .bool false, .bool false, .slice none 0 0, .slice none 0 0, .string t.g, .int .i64 t.f, .int .i64 t.t] 38)).drew :=
  ⟨blk_new1 W _ _, blk_new2 W _ _, ((((Below.refl _ _).alloc (Nat.le_refl _) _).alloc (by simp) _)).drew, Nat.lt_succ_self _⟩
/-- A macro's box with nothing in its rows: no site and no token lies in it. -/
theorem site_offT {s : Xs} {g o : Nat} {w : World} {q : Nat} {T : TypeId} {z : Nat × Nat} (h : SitA s g o w) (hq : w.heap[q]? = some (.cells #[.string ⟨#[]⟩, .bool false, .bool false, .slice none 0 0, .slice none 0 0, .string ⟨#[]⟩, .int .i64 0, .int .i64 0] T z)) : g ≠ q := by
  rintro rfl
  obtain ⟨c0, c1, -⟩ := h
  rw [Lib.cell_of_heap hq] at c0 c1
  match o with
  | 0 => simp at c1
  | 1 => simp at c0
  | 2 => simp at c0
  | 3 => simp at c0
  | 4 => simp at c0
  | 5 => simp at c1
  | 6 => simp at c0
  | 7 => simp at c0
  | o + 8 => simp at c0
theorem tok_offT {t : Xt} {sv : Value} {g o : Nat} {w : World} {q : Nat} {T : TypeId} {z : Nat × Nat} (h : TokX t sv g o w) (hq : w.heap[q]? = some (.cells #[.string ⟨#[]⟩, .bool false, .bool false, .slice none 0 0, .slice none 0 0, .string ⟨#[]⟩, .int .i64 0, .int .i64 0] T z)) : g ≠ q := by
  rintro rfl
  obtain ⟨c0, c1, -⟩ := h
  rw [Lib.cell_of_heap hq] at c0 c1
  match o with
  | 0 => simp at c0
  | 1 => simp at c0
  | 2 => simp at c0
  | 3 => simp at c0
  | 4 => simp at c0
  | 5 => simp at c0
  | 6 => simp at c1
  | 7 => simp at c1
  | o + 8 => simp at c0
theorem ToksX.offT {L : List Xt} {v : Value} {w w' : World} {q : Nat} {T : TypeId} {z : Nat × Nat} (h : ToksX L v w) (hq : w.heap[q]? = some (.cells #[.string ⟨#[]⟩, .bool false, .bool false, .slice none 0 0, .slice none 0 0, .string ⟨#[]⟩, .int .i64 0, .int .i64 0] T z)) (hs : w'.heap.size = w.heap.size) (hf : ∀ g, g ≠ q → w'.heap[g]? = w.heap[g]?) : ToksX L v w' := by
  obtain ⟨a, cap, hv, h1, h2, h3⟩ := h
  refine ⟨a, cap, hv, h1, h2, fun k t hk => ?_⟩
  obtain ⟨g, o, ha, hg, sv, hc, hss⟩ := h3 k t hk
  have hb := hf g (tok_offT hc hq)
  obtain ⟨c0, c1, c2, c3, c4, c5, c6, c7⟩ := hc
  refine ⟨g, o, ha, by rw [hs]; exact hg, sv, ⟨(World.cell?_of_block hb).trans c0, (World.cell?_of_block hb).trans c1, (World.cell?_of_block hb).trans c2, (World.cell?_of_block hb).trans c3, (World.cell?_of_block hb).trans c4, (World.cell?_of_block hb).trans c5, (World.cell?_of_block hb).trans c6, (World.cell?_of_block hb).trans c7⟩, ?_⟩
  obtain ⟨a, cap, hv, h1, h2, h3⟩ := hss
  refine ⟨a, cap, hv, h1, h2, fun k s hk => ?_⟩
  obtain ⟨g, o, ha, hg, hc⟩ := h3 k s hk
  have hb := hf g (site_offT hc hq)
  obtain ⟨c0, c1, c2, c3, c4⟩ := hc
  exact ⟨g, o, ha, by rw [hs]; exact hg, (World.cell?_of_block hb).trans c0, (World.cell?_of_block hb).trans c1, (World.cell?_of_block hb).trans c2, (World.cell?_of_block hb).trans c3, (World.cell?_of_block hb).trans c4⟩
theorem StrsV.offq {S : List ByteArray} {a : Option Addr} {n c : Nat} {w w' : World} {q : Nat} (h : StrsV S (.slice a n c) w) (hq : ∀ g o, a = some ⟨g, o, none⟩ → g ≠ q) (hs : w'.heap.size = w.heap.size) (hf : ∀ g, g ≠ q → w'.heap[g]? = w.heap[g]?) : StrsV S (.slice a n c) w' := by
  obtain ⟨a', cap, hv, h1, h2, h3⟩ := h
  refine ⟨a', cap, hv, h1, h2, fun k s hk => ?_⟩
  obtain ⟨g, o, ha, hg, hc⟩ := h3 k s hk
  simp only [Value.slice.injEq] at hv
  exact ⟨g, o, ha, by rw [hs]; exact hg, (World.cell?_of_block (hf g (hq g o (hv.1.trans ha)))).trans hc⟩
def MacOk (W : World) (m : Xm) (e : Ending) (w' : World) : Prop := ∃ pv bv, e = .returned (.tuple #[macV m pv bv, .slice none 0 0]) ∧ MacAt m pv bv w' ∧ Below W.heap.size W w'

set_option maxRecDepth 100000 in
set_option maxHeartbeats 12800000 in
theorem rparse_any {T : List Xt} {a : Option Addr} {n cap : Nat} {W : World} (h : ToksX T (.slice a n cap) W) {m : Xm} (hp : parseL T = .inl m) (hf : m.fn = true) (hv : m.va = false) (hps : m.ps ≠ []) (hbd : m.bd ≠ []) (hT : T.length ≤ 100000) : Calls Try.prog 13 #[.slice a n cap] W (MacOk W m) := by
  obtain ⟨t, u, r, q, F⟩ := parse_fd hp hf hv hps
  have hlay := F.lay
  subst hlay
  obtain ⟨hn, hc1, hc2⟩ := h.len
  obtain ⟨t0, u0, ht0, hu0, -⟩ := row_turn (T := r) (out := []) (i := 0) (by rw [List.drop_zero]; exact F.row)
  have hr2 : 2 ≤ r.length := by
    have := (List.getElem?_eq_some_iff.1 hu0).1
    omega
  simp only [List.length_cons] at hn hT
  unfold maxLen at hc2
  obtain ⟨g, o, ta, tn, tc, rfl, hg, -, ⟨c0, c1, c2, c3, c4, c5, c6, c7⟩, -⟩ := h.get (k := 0) (t := t) rfl
  obtain ⟨g', o', ua, un, uc, hga, -, -, hcu, -⟩ := h.get (k := 1) (t := u) rfl
  simp only [Option.some.injEq, Addr.mk.injEq, and_true] at hga
  obtain ⟨rfl, rfl⟩ := hga
  simp only [Nat.zero_mul, Nat.add_zero] at c0 c1 c2 c3 c4 c5 c6 c7
  rw [Nat.one_mul] at hcu
  have hk := F.tk
  have hk' : (t.k != 1) = false := by simp [hk]
  have HKE : Hid (∀ X : World, Calls Try.prog 26 #[.string t.x] X (BoolPost false X)) := Lib.hid (fun X => rKept_no t.x F.res X)
  have HIS : Hid (∀ X : World, Calls Try.prog 27 #[.agg #[.int .i64 u.k, .string u.x, .bool u.sp, .string u.g, .int .i64 u.f, .int .i64 u.t, .bool u.d, .slice ua un uc], .string ⟨#[40]⟩] X (BoolNew true X)) := Lib.hid (fun X => F.opn ▸ isX_any u ⟨#[40]⟩ ua un uc X)
  have h2 := h.two
  have HPR : Hid (∀ X : World, Below W.heap.size W X → Calls Try.prog 28 #[.slice (some ⟨g, o + 8 + 8, none⟩) (n - 1 - 1) (cap - 1 - 1)] X (ParamsPost X r m.ps q)) := Lib.hid (fun X hX => rparams_any (h2.over hX) F.row F.shut (by omega))
  have HF := Lib.hid F
  obtain ⟨i0, hi, hz0, hz1, hz2⟩ := info_parts Try.infoTokC
  have hqn : q ≠ [] := fun e => by
    have e2 := F.mac
    rw [e] at e2
    exact hbd (by rw [e2]; rfl)
  have HQN := Lib.hid hqn
  have hmv : ∀ pv bv : Value, macV m pv bv = .agg #[.string t.x, .bool true, .bool false, pv, bv, .string t.g, .int .i64 t.f, .int .i64 t.t] := fun pv bv => by rw [F.mac]; rfl
  have HMV := Lib.hid hmv
  have HILL : Hid (∀ (pv bv : Value) (X : World), MacAt m pv bv X → Calls Try.prog 29 #[.agg #[.string t.x, .bool true, .bool false, pv, bv, .string t.g, .int .i64 t.f, .int .i64 t.t]] X (IntNew (-1) X)) := Lib.hid (fun pv bv X hX => hmv pv bv ▸ rill_no hX hf hv (by
    intro i v hv'
    have e2 := F.mac
    have e3 : m.bd = bareL q := by rw [e2]
    rw [e3] at hv' ⊢
    exact F.good i v hv') (by
    have e2 := F.mac
    have e3 : m.bd = bareL q := by rw [e2]
    obtain ⟨i9, hd⟩ : ∃ k, q = r.drop k := row_drop F.row
    rw [e3, bareL_len, hd, List.length_drop]
    omega))
  have HSP := Lib.hid F.sp
  rw [F.sp] at HIS
  have HPZ := Lib.hid (pz_start W t)
  have HGW := Lib.hid hg
  have HCU := Lib.hid hcu
  have H2 := Lib.hid h2
  have hcap1 : ¬ cap = 1 := by omega
  have hcap2 : ¬ cap - 1 = 1 := by omega
  have hn1 : (1 : Nat) ≤ n := by omega
  have hn2 : (1 : Nat) ≤ n - 1 := by omega
  have hne : ((n : Int) == 0) = false := by rw [beq_eq_false_iff_ne]; omega
  have hpos : (0 : Int) < ((n - 1 : Nat) : Int) := by omega
  have HN := Lib.hid hn
  have HT := Lib.hid hT
  have HBD : Hid (m.bd = bareL q) := Lib.hid (by rw [F.mac])
  clear F h hp hf hv hps hT hk hn h2 ht0 hu0 hcu hmv hqn hbd
  go_enter Try.func13, Try.ntmps13
  go_wp2_with (first
    | (go_at_call 26; (with_reducible refine (HKE.out _).mono ?_); rintro e w1 ⟨rfl, rfl⟩))
  go_region
  obtain ⟨W2, hW2⟩ : ∃ X, ((W.alloc (.cells #[.string ⟨#[]⟩, .bool false, .bool false, .slice none 0 0, .slice none 0 0, .string ⟨#[]⟩, .int .i64 0, .int .i64 0] 38)).alloc (.cells #[.string t.x, .bool false, .bool false, .slice none 0 0, .slice none 0 0, .string t.g, .int .i64 t.f, .int .i64 t.t] 38)).drew = X := ⟨_, rfl⟩
  obtain ⟨b4, hb4⟩ : ∃ b, W.heap.size + 1 = b := ⟨_, rfl⟩
  rw [hW2, hb4] at HPZ
  rw [hW2, hb4]
  clear hW2 hb4 c0 c1 c2 c3 c4 c5 c6 c7
  obtain ⟨d0, d1, d2, d3, d4, d5, d6, d7⟩ := HCU.out.next HPZ.out.low HGW.out
  rw [HSP.out] at d2
  go_wp2_with (first
    | (go_at_call 27; (with_reducible refine (HIS.out _).mono ?_); rintro e w3 ⟨rfl, hb3⟩; clear d0 d1 d2 d3 d4 d5 d6 d7; have HPZ3 := Lib.hid (HPZ.out.over hb3); clear hb3; (obtain ⟨-, -, d2, -⟩ := HCU.out.next HPZ3.out.low HGW.out); rw [HSP.out] at d2)
    | (go_at_call 28; (with_reducible refine (HPR.out _ HPZ3.out.low).mono ?_); rintro e w4 ⟨pa, pn, pc, k, rfl, hpv, hqk, hkl⟩; have HPZ4 := Lib.hid (HPZ3.out.over hpv.2); have HPV := Lib.hid hpv; have HB34 := Lib.hid (row_lt HPZ3.out.box); have HQK := Lib.hid hqk; (have hkn : 1 + k ≤ n - 1 := (by have := HN.out; omega)); (have hkI : 1 + (k : Int) ≤ ((n - 1 : Nat) : Int) := (by omega)); (obtain ⟨P, hP, hPv⟩ := (read_rest H2.out hqk hkl).pv (fun e => by cases e)); (have hq1 := List.length_pos_iff.2 HQN.out); (have hm1 : 1 ≤ n - 1 - (1 + k) := (by have := HN.out; rw [hqk, List.length_drop] at hq1; omega)); (have hmI : (0 : Int) < ((n - 1 - (1 + k) : Nat) : Int) := (by omega)); (have hc3 : ¬ cap - 1 = 1 + k := (by omega)); (have hm5 : n - 1 - (1 + k) ≤ 100000 := (by have := HT.out; have := HN.out; omega)); have HPP := Lib.hid hP; have HPQ := Lib.hid hPv; have HSI := Lib.hid hPv.sits; have HONE := Lib.hid (xcells_oneP hPv); have HPN : Hid (P ≠ []) := Lib.hid (fun e => HQN.out (by rw [← hP, e]; rfl)); have HPZ5 := Lib.hid (HPZ4.out.set3 (.slice pa pn pc)); clear hpv hqk hkl hP hPv hq1; (obtain ⟨⟨x0, x1, x2, x3, x4, x5, x6, x7⟩, xf⟩ := HPZ4.out.cells))
    | (at_builtin; refine wpList_append_ex rfl (.tmp 89) (.tmp 90) 28 rfl _ (app_up Try.underlying28 hi hz0 hz1 hz2 rfl (by decide) (by decide) (up_empty3 w4 b4 _ _ _) (HPQ.out.over (HPZ5.out.low.alloc HPZ5.out.low.size _)).src HONE.out (by omega)) ?_; intro v8 w8 hu8; simp only [Nat.zero_add, List.nil_append] at hu8; (obtain ⟨a8, c8, rfl, -, -, -⟩ := row_form hu8.1); have hb8 := hu8.2; (obtain ⟨g8, rfl, hz1, hz2, hz8, hgl, ⟨sp8, y2⟩, y3, y4, y5, hz9, hx9⟩ := body_copied HPZ5.out HSI.out hu8 HPN.out); (obtain ⟨⟨p0, p1, p2, p3, p4, p5, p6, p7⟩, pf⟩ := hz8.cells); (have y6 : g8 ≠ b4 := Ne.symm y4); have HPZ9 := Lib.hid hz9; have HX9 := Lib.hid hx9; have HPV9 := Lib.hid (strs_kept (v4 := .slice (some ⟨g8, 0, none⟩) (n - 1 - (1 + k)) c8) (v5 := .bool false) HPV.out HB34.out hb8 hgl); unfold maxLen at hz2; have HMA : Hid (MacAt m (.slice pa pn pc) (.slice (some ⟨g8, 0, none⟩) (n - 1 - (1 + k)) c8) ((w8.setCell ⟨b4, 4, none⟩ (.slice (some ⟨g8, 0, none⟩) (n - 1 - (1 + k)) c8)).setCell ⟨g8, 2, none⟩ (.bool false))) := Lib.hid ⟨HPV9.out, by rw [HBD.out, ← HPP.out]; exact HX9.out⟩; clear hu8 hz8 hz9 hx9 hb8 hgl x0 x1 x2 x3 x4 x5 x6 x7 xf)
    | (go_at_call 29; (with_reducible refine (HILL.out _ _ _ HMA.out).mono ?_); rintro e w10 ⟨rfl, hb10⟩; have HPZ10 := Lib.hid (HPZ9.out.over hb10); have HMA10 := Lib.hid (HMA.out.over hb10); (obtain ⟨⟨x0, x1, x2, x3, x4, x5, x6, x7⟩, xf⟩ := HPZ10.out.cells); (obtain ⟨z0, z1, z2, z3, z4, z5, z6, z7⟩ := cells8 HPZ10.out.res); (have zf : ∀ j, w10.frozen? ⟨W.heap.size, j, none⟩ = false := fun _ => Lib.frozen_of_heap HPZ10.out.res _); clear hb10))
  obtain ⟨X, hX, ⟨e0, e1, e2, e3, e4, e5, e6, e7⟩, hB, -, hfar, hsz⟩ := st8_done HPZ10.out.res HPZ10.out.low (Nat.le_refl _) (.string t.x) (.bool true) (.bool false) (.slice pa pn pc) (.slice (some ⟨g8, 0, none⟩) (n - 1 - (1 + k)) c8) (.string t.g) (.int .i64 t.f) (.int .i64 t.t)
  have hgo : ∀ g' o', pa = some ⟨g', o', none⟩ → g' ≠ W.heap.size := fun g' o' e => by
    subst e
    have := (World.ownsRow.lt HPV.out.1 g' rfl).1
    have := HB34.out
    have := HPZ10.out.ne
    omega
  have hma : MacAt m (.slice pa pn pc) (.slice (some ⟨g8, 0, none⟩) (n - 1 - (1 + k)) c8) X := ⟨HMA10.out.1.offq hgo hsz hfar, HMA10.out.2.offT HPZ10.out.res hsz hfar⟩
  rw [hX]
  exact bodyPost_ret (v := .tuple #[.agg #[.string t.x, .bool true, .bool false, .slice pa pn pc, .slice (some ⟨g8, 0, none⟩) (n - 1 - (1 + k)) c8, .string t.g, .int .i64 t.f, .int .i64 t.t], .slice none 0 0]) (by simp [results, Try.results13, go_sem, e0, e1, e2, e3, e4, e5, e6, e7]) rfl ⟨.slice pa pn pc, .slice (some ⟨g8, 0, none⟩) (n - 1 - (1 + k)) c8, by rw [HMV.out], hma, hB⟩

end Go.Proofs.Ytobplffailbkbaa
